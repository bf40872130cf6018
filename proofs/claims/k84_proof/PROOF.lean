import PyProof.Rows.All
import Wide.All
import OpenK.AllK
import Wide.FinOn
import Lean
import PyProof.EqAt
import PyProof.EqKinds
import PyProof.TupleCall
import PyProof.ExcBaseAll.ValueError
import PyProof.ExcAttrAll.ValueError
import PyProof.NsDelKeeps
import PySem.Challenge.RW_dutyproof_k84_whole_what_others_keep
def zzp:Nat->Lean.TSyntax `term->Lean.MacroM (Lean.TSyntax `rcasesPat)|0,_=>Lean.Macro.throwUnsupported|n+1,x=>match x with|`(#[$y,*])=>do `(rcasesPat|⟨$[$(<-y.getElems.mapM (zzp n)):rcasesPat],*⟩)|`($i:ident)=>`(rcasesPat|$i:ident)|_=>`(rcasesPat|_)
local macro_rules|`(tactic|let#[$y,*]:=$e)=>do `(tactic|obtain $(<-zzp 99 (<-`(#[$y,*]))):rcasesPat:=$e)
local macro_rules|`(tactic|calc $e:term)=>`(tactic|refine $e)
local macro_rules|`(tactic|show $e)=>`(tactic|exact $e)
local macro_rules|`(command|def $i:declId $s:optDeclSig:=by $t)=>`(command|theorem $i:declId $(⟨Lean.mkNode ``Lean.Parser.Command.declSig #[s.raw[0],s.raw[1][0]]⟩):declSig:=by $t)
local macro_rules|`(tactic|simp![$x,*]$[$l]?)=>`(tactic|simp only[$x,*]$[$l]?)
open Option renaming some→B,none→Ze,map_eq_some_iff→Z6,isSome_iff_exists→qI,bind_eq_some_iff→yy
open PySem renaming wpAny_bind→Zb,wpAny_pure→Zj,Value→Zo,wpAny→Zw,Shared→Zx,model→Zy,mainGlobals→Z2,Addr→Z4,starEach→ZH,wpAny_holding→ZT,Program→ZU,Around→bP,wpAny_mono→c6,wpAny_Call_Name_kw→hV,mem_of_lookup→jH,World→bq,codeAny_builtin→iK,wpAny_field→fw,wpAny_setField→iL,wpAny_callSpecial?_slot→mE,rawInt→cA,compareOp→dU,wpAny_newObj_type→j7,wpAny_call_entry→j8,Heap→aM,assignEach→fY,Builtin→dz,sizeLine_eq→iM,wpAny_tryCatch→j9,wpAny_standAt→jI,plainId_quiet→jJ,eval→a0,binaryOp→fE,wpAny_seqItems→lM,bootBuiltins→ka,wpAny_pyIter_list→nA,FuncData→gY,NameKind→nB,codeAny_call_builtin→qJ,wpAny_truthy_bool→oU,Spec→Zca,wpAny_rule→jK,pyNext→dX,wpAny_loadPart'→sf,backTo→dY,wpAny_letGo→kx,wpAny_setState_of→qK,wpAny_attempt→nD,wpAny_setEntries_of→sg,wpAny_askSetting→qL,scanBound→kc,wpAny_getItem_str_slice→uu,sliceBounds→mF,codeAny→iN,wpAny_updateSeq→qM,wpAny_newList→oV,Stmt→dZ,foldedSetIterable→si,wpAny_loadPart_at→sj,Scope→eL,keywordEach→nE,wpAny_isInstance→sk,codeAny_mono→oW,holding→jt,attributeBase→qN,behindInMarks→qO,ExceptHandler→Eu,intKind→qP,wpAny_execs_nil→su,wpAny_pyIter_tuple→uw,sysModules→nF,builtinsNs→nG,wpAny_pyNext_list_item→yz,wpAny_pyIter_enum→ux,plainObj_wpAny_Assign_Attribute→Ew,builtinLookup_eq_fast→yA,swapsWith→nH,wpAny_call→oX,closureFor→oY,wpAny_of_eq→qQ,argsOk→jL,letOwnedTupleGo→uA,post_val_or_str→uB,getItem→lN,wpAny_typeOf→sv,getMethod→oZ,wpAny_runValue→uC,isSubtype_stop→uD,slot_listiter_next→yB,pyIter→ke,IsPart→kg,call_meets→qR,backToKw→nJ,wpAny_letOwnedTupleGo_enum→Ey,wpAny_fieldsOf→uE,fits_of_scanBound→yC,assignInOrder→uF,intBits_le_64→uG,wpAny_getItem_list_slice→Ez,strKind→uH,wpAny_pyNext_tuple_item→EA,codeAmong→qS,lastMarks→qT,seqItems?→qU,wpAny_pyIter_tupleiter→EB,wpAny_pyIter_rangeiter→EC,assign→lO,BindsTo→nK,standAt→nL,typeOf→lP,PyData→lQ,ExcBaseFacts→uI,setNext→nM,wpAny_specialOf→yD,codeAny_of_tree→yE,typeLookup_type→yF,wpAny_pyIter_listiter→ED,entryFor→qV,unpackItems→uJ,wpAny_loadPart→yG,bindArgs→qW,seqIndex_of→uK,subscripted→uL,richCompare→uM,excClassObj→uN,hashInt→o1,Keyword→MR,callerA→o2,noteFrame→sx,setFlight→sy,pickOrder→sA,wpAny_handled→yH,cLine→ky,wpAny_load→uO,isTrue→nN,typeLookup→uP,intKind_is→uQ,raiseNew→sC,Within→yI,seqIndex_neg→yJ,valueAt→qX,callWith→sD,relayAll→sE,Operator→sF,Result→qY,slicePick→uR,Arguments→uS,strValues→uT
open Nat renaming le_trans→Zc,add_le_add_right→Zh,le_refl→Zk,le_of_eq→Zn,le_add_right→Zq,ne_of_lt→Z1,le_of_lt→ZC,lt_of_lt_of_le→ZD,zero_le→ZF,le_of_not_lt→ZO,lt_succ_self→ZX,ne_of_gt→d0,le_antisymm→gf,add_le_of_le_sub'→kh,lt_of_le_of_ne→ju,lt_succ_of_lt→jv,lt_of_le_of_lt→ki,succ_pos→gZ,lt_irrefl→i3,le_succ→hb,le_of_add_le_add_right→qZ,lt_of_succ_lt→mG,le_of_lt_succ→mH,le_add_left_of_le→o3,lt_of_sub_eq_succ→o4,add_right_comm→nO,sub_add_cancel→o5,zero_lt_of_lt→o7,add_sub_cancel'→q7,sub_eq_zero_of_le→sG,le_add_left→o9,add_comm→mI,lt_succ_of_le→rf,le_succ_of_le→rg,sub_succ_lt_self→sH,add_assoc→nP,min_le_right→rh,lt_of_lt_of_eq→sI,pos_of_ne_zero→sJ,not_lt_zero→rj,le_add_of_sub_le→uU,add_lt_add_of_le_of_lt→yK,not_le_of_lt→sL,sub_le→nQ,sub_pos_of_lt→uV,lt_trans→rl,add_le_add→sM,succ_le_succ→uW,le_sub_one_of_lt→yL,min_eq_left→uX,add_lt_add_of_lt_of_le→EE,not_lt_of_le→yM,add_lt_of_lt_sub'→EF,le_of_ble_eq_true→EG,zero_add→yN,pred→sN,sub_self→yO
open List renaming getElem?_eq_getElem→Zd,mem_cons_of_mem→Zm,length_map→Zp,mem_append_right→Zr,getElem?_eq_some_iff→Zu,getD_eq_getElem?_getD→Zv,getElem?_map→Z5,mem_cons_self→Z7,mem_singleton→Z8,getElem_mem→Z9,mem_cons→ZA,length_append→ZB,getElem?_append_left→ZE,size_toArray→ZI,range→ZK,getElem?_set_ne→ZL,getElem?_set_self→ZM,getElem?_append_right→ZN,mem_append→ZQ,map_cons→ZW,mem_map→ZY,mem_append_left→ZZ,mem_iff_getElem→iO,mem_range→fx,append_assoc→hX,replicate→fF,length_reverse→jw,all_cons→fG,length_cons→iP,cons_append→iQ,not_mem_nil→iR,getElem_map→iS,map_map→fy,lookup_cons→i4,nil_append→jM,eq_nil_of_length_eq_zero→rm,set_append_left→mJ,drop_eq_getElem_cons→pb,take_of_length_le→nR,map_append→kj,length_take→kz,getElem?_eq_none→nU,take_succ_eq_append_getElem→sO,mem_of_mem_take→nV,length_singleton→pd,pairwise_cons→nW,all_eq_true→mK,ext_getElem→mL,toArray→ba,ext_getElem?→nX,append_nil→mM,reverse_cons→pe,length_range→ph,map_congr_left→rn,length_replicate→sP,length_set→pj,getElem?_replicate→uY,length_drop→rq,filter_cons→rr,mapM_cons→pq,length_eq_zero_iff→uZ,getElem?_take→sQ,nodup_cons→rA,any_cons→pv,sum_cons→px,getElem?_toArray→u3,mem_of_getElem?→u4,pairwise_append→u5,mem_reverse→sR,filterMap_cons→u6,getElem?_range→u7,findIdx?_eq_some_iff_getElem→EH,drop_eq_nil_of_le→yP,length_filter_le→yQ,drop_length→u9,take_length→va,nodup_range→vc,lookup→rB,getElem_reverse→yR,mem_filter→vd,map_eq_nil_iff→yS,flatMap_append→yT,length_eraseIdx_of_lt→EI,set_cons_zero→yU,getElem_range→yV,pairwise_iff_getElem→EJ,findIdx?_eq_none_iff→EK,pairwise_map→yW,length_erase_of_mem→EL,map_take→vf,getElem_inj→yX,pairwise_lt_range→EM,set_set→vg,map_nil→vh,of_mem_zip→yY,range_succ→yZ,dropLast_eq_take→EN,getElem?_reverse→EO,mem_of_mem_erase→ER
open PySem.Heap renaming get?_push_of_some→Zg,get?_push_size→Zt,lt_size→Z0,get?_update_other→Z3,get?_update_self→i5,ExtBut→eQ,SameBut→jx,size_push→nY,get?_none_of_le→vi,get?_push_at→y8,MadeExcOf→y9
open Bool renaming true→Zi,false→Zl,and_eq_true→Zs,false_ne_true→Zz,false_eq_true→lT,or_eq_true→kD,not_eq_true'→nZ,eq_false_iff→rC,and_eq_true_iff→sS,eq_iff_iff→vj,or_eq_true_iff→za
open PySem.Str renaming ofString→ZG,empty→iT,length_append→rE,length→vk
open Int renaming le_refl→ZJ,emod_lt_of_pos→ZS,le_of_lt→ZV,emod_nonneg→fH,lt_of_le_of_lt→iU,le_trans→eN,lt_of_lt_of_le→jy,lt_add_of_pos_right→lU,mul_le_mul_of_nonneg_right→pz,toNat_natCast→jN,not_lt→hi,natCast_nonneg→og,mul_le_mul_of_nonneg_left→vm,le_of_eq→lV,not_le→kE,ne_of_gt→oh,toNat→kG,le_add_of_nonneg_right→zb,ediv_nonneg→sT,le_ediv_iff_mul_le→zc,ediv_lt_iff_lt_mul→zd,ediv_le_ediv→vn,zero_add→sU,le_add_of_nonneg_left→ES,sub_pos_of_lt→ze,ofNat_le→vo,le_antisymm→zf,add_mul→vp,ofNat_lt→zg,add_comm→zh
open Ne renaming symm→ZP
open PySem.Obj renaming data_mapFields→ZR,mapFields→eR,mapSeq→dq,isFreed_of_fields→lW,cls_mapFields→pA
open Array renaming length_toList→iV,getElem?_eq_getElem→lX,getElem?_eq_some_iff→pB,getD_eq_getD_getElem?→sV,getElem?_toList→vq,getElem?_eq_none→zi,append_assoc→zj,find?_toList→zk,toList_push→zl
open PyProof.Rows renaming seqObj→bf,callWith_type1→om,callWith_builtin1→sW,evalAll_cons→rF,get?_update_seq→mO,IntsAre→fz,signs→rG,evalAll_nil→vr,spliced_more→zm,spliced_none→zo,listUpdate_at→rJ,subscriptTail_builtinR→zp,slot_tuple_getitem→ET,size_push'→pE,mirror_size→rK,AllBare→lY,subscriptTail→vt,envOfC→lZ,callWith_kw→vv
open PySem.PyData renaming canLayAll0→iW,canLay0→iX,eqv→h2,eqvAll→oo,int→rL,list→vw
open PySem.Value renaming none→dA,ref→hE,type→mP,int→l7,builtin→sX,bool→rM
open PySem.Heap.SameBut renaming update→km
open PySem.Around renaming under_plainId→kH
open Option.some renaming inj→i6
open PySem.SetTable renaming below→i7,grown→pF,has→zq
open True renaming intro→fJ
open PySem.F renaming plain_max_loop→oq,plain_list_iadd→vy,plainAttrs_list→vz,entry_max_loop→vA,excBase_ValueError→zr,entry_proto_collect→EU,args_tuple_add_2→EV,entry_tuple_add→EW,entry_list_iadd→EX,slot_tuple_add→EY,slot_set_iter→EZ
open PySem.NameKind renaming free→jz,cell→vB
open False renaming elim→gh
open PySem.Builtin.Builtins renaming bindParams→rN
open ForInStep renaming yield→l8
open PyProof.Rows.F renaming plain_set_update_loop→zt,entry_set_update_loop→E0
open PySem.Builtin.Slice renaming slicePlaces→vC,sliceAdjust→zw,sliceApplied→E2
open PySem.Builtin.Tuple renaming tupleExact→vD
open PySem.W renaming kas_rev→i8,kas_asc→jA,kas_place→pG,kas_sort→ow,kas_desc→pH,kas_descPart→vE,kas_count→vF
open List.Perm renaming refl→rO
open PySem.Builtin.SmallTypes renaming nextOf→zx
open PySem.Builtin.List renaming listTooLong→zy,listExtendWith→E3,listSameRef→E4
open PySem.Code renaming quiet_builtin→vG
open PySem.Calls renaming Name_function_global→E5,spliced_cons→zz,callWith_builtin→E6
open PySem.Builtin.Range renaming rangeSize→E7
open PySem.Txt renaming slice_le→vH,slice→sY
open List.Pairwise renaming sublist→E8
open PyProof.Rows.IntsAre renaming int_at→zA
open PySem.Data renaming cell→sZ
open PySem.CmpOf renaming ints_gt→zB,ints_lt→zC
open PySem.Paired renaming length→zD
open PySem.Shared renaming TypeIs→zE
open Classical renaming em→zF
open PySem.pickOrder renaming go→zG
open Sum renaming inl→tf,inr→ti
noncomputable section
set_option compiler.extract_closed false
set_option bootstrap.genMatcherCode false
set_option genSizeOf false
set_option Elab.async false
set_option linter.all false
set_option maxRecDepth 100000
abbrev aF:=PySem.Str->Option PySem.Addr
abbrev aH:=PySem.Value->PySem.Shared->Prop
abbrev aQ:=List<|PySem.Addr×PySem.Obj
local macro_rules|`(#[$a,$b,$c,*])=>`(⟨$a,$b,$c,*⟩)|`(#[$a,$b])=>`(⟨$a,$b⟩)
local macro_rules|`(00)=>`(by omega)|`(01)=>`(by decide)|`(02)=>`(by kernel_rfl)|`(03)=>`(by simp)|`(04)=>`(by rfl)|`(05)=>`(by lia)|`(06)=>`(by assumption)
theorem MS{l r m K:Nat}(a:l<=m)(d:r-l<=K):r-(m+1)<=K-1:=Nat.sub_le_sub_right (Zc (Nat.sub_le_sub_left a r) d) 1
theorem MT{l r m K:Nat}(a:l<=m)(b:m<r)(d:r-l<=K):m-l<=K-1:=yL<|ZD (Nat.sub_lt_sub_right a b) d
theorem hvE{l o:Nat}(h:l<o):l+(o-l)/2<o:=EF<|Nat.div_lt_self (uV h) 01
theorem zH{l r:Nat}(g:l<r):l<=(l+r)/2/\(l+r)/2<r:=⟨(Nat.le_div_iff_mul_le 01).mpr<|Nat.mul_two l▸Nat.add_le_add_left (ZC g) l,Nat.div_lt_of_lt_mul<|Nat.two_mul r▸Nat.add_lt_add_right g r⟩
def E9{a z:Nat}(h:a<z):min a z+(z-(a+1)+1)=z:=by rw[uX<|ZC h];show(Nat.succ_add a _).symm.trans<|q7 h
def hvS{i j bD:Nat}(a:bD<=i)(b:i<j):j-bD=i-bD+1+(j-i-1):=by rw[<-Nat.sub_add_sub_cancel (ZC b) a,mI,nP,mI 1,o5<|uV b]
theorem hvT{a y:Nat}(h:0<y-a):a+(y-a-1)=y-1:=(Nat.add_sub_assoc h a).symm.trans (congrArg (· - 1)<|q7<|ZC<|Nat.lt_of_sub_pos h)
theorem hvR{x y:Int}{i j:Nat}(h:i<4096)(e:x<y\/x=y/\i<=j):x*4096+i<=y*4096+j:=05
theorem hvQ{x y:Int}{i j:Nat}(h:i<4096)(k:j<4096)(e:x*4096+i=y*4096+j):i=j:=05
def Fb(n:Nat)(i:Int):max 0 (min (if i<0 then i+ ↑n else i) ↑n)=((if i<0 then(i+n).toNat else min i.toNat n:Nat):Int):=by
 by_cases h:i<0
 .rw[if_pos h,if_pos h,Int.ofNat_toNat,Int.max_comm,Int.min_eq_left<|eN (Int.add_le_add_right (ZV h) n)<|lV<|sU _]
 .rw[if_neg h,if_neg h];let#[k,rfl]:=Int.eq_ofNat_of_zero_le<|hi.mp h;change max 0 (min (k:Int) n)=(min k n:Nat);rcases Nat.le_total k n with a|a
  .rw[uX a,Int.min_eq_left<|vo.mpr a];show Int.max_eq_right<|og _
  .rw[Nat.min_eq_right a,Int.min_eq_right<|vo.mpr a];show Int.max_eq_right<|og _
def hvW{x i j S:Nat}(h:0<i)(e:x+i+j<S):x+1+(i-1)+j<S:=by rw[nP x,mI 1,o5 h];show e
def hvV{x i j S:Nat}(h:0<j)(e:x+i+j<S):x+1+i+(j-1)<S:=by rw[nO x 1 i,nP<|x+i,mI 1,o5 h];show e
theorem Zf{p:Prop}(h:False):p:=h.elim
namespace L2
open PySem PySem.Spec PyProof.Rows
abbrev _root_.Wa:=List<|Nat×Int×Int
abbrev _root_.Wc:=Array<|Option Zo
abbrev _root_.Wg:=Option<|Zo×Nat
abbrev _root_.Wh:=List<|Str×Bool
abbrev _root_.Wj:=List<|Str×nB
abbrev _root_.Wk:=Array GenState
abbrev _root_.Wl:=List<|Int×Tok
abbrev _root_.Wm:=Array<|Int×Zo
abbrev _root_.Wn:=List<|Str×Zo
abbrev _root_.Wq:=List<|Str×Z4
abbrev _root_.Wv:=Option Expr
abbrev _root_.Ww:=Option Bool
abbrev _root_.Wx:=Option Str
abbrev _root_.Wy:=Option nB
abbrev _root_.Wz:=Option Int
abbrev _root_.Ta:=Option Nat
abbrev _root_.Tc:=Option Zo
abbrev _root_.Td:=Option Z4
abbrev _root_.Te:=List Expr
abbrev _root_.Tg:=Array Nat
abbrev _root_.Ti:=Array Zo
abbrev _root_.Tk:=List Str
abbrev _root_.Tl:=List Env
abbrev _root_.Tn:=List dZ
abbrev _root_.To:=List MR
abbrev _root_.Tp:=List Int
abbrev _root_.Tq:=List Nat
abbrev _root_.Ts:=List Eu
abbrev _root_.Tu:=List Z4
abbrev _root_.Tv:=List Zo
inductive aE(A:bP)(h:aM):Prop|calm:A.handled=Ze->aE A h|warm {x:Z4}{ox:Obj}{vx:Ti}:A.handled=B (.ref x)->h.get? x=B ox->ox.data=.fields vx->vx[2]?=B .none->aE A h
def aE.mono(c:aE A h)(k:∀b o,h.get? b=B o->h'.get? b=B o):aE A h':=by cases c with|calm e=>show .calm e|warm e g d x=>show .warm e (k _ _ g) d x
def aE.but(c:aE A h)(e:eQ it h h')(g:h.get? it=B o)(d:o.data=.fields vs)(n:vs[2]?≠B .none):aE A h':=by cases c with|calm e=>show .calm e|@warm x E F D C m j=>calc .warm D (e _ _ (λz=>?_) C) m j;subst z;rw[C]at g;cases g;rw[m]at d;cases d;show n j
section
variable{prog:ZU}{w:bq}{A:bP}{E:aH}{s:Zx}
theorem MU:qV table "proto.unchain"=B dz.«proto.unchain» :=entryFor_of_tree 02
def MV(m:A.handled=B (.ref x))(C:s.heap.get? x=B ox)(dx:ox.data=.fields vx)(x2:vx[2]?=B .none)(ge:s.heap.get? e=B oe)(j:oe.data=.fields ve)(sz:2<ve.size)(ne:x≠e) (h:E (.ref e) {s with heap:=s.heap.update e (eR (·.setIfInBounds 2 (.ref x)))}):Zw (Zy prog w) A (sC (α:=α)<|.ref e) Q E s:=by
 unfold sC;calc Zb<|yH ?_;rw[m];change Zw _ _ (if (hE x != hE e)=Zi then _ else _) _ _ s;rw[if_pos<|by simp[bne_iff_ne];show ne];refine Zb<|ZT<|uC<|iK MU ?_
 .unfold dz.«proto.unchain»;dsimp only;calc Zb<|fw C dx x2 ?_;rw[if_pos 04];calc Zb<|Zj ?_;calc Zj ?_;unfold updateField;calc Zb<|Zb<|uO ge ?_;rw[j];dsimp only;rw[if_pos sz];show wpAny_update ge<|wpAny_throw h
def vI(c:aE A h1)(e1:eQ it s.heap h1) (D:∀h' e,eQ it s.heap h'->(∃o,h'.get? e=B o/\o.cls=.type "StopIteration")->E' (.ref e) {s with heap:=h'}):Zw (Zy prog w) A.in1 (newExc (.type "StopIteration") []>>=λe=>(sC e:Sem α)) Qf E' {s with heap:=h1}:=by
 calc Zb ?_;simp![newExc,newTuple];calc Zb (j7 ?_<|by size_fits);calc Zb (m:=firstArgMember _ _) (qQ (a:=dA) (by first|rfl|(simp![firstArgMember];rfl)) ?_);refine j7 ?_<|by size_fits
 cases c with|calm C=>simp![sC];calc Zb<|yH ?_;rw[show A.in1.handled=Ze from C];show Zb<|Zj<|wpAny_throw<|D _ _ ((e1.push _).push _) #[_,Zt _ rfl,rfl]|warm C H F E=>have j:=Zg (h:=h1) {cls:=mP "tuple",data:=Data.seq #[]} H;calc MV (A:=A.in1) C (Zg _ j) F E (Zt _ rfl) rfl (by simp;show o9 _ _) (Z1<|Z0 j) ?_;calc D _ _ (λb o n q=>?_) #[_,i5 _ (Zt _ rfl)<|lW<|ZR rfl _,pA _ _];have q1:=Zg (h:=h1) {cls:=mP "tuple",data:=Data.seq #[]} (e1 b o n q);rw[Z3 _ _<|d0<|Z0 q1];show Zg _ q1
def vJ:{F:String->dz // F "list_iterator.__next__"=dz.«list_iterator.__next__» /\F "tuple_iterator.__next__"=dz.«tuple_iterator.__next__»}:=#[_,rfl,rfl]
def zI{i n:Nat}(c:aE A s.heap)(ho:s.heap.get? it=B o)(hd:o.data=.fields (ba [.ref l,.int i 0]))(m:s.heap.get? l=B ol)(j:ol.data=.seq items n)(F:items[i]?=Ze) (D:∀h' e,eQ it s.heap h'->(∃o,h'.get? e=B o/\o.cls=.type "StopIteration")->E (.ref e) {s with heap:=h'}):Zw (Zy prog w) A.in1 (vJ.1 nm #[[.ref it],[]]) Q E s:=by change Zw _ _ (field _ 0>>=_) _ _ s;calc Zb<|fw (x:=.ref l) ho hd rfl ?_;calc(if_neg (c:=(hE l==dA)=Zi) Zz:ite _ _ _=_)▸ ?_;calc Zb<|fw (x:=.int i 0) ho hd rfl (Zb<|lM m j ?_);dsimp only;rw[jN,F];have C:=(km s.heap it<|eR λx=>x.setIfInBounds 0 dA).extBut;show Zb<|jK<|Zb<|iL ho hd 03<|vI (c.but C ho hd 03) C D
def Y0{T id:String}(sl:Slot T "__next__" id)(ty:s.TypeIs (.ref it) T)(en:qV table id=B b)(m:jL id #[[.ref it],[]]) (O:∀j:aH,(∀h' e,eQ it s.heap h'->(∃o,h'.get? e=B o/\o.cls=.type "StopIteration")->j (.ref e) {s with heap:=h'})->Zw (Zy prog w) A.in1 (b #[[.ref it],[]]) (λ_ _=>False) j s) (C:∀h',eQ it s.heap h'->Q Ze {s with heap:=h'}):Zw (Zy prog w) A (dX<|.ref it) Q E s:=by unfold dX;calc Zb<|nD<|mE (name:=ZG "__next__") ty sl<|j8 sl ty en (c6 (O _ λh' e x ⟨o,g,cl⟩=>?_) (λ_ _ z=>z.elim) λ_ _ z=>z) m;show Zb<|sk (T:="StopIteration") (b:=Zi) #[o,g,cl] uD<|Zj<|C _ x
theorem zJ(c:aE A s.heap)(j:s.heap.IsListIter it l i)(hl:s.heap.IsList l items)(H:items[i]?=Ze)
  (F:∀h',eQ it s.heap h'->Q Ze {s with heap:=h'}):Zw (Zy prog w) A (dX<|.ref it) Q E s:=
 let ⟨_,D,_,hd⟩:=id j
 let ⟨_,m,_,_,C⟩:=hl
 Y0 yB j.typeIs entry_listiter_next (args_listiter_next _) (λ_ k=>vJ.2.1▸zI c D hd m C H k) F
theorem zK(c:aE A s.heap)(j:s.heap.IsTupleIter it l i)(hl:s.heap.IsTuple l items)(I:items[i]?=Ze)
  (H:∀h',eQ it s.heap h'->Q Ze {s with heap:=h'}):Zw (Zy prog w) A (dX<|.ref it) Q E s:=
 let ⟨_,D,_,hd⟩:=id j
 let ⟨_,m,_,_,C⟩:=hl
 Y0 F.slot_tuple_iterator_next j.typeIs F.entry_tuple_iterator_next (F.args_tuple_iterator_next_1 _) (λ_ k=>vJ.2.2▸zI c D hd m C I k) H
def Fc{x j step:Int}(c:aE A s.heap)(m:IsRangeIter s.heap it x j step)(z:j<=0) (C:∀h',eQ it s.heap h'->Q Ze {s with heap:=h'}):Zw (Zy prog w) A (dX<|.ref it) Q E s:=by calc Y0 F.slot_range_iterator_next #[_,m,rfl] F.entry_range_iterator_next (F.args_range_iterator_next_1 _) (λD k=>?_) C;change Zw _ _ (field _ 0>>=_) _ _ s;calc Zb<|fw (x:=cA x) m rfl rfl (Zb<|fw (x:=cA j) m rfl rfl (Zb<|fw (x:=cA step) m rfl rfl ?_));change Zw _ _ (if j<=0 then _ else _) _ _ s;rw[if_pos z];show Zb<|jK<|Zb<|vI (s:=s) c (Heap.ExtBut.refl it s.heap) k
def i9(A:bP):Tu:=match A.handled with|some (.ref x)=>[x]|_=>[]
def aE.at(c:aE A h)(k:∀b∈i9 A,∀o,h.get? b=B o->h'.get? b=B o):aE A h':=by cases c with|calm e=>show .calm e|warm e g d x=>show .warm e (k _ (by simp[i9,e]) _ g) d x
theorem aE.lt(c:aE A h):∀b∈i9 A,b<h.objs.size:=λb O=>by cases c with|calm e=>simp[i9,e]at O|warm e g d x=>simp[i9,e]at O;subst O;show Z0 g
def aE.in1(c:aE A h):aE A.in1 h:=by cases c with|calm e=>show .calm e|warm e g d x=>show .warm e g d x
theorem vK(I m:Z4)(H:m≠I)(items:Ti):Walks prog w A I (I::m::i9 A) [I] items.size (λi v=>items[i]?=B v) (λi h=>(h.IsListIter I m i/\h.IsList m items)/\aE A h) where
 sub:=03
 frame:=λ_ _ _ st J=>#[#[st.1.1.at λo e=>J I 03 o e,st.1.2.at λo e=>J m 03 o e],st.2.at λb O=>J b<|by simp[O]]
 item:=λi s Q E Z st C=>by
  let#[o,L,_,hd]:=id st.1.1;refine yz st.1.1 st.1.2 (lX Z) λF D j=>?_
  show C _ F s.toks (lX Z) #[#[D,st.1.2.extBut j.extBut H],st.2.but j.extBut L hd 03] λb o O e=>j.extBut b o (by simpa using O) e
 done:=λs Q E st C=>zJ st.2 st.1.1 st.1.2 03 λF x=>C F s.toks λb o O e=>x b o (by simpa using O) e
 self:=λ_ _ _ _ st C=>ED st.1.1 C
theorem MW(I m:Z4)(H:m≠I)(items:Ti):Walks prog w A I (I::m::i9 A) [I] items.size (λi v=>items[i]?=B v) (λi h=>(h.IsTupleIter I m i/\h.IsTuple m items)/\aE A h) where
 sub:=03
 frame:=λ_ _ _ st J=>#[#[st.1.1.at λo e=>J I 03 o e,st.1.2.at λo e=>J m 03 o e],st.2.at λb O=>J b<|by simp[O]]
 item:=λi s Q E Z st C=>by
  let#[o,L,_,hd]:=id st.1.1;refine EA st.1.1 st.1.2 (lX Z) λF D j=>?_
  show C _ F s.toks (lX Z) #[#[D,st.1.2.extBut j.extBut H],st.2.but j.extBut L hd 03] λb o O e=>j.extBut b o (by simpa using O) e
 done:=λs Q E st C=>zK st.2 st.1.1 st.1.2 03 λF x=>C F s.toks λb o O e=>x b o (by simpa using O) e
 self:=λ_ _ _ _ st C=>EB st.1.1 C
theorem MX(I:Z4)(a c:Int)(n:Nat):Walks prog w A I (I::i9 A) [I] n (λi v=>∃t,v=.int (a+i*c) t) (λi h=>IsRangeIter h I (a+(i:Nat)*c) ((n:Int)-(i:Nat)) c/\aE A h) where
 sub:=03
 frame:=λ_ _ _ st F=>#[F I 03 _ st.1,st.2.at λb O=>F b<|by simp[O]]
 item:=λi s Q E Z st m=>by
  refine wpAny_pyNext_range_item st.1 (ze<|zg.mpr Z) λD C j=>m _ D _ #[_,rfl] #[?_,st.2.but j.extBut st.1 rfl (by simp[cA])] λb o O e=>j.extBut b o (by simpa using O) e
  rw[Int.natCast_add,vp,<-Int.add_assoc,<-Int.sub_sub,show((1:Nat):Int)=1 from rfl,Int.one_mul];show C
 done:=λs Q E st m=>Fc st.2 st.1 (lV<|Int.sub_self _) λD x=>m D s.toks λb o O e=>x b o (by simpa using O) e
 self:=λ_ _ _ _ st m=>EC st.1 m
def MY(c:aE A s.heap)(j:IsTup s.heap t items) (F:∀h',eQ s.heap.objs.size s.heap h'->Q items.toList {s with heap:=h'}):Zw (Zy prog w) A (uJ (.ref t) items.size Ze) Q E s:=by
 have ne:t≠s.heap.objs.size:=let ⟨_,D,_⟩:=j;Z1 (Z0 D);unfold uJ notIterableAtAll;calc Zb<|Zb<|yD j.typeIs slot_tuple_iter.lookup<|Zj ?_;simp![lT,if_false];refine Zb<|ZT<|iter_tuple j<|Zb<|ZT<|draw_tuple ne items.size 0 _ _ #[_,Zt _ rfl,rfl,rfl] (j.push _) (Zn<|yN _) λH C m=>?_
 rw[List.drop_zero,nR<|Zn iV,if_neg 03];refine Zb<|ZT<|zK (((c.mono λb o e=>Zg _ e)).but m.extBut (Zt _ rfl) rfl 03) C ((j.push _).extBut m.extBut ne) 03 λJ x=>?_
 simp![Option.isSome_none,lT,if_false];show Zj<|F J λb o O e=>x b o O<|m.extBut b o O<|Zg _ e
def MZ{x1}(c:aE A s.heap)(m:IsTup s.heap t items) (hn:(fY elts env).length=items.size)(j:(fY elts env).findIdx? (·.1)=Ze) (h:∀h',eQ s.heap.objs.size s.heap h'->Zw (Zy prog w) A (uF ((fY elts env).map (·.2)) items.toList) Q E {s with heap:=h'}):Zw (Zy prog w) A (lO (.Tuple elts x1 pos) env<|.ref t) Q E s:=by rw[assign_Tuple];calc Zb<|jI ?_;unfold unpack;rw[hn,j];show Zb<|ZT<|MY c m h
def Fd{Q:aH}(c:aE A s.heap)(cm:CmpOf prog w A.in1 op (λi v=>(ba [l7 a t,l7 b u])[i]?=B v) m)
  (h:∀h' tk,(∀c o,s.heap.get? c=B o->h'.get? c=B o)->Q (if m 1 0=Zi then .int b u else .int a t) {s with heap:=h',toks:=tk}):
  Zw (Zy prog w) A.in1 (ke<|.ref s.heap.objs.size) (λit s₂=>∃I fp wr n P St m,it=.ref I/\Walks prog w A.in1 I fp wr n P St/\St 0 s₂.heap/\(∀b∈fp,b<s₂.heap.objs.size)/\0<n/\CmpOf prog w A.in1 op P m /\
   ∀v h' tk,P (argBest m<|n-1) v->(∀b o,b∉wr->s₂.heap.get? b=B o->h'.get? b=B o)->Q v {s₂ with heap:=h',toks:=tk}) E {s with heap:=s.heap.push {cls:=.type "tuple",data:=.seq (ba [.int a t,.int b u])} }:=by
 have D:(s.heap.push {cls:=.type "tuple",data:=.seq (ba [.int a t,.int b u])}).IsTuple s.heap.objs.size (ba [.int a t,.int b u]):=#[_,Zt _ rfl,rfl,0,rfl];have sz:(s.heap.push {cls:=.type "tuple",data:=.seq (ba [.int a t,.int b u])}).objs.size=s.heap.objs.size+1:=nY ..;refine uw D #[_,_,[_],_,_,_,m,rfl,MW (A:=A.in1) _ s.heap.objs.size (by rw[sz];show Z1<|ZX _) _,#[#[#[_,Zt _ rfl,rfl,rfl],D.push _],?_],λx C=>?_,03,cm,λv h' tk H F=>?_]
 .show c.in1.mono λb o e=>Zg _<|Zg _ e
 .change x<((s.heap.push _).push _).objs.size;rw[nY,sz];rcases ZA.mp C with rfl|C
  .rw[sz];show ZX _
  .rcases ZA.mp C with rfl|C
   .show jv<|ZX _
   .show jv<|jv<|c.in1.lt x C
 .have q:=h h' tk λx o e=>F x o (λhm=>by have:=Z0 e;rw[Z8.mp hm,sz]at this;show i3 _<|mG this)<|Zg _<|Zg _ e
  have j:(ba [l7 a t,l7 b u])[if m 1 0=Zi then 1 else 0]?=B v:=H;by_cases z:m 1 0=Zi
  .rw[if_pos z]at j q;cases j;show q
  .rw[if_neg z]at j q;cases j;show q
theorem M0(c:aE A s.heap)
  (h:∀h' tk,(∀c o,s.heap.get? c=B o->h'.get? c=B o)->Q (if b>a then .int b u else .int a t) {s with heap:=h',toks:=tk}):Zw (Zy prog w) A (call (.builtin "max") [.int a t,.int b u]) Q E s:=
 call_max_two (Fd c (zB (λi=>if i=0 then a else b) λi v q=>by match i with|0=>cases q;show#[_,rfl]|1=>cases q;show#[_,rfl]|i+2=>cases q) λh' tk k=>by simpa using h h' tk k)
theorem M3(c:aE A s.heap) (h:∀h' tk,(∀c o,s.heap.get? c=B o->h'.get? c=B o)->Q (if b<a then .int b u else .int a t) {s with heap:=h',toks:=tk}):Zw (Zy prog w) A (call (.builtin "min") [.int a t,.int b u]) Q E s:=call_min_two (Fd c (zC (λi=>if i=0 then a else b) λi v q=>by match i with|0=>cases q;show#[_,rfl]|1=>cases q;show#[_,rfl]|i+2=>cases q) λh' tk k=>by simpa using h h' tk k)
def zL:{F:String->dz // F "str_iterator"=dz.«str_iterator.__next__» /\F "str_ascii_iterator"=dz.«str_ascii_iterator.__next__»}:=#[_,rfl,rfl]
def Fe(c:aE A s.heap)(m:s.heap.IsStrIter it ty x t i)(F:x.cps[i]?=Ze) (D:∀h' e,eQ it s.heap h'->(∃o,h'.get? e=B o/\o.cls=.type "StopIteration")->E (.ref e) {s with heap:=h'}):Zw (Zy prog w) A.in1 (zL.1 nm #[[.ref it],[]]) Q E s:=by let#[o,j,_,hd]:=m;change Zw _ _ (field _ 0>>=_) _ _ s;calc Zb<|fw (x:=.str x t) j hd rfl ?_;change Zw _ _ (field _ 1>>=_) _ _ s;calc Zb<|fw (x:=.int i 0) j hd rfl ?_;dsimp only;rw[jN,F];have C:=(km s.heap it<|eR λx=>x.setIfInBounds 0 dA).extBut;show Zb<|jK<|Zb<|iL j hd 03<|Zb<|kx<|vI (c.but C j hd 03) C D
theorem M4(c:aE A s.heap)(j:s.heap.IsStrIter it "str_ascii_iterator" x t i)(C:x.cps[i]?=Ze) (m:∀h',eQ it s.heap h'->Q Ze {s with heap:=h'}):Zw (Zy prog w) A (dX<|.ref it) Q E s:=Y0 F.slot_str_ascii_iterator_next j.typeIs F.entry_str_ascii_iterator_next (F.args_str_ascii_iterator_next_1 _) (λ_ k=>zL.2.2▸Fe c j C k) m
theorem M5(c:aE A s.heap)(j:s.heap.IsStrIter it "str_iterator" x t i)(C:x.cps[i]?=Ze) (m:∀h',eQ it s.heap h'->Q Ze {s with heap:=h'}):Zw (Zy prog w) A (dX<|.ref it) Q E s:=Y0 F.slot_str_iterator_next j.typeIs F.entry_str_iterator_next (F.args_str_iterator_next_1 _) (λ_ k=>zL.2.1▸Fe c j C k) m
def M6{i:Nat}(c:aE A s.heap)(D:IsEnum s.heap e it i old)(j:s.heap.IsListIter it l i)(hl:s.heap.IsList l items)(H:items[i]?=Ze) (J:∀h',eQ it s.heap h'->Q Ze {s with heap:=h'}):Zw (Zy prog w) A (dX<|.ref e) Q E s:=by let#[_,I,_,hd]:=id j;let#[_,C,_,_,m]:=hl;unfold dX;calc Zb<|nD<|mE (name:=ZG "__next__") #[_,D,rfl] F.slot_enumerate_next<|j8 F.slot_enumerate_next #[_,D,rfl] F.entry_enumerate_next ?_<|F.args_enumerate_next_1 _;change Zw _ _ (field _ 2>>=_) _ _ s;calc Zb<|fw (x:=.ref it) D rfl rfl ?_;unfold zx;calc Zb<|Zb<|mE (name:=ZG "__next__") j.typeIs yB<|j8 yB j.typeIs entry_listiter_next (vJ.2.1▸c6 (zI (Q:=λ_ _=>False) c.in1 I hd C m H λh' e x ⟨o,g,cl⟩=>?_) (λ_ _ z=>z.elim) λ_ _ z=>z)<|args_listiter_next _;show Zb<|sk (T:="StopIteration") (b:=Zi) #[o,g,cl] uD<|Zj<|J _ x
end
abbrev Key:=Sum Int Str
def X2:Key->Zo->Bool|.inl k,v=>Value.isInt k v|.inr x,v=>Value.isStrOf x v
def zM(w:bq):Key->Int|.inl k=>o1 k|.inr x=>hashStr w x
theorem Vt:∀{k:Key}{v:Zo},X2 k v=Zi->(∃i t,k=tf i/\v=l7 i t)\/(∃x t,k=ti x/\v=Value.str x t)|.inl i,v,h=>by let#[t,e]:=Value.isInt_shape h;show .inl #[i,t,rfl,e]|.inr x,v,h=>by let#[t,e]:=Value.isStrOf_shape h;show .inr #[x,t,rfl,e]
def M7(i)(t):X2 (.inl i) (.int i t)=Zi:=by simp[X2,Value.isInt]
def M8(x)(t):X2 (.inr x) (.str x t)=Zi:=by simp[X2,Value.isStrOf]
theorem M9(a b):decide ((tf a:Key)=tf b)=(a==b):=05
theorem Nb(a b):decide ((ti a:Key)=ti b)=decide (a=b):=05
theorem Nc(a)(b):decide ((tf a:Key)=ti b)=Zl:=decide_eq_false λq=>nomatch q
theorem Nd(a)(b):decide ((ti a:Key)=tf b)=Zl:=decide_eq_false λq=>nomatch q
def Vx(prog:ZU)(w:bq):PySem.KeyKind prog w Key where
 is:=X2
 hash:=zM w
 inj:=λv a b ha O=>by
  rcases Vt ha with⟨i,t,rfl,rfl⟩|⟨x,t,rfl,rfl⟩
  .rcases Vt O with⟨j,u,rfl,e⟩|⟨y,u,rfl,e⟩
   .injection e with e1 _;rw[e1]
   .show nomatch e
  .rcases Vt O with⟨j,u,rfl,e⟩|⟨y,u,rfl,e⟩
   .show nomatch e
   .injection e with e1 _;rw[e1]
 byValue:=λk v h=>by rcases Vt h with⟨i,t,rfl,rfl⟩|⟨x,t,rfl,rfl⟩<;>rfl
 pyHash:=λhv h=>by
  rcases Vt hv with⟨i,t,rfl,rfl⟩|⟨x,t,rfl,rfl⟩
  .show wpAny_pyHash_int h
  .show wpAny_pyHash_str h
 eqBool:=λhu hv h=>by
  rcases Vt hu with⟨i,t,rfl,rfl⟩|⟨x,t,rfl,rfl⟩
  .rcases Vt hv with⟨j,u,rfl,rfl⟩|⟨y,u,rfl,rfl⟩
   .rw[M9]at h;show wpAny_eqBool_int h
   .rw[Nc]at h;show SeqAt.EqAt.int_str i t y u _ _ _ _ h
  .rcases Vt hv with⟨j,u,rfl,rfl⟩|⟨y,u,rfl,rfl⟩
   .rw[Nd]at h;show SeqAt.EqAt.str_int x t j u _ _ _ _ h
   .rw[Nb]at h;show wpAny_eqBool_str h
 «strs» :=λk x t v h=>by
  rcases Vt h with⟨i,u,rfl,e⟩|⟨y,u,rfl,e⟩
  .show nomatch e
  .injection e with e1 _
   subst e1;cases v<;>rfl
theorem Nf(prog)(w)(i)(t):(Vx prog w).is (.inl i) (.int i t)=Zi:=M7 i t
theorem Ng(prog)(w)(x)(t):(Vx prog w).is (.inr x) (.str x t)=Zi:=M8 x t
inductive bB where|ag|bl (b:Bool)|int (i:Int)|str (x:Str)|iY (b:Array UInt8)|rP (b:UInt64)|ref (a:Z4)|ty (n:String)
 deriving DecidableEq
abbrev _root_.Wb:=List<|List Key×bB
abbrev _root_.Wd:=List<|Option bB
abbrev _root_.Wt:=List<|Key×bB
abbrev _root_.Wu:=List<|Str×bB
abbrev _root_.Tj:=Option bB
abbrev _root_.Uc:=List bB
def RelV:bB->Zo->Prop|.ag,u=>u=dA|.bl b,u=>u=rM b|.int i,u=>∃t,u=l7 i t|.str x,u=>∃t,u=Value.str x t|.iY b,u=>∃t,u=Value.bytes b t|.rP b,u=>∃t,u=Value.float b t|.ref a,u=>u=hE a|.ty n,u=>u=mP n
abbrev Vals:Uc->Tv->Prop:=Paired RelV
theorem Vals.length(r:Vals xs us):xs.length=us.length:=zD r
theorem Vals.get:∀{xs:Uc}{us:Tv}{i:Nat}{x:bB},Vals xs us->xs[i]?=B x->∃u,us[i]?=B u/\RelV x u
 |_,_,_,_,.nil,e=>by simp at e
 |_,_,0,_,.cons r _,e=>by simp at e;subst e;show#[_,rfl,r]
 |_,_,i+1,x,.cons _ t,e=>by
  let#[u,j,J]:=Vals.get t<|by simpa using e
  show#[u,by simpa using j,J]
theorem Vals.set(r:RelV x u):∀{xs:Uc}{us:Tv}(i:Nat),Vals xs us->Vals (xs.set i x) (us.set i u)
 |_,_,_,.nil=>.nil
 |_,_,0,.cons _ t=>.cons r t
 |_,_,i+1,.cons q t=>.cons q<|Vals.set r i t
theorem Vals.append:∀{xs ys:Uc}{us ws:Tv},Vals xs us->Vals ys ws->Vals (xs++ys) (us++ws)|_,_,_,_,.nil,s=>s|_,_,_,_,.cons r t,s=>.cons r<|Vals.append t s
theorem Vals.take:∀{xs:Uc}{us:Tv}(n:Nat),Vals xs us->Vals (xs.take n) (us.take n)|_,_,0,_=>.nil|_,_,_+1,.nil=>.nil|_,_,n+1,.cons r t=>.cons r<|Vals.take n t
theorem Vals.drop:∀{xs:Uc}{us:Tv}(n:Nat),Vals xs us->Vals (xs.drop n) (us.drop n)|_,_,0,r=>r|_,_,_+1,.nil=>.nil|_,_,n+1,.cons _ t=>Vals.drop n t
def cU:Tj->Tc->Prop|some v,B u=>RelV v u|none,Ze=>True|_,_=>False
def KV{κ:Type}:List (κ×bB)->List (κ×Zo)->Prop:=Paired λ(p:κ×bB)(q:κ×Zo)=>p.1=q.1/\RelV p.2 q.2
noncomputable def kV:Key->bB|.inl i=>.int i|.inr x=>.str x
inductive HO where
 /-- a list -/
 |lst (xs:Uc)
 /-- a tuple (never changes) -/
 |tup (xs:Uc)
 /-- a dict whose keys are ints and texts; one whose keys are tuples of ints and texts (the empty one is both) -/
 |dK (kvs:Wt)|dT (kvs:Wb)
 /-- a set of ints: its members,its size -/
 |set (S:Int->Bool) (n:Nat)
 /-- an instance of the class at C,its dict at dx,its attributes -/
 |ins (C dx:Z4) (fs:Wu)
 /-- the dict of the instance at x -/
 |own (x:Z4)
 /-- the dict of an exception -/
 |xd (fs:Wu)
 /-- a bound method,f of x -/
 |met (f x:Z4)
 /-- a range object lo,lo + 1,.. below Z -/
 |vL (lo Z:Int)
 /-- a thing that is known to the object (the script; a dict while a loop walks it): read,never written while it is so -/
 |bh (o:Obj) (u:HO)
 /-- a code object's table -/
 |ia (ps:Ti)
 /-- any other thing,by what is Zi of its one object (a def of one's own: SetO a S n:= HO.ext λh=> ..) -/
 |ext (φ:aM->Prop)
abbrev Hp:=Z4->Option HO
def upd(H:Hp)(a:Z4)(o:HO):Hp:=λb=>if b=a then B o else H b
def Jx:upd H a o a=B o:=by unfold upd;rw[if_pos rfl]
def Jp(h:b≠a):upd H a o b=H b:=by unfold upd;rw[if_neg h]
theorem QN{H:Hp}(h:H a=B o)(h':H b=Ze):a≠b:=05
section
variable(P:ZU)(w:bq)
def JT(H:Hp)(h:aM)(a:Z4):HO->Prop|.lst xs=>xs.length<=sizeLine/\∃(its:Tv) (n:Nat),Vals xs its/\h.get? a=B {cls:=.type "list",data:=.seq its.toArray n}|.tup xs=>xs.length<=sizeLine/\∃its:Tv,Vals xs its/\IsTup h a its.toArray|.dK kvs=>kvs.length<=sizeLine/\(a==nF)=Zl/\∃vs,KV kvs vs/\h.DictOf (Vx P w) a vs|.dT kvs=>kvs.length<=sizeLine/\(a==nF)=Zl/\∃xs:List<|List Key×Z4×Zo,Paired (λ(p:List Key×bB)(q:List Key×Z4×Zo)=>p.1=q.1/\H q.2.1=B (.tup<|p.1.map kV)/\RelV p.2 q.2.2) kvs xs /\ ∃o es ep,h.get? a=B o/\o.ExactDict/\o.data=.dict es ep/\es.toList=xs.map (entryOfKey<|tupleKind<|Vx P w)/\(xs.map (·.1)).Nodup|.set S n=>h.SetOf (intKind P w) a S n|.ins C dx fs=>H dx=B (.own a)/\fs.length<=1000/\dx≠a/\h.get? a=B (W.instObj C dx) /\ ∃mA,h.Ns1 dx mA/\(∀f,cU (fs.lookup f)<|mA f)/\yI mA (fs.map (·.1))|.own _=>∃o,h.get? a=B o|.xd fs=>∃mA,h.Ns1 a mA/\∀f,cU (fs.lookup f)<|mA f|.vL lo Z=>∃t u v,h.get? a=B {cls:=.type "range",data:=.fields (ba [.int lo t,.int Z u,.int 1 v])}|.bh o u=>h.get? a=B o/\JT H h a u|.ia ps=>h.get? a=B {cls:=.none,data:=.fields ps}|.met f x=>h.get? a=B (W.methodObj (.ref f)<|.ref x)|.ext φ=>φ h/\(∃o,h.get? a=B o)/\∀h1 J:aM,φ h1->(∀o,h1.get? a=B o->J.get? a=B o)->φ J
def cV(H:Hp)(h:aM):Prop:=∀a o,H a=B o->JT P w H h a o
end
section
variable{P:ZU}{w:bq}{H H':Hp}{h h':aM}{a:Z4}{o:HO}
def JT.lt(x:JT P w H h a o):a<h.objs.size:=by cases o with|lst xs=>let#[_,_,_,_,e]:=x;show Z0 e|tup xs=>let#[_,_,_,p]:=x;show p.lt|dK j=>let#[_,_,_,_,o,_,_,e,_]:=x;show Z0 e|dT j=>let#[_,_,_,_,o,_,_,e,_]:=x;show Z0 e|set S n=>let#[o,_,_,_,e,_]:=x;show Z0 e|ins C E fs=>let#[_,_,_,e,_]:=x;show Z0 e|own y=>let#[_,e]:=x;show Z0 e|xd fs=>let#[_,#[_,_,_,e,_],_]:=x;show Z0 e|vL D Z=>let#[_,_,_,e]:=x;show Z0 e|bh m u=>let#[e,_]:=x;show Z0 e|ia ps=>show Z0<|x|met f y=>show Z0<|x|ext φ=>let#[_,#[_,e],_]:=x;show Z0 e
theorem Paired.pJ:∀{l₁:List α}{l₂:List β},Paired F l₁ l₂->(∀a b,F a b->G a b)->Paired G l₁ l₂|_,_,.nil,_=>.nil|_,_,.cons r t,f=>.cons (f _ _ r)<|Paired.pJ t f
def JT.eS(x:JT P w H h a o)(k:∀b u,(b=a\/H b=B (.own a))->h.get? b=B u->h'.get? b=B u) (ho:∀b,H b=B (.own a)->H' b=B (.own a))(Q:∀b xs,H b=B (.tup xs)->H' b=B (.tup xs)):JT P w H' h' a o:=by induction o with|lst xs=>let#[z,E,n,r,e]:=x;show#[z,E,n,r,k _ _ (.inl rfl) e]|tup xs=>let#[z,E,r,j,e,c]:=x;show#[z,E,r,j,k _ _ (.inl rfl) e,c]|dK I=>let#[z,y,O,r,j,D,m,e,c]:=x;show#[z,y,O,r,j,D,m,k _ _ (.inl rfl) e,c]|dT I=>let#[z,y,xs,r,j,D,m,e,c]:=x;show#[z,y,xs,Paired.pJ r λp q z=>#[z.1,Q _ _ z.2.1,z.2.2],j,D,m,k _ _ (.inl rfl) e,c]|set S n=>let#[j,D,m,t,e,c]:=x;show#[j,D,m,t,k _ _ (.inl rfl) e,c]|ins C R fs=>let#[d,z,ne,e,F,#[J,D,m,L,c],r]:=x;show#[ho _ d,z,ne,k _ _ (.inl rfl) e,F,#[J,D,m,k _ _ (.inr d) L,c],r]|own y=>let#[j,e]:=x;show#[j,k _ _ (.inl rfl) e]|xd fs=>let#[F,#[J,D,m,e,c],r]:=x;show#[F,#[J,D,m,k _ _ (.inl rfl) e,c],r]|vL U Z=>let#[t,u,v,e]:=x;show#[t,u,v,k _ _ (.inl rfl) e]|bh j u M=>let#[e,q]:=x;show#[k _ _ (.inl rfl) e,M q]|ia ps=>have e:=x;show k a _ (.inl rfl) e|met f y=>have e:=x;show k a _ (.inl rfl) e|ext φ=>let#[p,#[o,e],st]:=x;show#[st _ _ p λo q=>k _ _ (.inl rfl) q,#[o,k _ _ (.inl rfl) e],st]
theorem cV.lt(x:cV P w H h)(e:H a=B o):a<h.objs.size:=(x a o e).lt
def cV.fresh(x:cV P w H h)(e:h.objs.size<=a):H a=Ze:=by cases q:H a with|none=>rfl|some u=>show absurd (ZD (x.lt q) e)<|i3 _
theorem cV.kept(x:cV P w H h)(k:∀b u,h.get? b=B u->h'.get? b=B u):cV P w H h':=λa o e=>
 (x a o e).eS (λb u _ q=>k b u q) (λ_ q=>q) λ_ _ q=>q
theorem cV.laid(x:cV P w H h)(k:∀b u,h.get? b=B u->h'.get? b=B u)(hp:h.objs.size<=a)(new:JT P w (upd H a o) h' a o):cV P w (upd H a o) h':=λb u e=>by
 have hn:=x.fresh hp;by_cases O:b=a
 .subst O;rw[Jx]at e;cases e;show new
 .rw[Jp O]at e;show(x b u e).eS (λc v _ q=>k c v q) (λc q=>by rw[Jp<|QN q hn];show q) λc xs q=>by rw[Jp<|QN q hn];show q
end
def Rd(H:Hp)(a:Z4)(u:HO):Prop:=H a=B u\/∃o,H a=B (.bh o u)
theorem Rd.of(h:H a=B u):Rd H a u:=.inl h
def Rd.ok(r:Rd H a u)(x:cV P w H h):JT P w H h a u:=by
 rcases r with r|⟨o,r⟩
 .show x a u r
 .let#[_,q]:=x a _ r;show q
def oy:Option HO->Prop|some (.lst _)=>True|some (.dK _)=>True|some (.dT _)=>True|some (.set _ _)=>True|some (.ins _ _ _)=>True|some (.ext _)=>True|_=>False
section
variable{P:ZU}{w:bq}{H:Hp}{h h':aM}{x e:Z4}{o':HO}
theorem cV.write(ok:cV P w H h)(D:oy<|H x)(I:e=x\/H e=B (.own x))(k:∀b u,b≠e->h.get? b=B u->h'.get? b=B u)(E:∃u,h'.get? e=B u)
  (new:JT P w (upd H x o') h' x o'):cV P w (upd H x o') h':=λb u q=>by
 have j:∀c y,H c=B (.own y)->c≠x:=λc y r z=>by subst z;rw[r]at D;show D
 have C:∀c xs,H c=B (.tup xs)->c≠x:=λc xs r z=>by subst z;rw[r]at D;show D
 by_cases O:b=x
 .subst O;rw[Jx]at q;cases q;show new
 .rw[Jp O]at q;by_cases m:b=e
  .have J:H b=B (.own x):=by
    rcases I with z|z
    .lia
    .rw[m];show z
   rw[q]at J;cases J;let#[v,L]:=E;show#[v,by rw[m];show L]
  .refine(ok b u q).eS (λc v F r=>k c v ?_ r) (λc r=>by rw[Jp<|j c b r];show r) λc xs r=>by rw[Jp<|C c xs r];show r
   rcases F with rfl|F
   .show m
   .rintro rfl;rcases I with z|z
    .show j c b F z
    .simp_all
end
structure Un(fs ex:Tu)(H H':Hp)(h h':aM):Prop where
 keep:∀b o,h.get? b=B o->H b=Ze->b∉fs->b∉ex->h'.get? b=B o
 slot:∀b o,h.get? b=B o->H b=Ze->b∈fs->b∉ex->∃sl,h'.get? b=B {o with slots:=sl}
 free:∀b o,h.get? b=B o->H b=Ze->b∉ex->H' b=Ze
 there:∀b o,h.get? b=B o->b∉ex->∃o',h'.get? b=B o'
 b9:∀b xs,H b=B (.tup xs)->H' b=B (.tup xs)
 aO:∀b o u,H b=B (.bh o u)->H' b=B (.bh o u)
 cB:∀b ps,H b=B (.ia ps)->∃more,H' b=B (.ia<|ps++more)
section
variable{fs fs' ex ex':Tu}{H H1 H2:Hp}{h h1 J h':aM}{a x e:Z4}{o:HO}
def Un.any(u:Un fs ex H H1 h h1)(q:h.get? b=B ob)(n:H b=Ze)(j:b∉ex):∃sl,h1.get? b=B {ob with slots:=sl}:=by
 by_cases O:b∈fs
 .show u.slot b ob q n O j
 .show#[ob.slots,u.keep b ob q n O j]
theorem Un.trans(a:Un fs ex H H1 h h1)(b:Un fs ex H1 H2 h1 J):Un fs ex H H2 h J where
 keep:=λc j q n D m=>b.keep c j (a.keep c j q n D m) (a.free c j q n m) D m
 slot:=λc j q n D m=>by let#[O,C]:=a.slot c j q n D m;let#[F,E]:=b.slot c _ C (a.free c j q n m) D m;show#[F,E]
 free:=λc j q n m=>by let#[I,C]:=a.there c j q m;show b.free c I C (a.free c j q n m) m
 there:=λc j q m=>by let#[I,C]:=a.there c j q m;show b.there c I C m
 b9:=λc xs q=>b.b9 c xs<|a.b9 c xs q
 aO:=λc j xs q=>b.aO c j xs<|a.aO c j xs q
 cB:=λc ps q=>by let#[L,C]:=a.cB c ps q;let#[M,E]:=b.cB c _ C;show#[L++M,by rw[E,zj]]
theorem Un.kept(k:∀b u,h.get? b=B u->h'.get? b=B u):Un fs ex H H h h':=#[λb j q _ _ _=>k b j q,λb j q _ _ _=>#[j.slots,k b j q],λ_ _ _ n _=>n,λb j q _=>#[j,k b j q],λ_ _ q=>q,λ_ _ _ q=>q,λ_ ps q=>#[#[],by rw[q];simp]]
theorem Un.refl:Un fs ex H H h h:=Un.kept λ_ _ q=>q
theorem Un.laid(k:∀b u,h.get? b=B u->h'.get? b=B u)(hp:h.objs.size<=a)(hn:H a=Ze):Un fs ex H (upd H a o) h h' where
 keep:=λb u q _ _ _=>k b u q
 slot:=λb u q _ _ _=>#[u.slots,k b u q]
 free:=λb u q n _=>by rw[Jp<|Z1<|ZD (Z0 q) hp];show n
 there:=λb u q _=>#[u,k b u q]
 b9:=λb xs q=>by rw[Jp<|QN q hn];show q
 aO:=λb u xs q=>by rw[Jp<|QN q hn];show q
 cB:=λb ps q=>#[#[],by rw[Jp<|QN q hn,q];simp]
def Un.write(m:oy<|H x)(E:e=x\/H e=B (.own x))(k:∀b u,b≠e->h.get? b=B u->h'.get? b=B u)(C:∃u,h'.get? e=B u):Un fs ex H (upd H x o) h h':=by
 have D:∀b,H b=Ze->b≠x:=λb n z=>by subst z;rw[n]at m;show m
 have O:∀b,H b=Ze->b≠e:=λb n z=>by
  subst z;rcases E with r|r
  .show D b n r
  .rw[n]at r;cases r
 have hm:∀b u,H b=B u->¬oy (B u)->b≠x:=λb u q nm z=>by subst z;rw[q]at m;show nm m
 calc#[λb u q n _ _=>k b u (O b n) q,λb u q n _ _=>#[u.slots,k b u (O b n) q],λb u q n _=>by rw[Jp<|D b n];show n,λb u q _=>?_,λb xs q=>by rw[Jp<|hm b _ q λz=>z];show q,λb u xs q=>by rw[Jp<|hm b _ q λz=>z];show q,λb ps q=>#[#[],by rw[Jp<|hm b _ q λz=>z,q];simp]];by_cases j:b=e
 .subst j;show C
 .show#[u,k b u j q]
theorem Un.mono(u:Un fs ex H H1 h h1)(hs:∀b∈fs,b∈fs')(C:∀b∈ex,b∈ex'):Un fs' ex' H H1 h h1:=#[λb m q n O j=>u.keep b m q n (λz=>O<|hs b z) λz=>j<|C b z,λ_ _ q n _ j=>u.any q n λz=>j<|C _ z,λb m q n j=>u.free b m q n λz=>j<|C b z,λb m q j=>u.there b m q λz=>j<|C b z,u.b9,u.aO,u.cB]
end
noncomputable def vM (h:aM)(H:Hp):Tu:=(ZK h.objs.size).filter λa=>(H a).isSome
def fM(h:aM)(H:Hp):aM:=W.hideAll h<|vM h H
theorem Nh(h)(H):(fM h H).objs.size=h.objs.size:=W.hideAll_size _ _
theorem Ni(e:h.get? b=B o)(n:H b=Ze):(fM h H).get? b=B o:=W.hideAll_get _ e λhm=>by have q:=(vd.mp hm).2;rw[n]at q;simp at q
def Nj(e:(fM h H).get? b=B o):h.get? b=B o/\H b=Ze:=by have j:=W.of_hideAll (vM h H) e;calc#[j,?_];cases q:H b with|none=>rfl|some x=>have hm:b∈vM h H:=vd.mpr #[fx.mpr<|Z0 j,by simp[q]];have z:(fM h H).get? b=Ze:=W.hideAll_none (vM h H) hm;rw[z]at e;cases e
def Ql(A:bP)(H:Hp):Prop:=A.handled=Ze\/∃a oe u vs,A.handled=B (.ref a)/\H a=B (.bh oe u)/\oe.data=.fields vs/\vs[2]?=B .none
theorem Ql.mono(c:Ql A H)(f:∀b o u,H b=B (.bh o u)->H' b=B (.bh o u)):Ql A H':=c.imp id λ⟨a,C,u,F,E,j,m,D⟩=>#[a,C,u,F,E,f _ _ _ j,m,D]
theorem Ql.cw(c:Ql A H)(k:cV P w H h):aE A h:=c.elim .calm λ⟨_,_,_,_,D,j,m,C⟩=>.warm D (k _ _ j).1 m C
structure Mod(K:W.Frag)(mg:Str->Tc)(base:aM):Prop where
 pL:K.In base
 glob:base.Ns Z2 mg
 blt:∃mb,base.Ns nG mb/\∀x:Str,x≠"__name__"->mb x=ka x
 nolimit:base.NoLimit
set_option genInjectivity false in
structure Cx where
 prog:ZU
 w:bq
 K:W.Frag
 mg:Str->Tc
 base:aM
 A:bP
 N:Tk
 s₀:Zx
 H₀:Hp
 env:Env
 outer:Tl
 stack:Tl
 ex:Tu
 fn:Str->Bool
 calm:Bool
 pn:aQ
 xe:aH
noncomputable def eV (l:Tl):Tu:=l.filterMap (·.frame)
abbrev Cx.fs(X:Cx):Tu:=eV X.outer
def pM(sc:eL)(x:Str):Prop:=sc.names.lookup x=B .local\/sc.names.lookup x=B .cell\/sc.names.lookup x=B .free
def Loc(sc:eL)(x:Str):Prop:=sc.names.lookup x=B .local\/sc.names.lookup x=B .cell
def Look(env:Env)(h:aM)(m:Str->Tc)(x:Str)(u:Zo):Prop:=(env.kindOf x=B .local/\m x=B u)\/((env.kindOf x=B .cell\/env.kindOf x=B .free)/\∃c,env.cells.lookup x=B c/\h.IsCell c (B u))
structure Cx.Ok(X:Cx):Prop where
 mod:Mod X.K X.mg X.base
 kind:X.env.scope.kind=.function
 glob:X.env.globals=Z2
 blt:X.env.builtins=nG
 above:X.s₀.heap.objs.size<=X.env.locals
 inj:∀x y c,X.env.cells.lookup x=B c->X.env.cells.lookup y=B c->x=y
 has:∀x,(X.env.kindOf x=B .cell\/X.env.kindOf x=B .free)->∃c,X.env.cells.lookup x=B c
 pN:∀x c,X.fn x=Zi->X.env.cells.lookup x=B c->X.s₀.heap.objs.size<=c
 hd:X.calm=Zi->Ql X.A X.H₀
 frames:X.A.frames=B X.stack
 rQ:X.stack=X.outer\/(X.stack=X.env::X.outer/\X.env.frame=B X.env.locals)
 rR:∀b∈X.ex,b≠X.env.locals/\∀x c,X.env.cells.lookup x=B c->c≠b
 bs:∀b o,X.base.get? b=B o->X.s₀.heap.get? b=B o/\X.H₀ b=Ze
 jB:X.base.objs.size<=X.s₀.heap.objs.size
 ja:∀b o,X.base.get? b=B o->b∉X.ex
 ib:∀b∈X.ex,b∉X.fs
 da:X.s₀.heap.FunFrames X.base X.outer
 kI:∀b∈X.fs,X.H₀ b=Ze
structure Inv(X:Cx)(L:aQ)(U:Wd)(H:Hp)(s:Zx):Prop where
 ok:X.Ok
 os:s.os=X.s₀.os
 bare:lY s.gens
 base:Un X.fs X.ex X.H₀ H X.s₀.heap s.heap
 loc:∃m,s.heap.Ns X.env.locals m/\∀(i:Nat)(x:Str)(v:bB),X.N[i]?=B x->U[i]?=B (B v)->pM X.env.scope x->∃u,RelV v u/\Look X.env s.heap m x u
 cell:∀x c,X.env.cells.lookup x=B c->∃v,s.heap.IsCell c v
 free:H X.env.locals=Ze
 bT:∀x c,X.env.cells.lookup x=B c->H c=Ze
 pin:∀p∈X.pn++L,s.heap.get? p.1=B p.2/\H p.1=Ze/\p.1≠X.env.locals/\p.1∉X.fs/\∀v,p.2.data≠.cell v
 au:cV X.prog X.w H s.heap
 len:U.length=X.N.length
section
variable{X:Cx}{L:aQ}{U:Wd}{H H':Hp}{s:Zx}{h':aM}
theorem Cx.Ok.zN(ok:X.Ok)(e:X.base.get? b=B o):b∉X.fs:=λO=>by have:=(ok.da.mem O).1;rw[e]at this;cases this
theorem Inv.bs(I:Inv X L U H s):∀b o,X.base.get? b=B o->s.heap.get? b=B o/\H b=Ze:=λb o e=>
 #[I.base.keep b o (I.ok.bs b o e).1 (I.ok.bs b o e).2 (I.ok.zN e) (I.ok.ja b o e),I.base.free b o (I.ok.bs b o e).1 (I.ok.bs b o e).2 (I.ok.ja b o e)]
theorem Inv.bk(I:Inv X L U H s):∀b o,X.base.get? b=B o->s.heap.get? b=B o:=λb o e=>(I.bs b o e).1
theorem Inv.cN(I:Inv X L U H s)(j:X.calm=Zi):Ql X.A H:=(I.ok.hd j).mono I.base.aO
theorem Inv.cw(I:Inv X L U H s)(j:X.calm=Zi):aE X.A s.heap:=(I.cN j).cw I.au
theorem Inv.mod(I:Inv X L U H s):Mod X.K X.mg X.base:=I.ok.mod
theorem Inv.cF(I:Inv X L U H s):X.K.In s.heap:=I.ok.mod.pL.keeps I.bk
theorem Inv.nolimit(I:Inv X L U H s):s.heap.NoLimit:=I.ok.mod.nolimit.keeps I.bk
theorem Inv.fr(I:Inv X L U H s):∃m,Fr X.base X.env.locals s.heap m:=
 let ⟨m,hn,_⟩:=I.loc
 #[m,hn,I.bk,Zc I.ok.jB I.ok.above]
theorem Inv.lt(I:Inv X L U H s):X.env.locals<s.heap.objs.size:=let ⟨_,hn,_⟩:=I.loc;hn.lt
theorem Inv.sz(I:Inv X L U H s):X.s₀.heap.objs.size<=s.heap.objs.size:=Zc I.ok.above<|ZC I.lt
theorem Inv.zO(I:Inv X L U H s)(h:s.heap.objs.size<=a):a∉X.fs:=λO=>by let#[_,o,j,_]:=I.ok.da.mem O;show absurd (ZD (Z0 j)<|Zc I.sz h)<|i3 _
theorem Inv.kK(I:Inv X L U H s):∀x c,X.env.cells.lookup x=B c->c≠X.env.locals:=λx c e z=>by let#[v,o,D,hd]:=I.cell x c e;let#[m,#[F,J,E,j,C,_],_]:=I.loc;rw[z,j]at D;cases D;rw[C]at hd;cases hd
def Inv.da(I:Inv X L U H s):s.heap.FunFrames X.base X.outer:=by
 have all:∀(l:Tl),(∀b∈eV l,b∈X.fs)->X.s₀.heap.FunFrames X.base l->s.heap.FunFrames X.base l:=by
  intro l;induction l with|nil=>intro _ _;trivial|cons env r P=>
   intro D F;let#[M,#[j,o,m,hn,J,hd],E]:=F;have C:=D j<|by unfold eV;rw[u6,m];show Z7
   let#[Q,e]:=I.base.slot j o J (I.ok.kI j C) C λz=>I.ok.ib j z C
   show#[M,#[j,_,m,hn,e,hd],P (λb O=>D b<|by unfold eV;rw[u6,m];show Zm _ O) E]
 show all X.outer (λ_ O=>O) I.ok.da
def Inv.stack(I:Inv X L U H s):s.heap.FunFrames X.base X.stack:=by
 rcases I.ok.rQ with e|⟨e,hf⟩
 .rw[e];show I.da
 .rw[e];let#[m,hn,_]:=I.loc;calc .cons (by rw[I.ok.kind];decide) hf hn ?_ I.da;show vi<|Zc I.ok.jB I.ok.above
theorem Inv.jb(I:Inv X L U H s):∀b∈eV X.stack,b∈X.env.locals::X.fs:=λb O=>by
 rcases I.ok.rQ with e|⟨e,hf⟩
 .simp_all
 .rw[e]at O;unfold eV at O;rw[u6,hf]at O;show O
theorem Inv.dB(I:Inv X L U H s):∀b∈eV X.stack,H b=Ze:=λb O=>by
 rcases ZA.mp (I.jb b O)with e|O
 .rw[e];show I.free
 .let#[_,o,j,_]:=I.ok.da.mem O;show I.base.free b o j (I.ok.kI b O) λz=>I.ok.ib b z O
def Inv.step{ch:Tu}(I:Inv X L U H s)
  (D:∀b∈ch,(b∈X.ex\/X.s₀.heap.objs.size<=b)/\b≠X.env.locals/\(∀x c,X.env.cells.lookup x=B c->c≠b)/\∀p∈X.pn++L,p.1≠b)
  (keep:∀b o,b≠X.env.locals->b∉X.fs->b∉ch->s.heap.get? b=B o->H b=Ze->h'.get? b=B o)
  (slot:∀b o,b≠X.env.locals->b∈X.fs->b∉ch->s.heap.get? b=B o->H b=Ze->∃sl,h'.get? b=B {o with slots:=sl})(free:∀b o,b∉ch->s.heap.get? b=B o->H b=Ze->H' b=Ze)
  (there:∀b o,b∉ch->s.heap.get? b=B o->∃o',h'.get? b=B o')
  (b9:∀b xs,H b=B (.tup xs)->H' b=B (.tup xs))(aO:∀b o u,H b=B (.bh o u)->H' b=B (.bh o u))(cB:∀b ps,H b=B (.ia ps)->∃more,H' b=B (.ia<|ps++more))
  (ns:∀m,s.heap.Ns X.env.locals m->h'.Ns X.env.locals m)(au:cV X.prog X.w H' h')(Z:lY g'):
  Inv X L U H' {s with heap:=h',gens:=g',drawn:=d',toks:=t'}:=by
 have Q:∀b o,X.s₀.heap.get? b=B o->b≠X.env.locals:=λb o e=>Z1<|ZD (Z0 e) I.ok.above
 have F:∀b o,X.s₀.heap.get? b=B o->b∉X.ex->b∉ch:=λb o e j O=>by
  rcases(D b O).1 with z|z
  .show j z
  .show absurd (ZD (Z0 e) z)<|i3 _
 have E:∀x c,X.env.cells.lookup x=B c->∀v,s.heap.IsCell c v->h'.IsCell c v:=λx c e v ⟨o,M,hd⟩=>by
  have C:=λz=>(D c z).2.2.1 x c e rfl
  by_cases W:c∈X.fs
  .let#[sl,q]:=slot c o (I.kK x c e) W C M<|I.bT x c e;show#[_,q,hd]
  .show#[o,keep c o (I.kK x c e) W C M<|I.bT x c e,hd]
 refine#[I.ok,I.os,Z,#[λb o e n O j=>?_,λb o e n O j=>?_,λb o e n j=>?_,λb o e j=>?_,λb xs e=>b9 b xs<|I.base.b9 b xs e,λb o xs e=>aO b o xs<|I.base.aO b o xs e,λb ps e=>?_],?_,λx c e=>?_,?_,λx c e=>?_,λp S=>?_,au,I.len]
 .show keep b o (Q b o e) O (F b o e j) (I.base.keep b o e n O j)<|I.base.free b o e n j
 .let#[sl,J]:=I.base.slot b o e n O j;let#[R,P]:=slot b _ (Q b o e) O (F b o e j) J<|I.base.free b o e n j;show#[R,P]
 .let#[o',J]:=I.base.there b o e j;show free b o' (F b o e j) J<|I.base.free b o e n j
 .let#[o',J]:=I.base.there b o e j;show there b o' (F b o e j) J
 .let#[Y,J]:=I.base.cB b ps e;let#[m2,P]:=cB b _ J;show#[Y++m2,by rw[P,zj]]
 .let#[m,hn,hl]:=I.loc;calc#[m,ns m hn,λi x v J P e3=>?_];let#[u,r,l]:=hl i x v J P e3;calc#[u,r,?_];rcases l with l|⟨k,c,e,z⟩
  .show .inl l
  .show .inr #[k,c,e,E x c e _ z]
 .let#[v,z]:=I.cell x c e;show#[v,E x c e v z]
 .let#[m,#[o,_,_,M,_],_]:=I.loc;show free _ o (λz=>(D _ z).2.1 rfl) M I.free
 .let#[v,o,M,hd]:=I.cell x c e;show free c o (λz=>(D c z).2.2.1 x c e rfl) M<|I.bT x c e
 .let#[e,n,ne,V,d]:=I.pin p S;have C:=λz=>(D p.1 z).2.2.2 p S rfl
  show#[keep p.1 p.2 ne V C e n,free p.1 p.2 C e n,ne,V,d]
def Inv.un(I:Inv X L U H s)(u:Un X.fs [] H H' s.heap h')(au:cV X.prog X.w H' h'):Inv X L U H' {s with heap:=h',toks:=t'}:=by let#[m,#[o,P,M,E,r],_]:=id I.loc;let#[Q,F]:=u.any E I.free 03;show I.step (ch:=[]) (λ_ z=>nomatch z) (λb o _ O _ e n=>u.keep b o e n O 03) (λb o _ O _ e n=>u.slot b o e n O 03) (λb o _ e n=>u.free b o e n 03) (λb o _ e=>u.there b o e 03) u.b9 u.aO u.cB (λS hm=>by let#[R,C,D,j,J]:=hm;rw[E]at j;cases j;show#[_,C,D,F,J]) au I.bare
def Inv.call(I:Inv X L U H s)(u:Un (eV X.stack) ch H H' s.heap h')(au:cV X.prog X.w H' h')(P:lY g') (C:∀b∈ch,(b∈X.ex\/X.s₀.heap.objs.size<=b)/\b≠X.env.locals/\(∀x c,X.env.cells.lookup x=B c->c≠b)/\∀p∈X.pn++L,p.1≠b):Inv X L U H' {s with heap:=h',gens:=g',drawn:=d',toks:=t'}:=by
 let#[m,#[o,S,R,M,r],_]:=id I.loc;let#[V,J]:=u.any M I.free λz=>(C _ z).2.1 rfl
 show I.step C (λb o J O j e n=>u.keep b o e n (λz=>(ZA.mp<|I.jb b z).elim J O) j) (λb o _ _ j e n=>u.any e n j) (λb o j e n=>u.free b o e n j) (λb o j e=>u.there b o e j) u.b9 u.aO u.cB (λY hm=>by let#[W,E,F,D,Q]:=hm;rw[M]at D;cases D;show#[_,E,F,J,Q]) au P
def Inv.turned(I:Inv X L U H s)(k:∀b o,b≠it->s.heap.get? b=B o->h'.get? b=B o)(hn:H it=Ze)(D:it≠X.env.locals)
  (h1:it∈X.ex\/X.s₀.heap.objs.size<=it)(J:∀x c,X.env.cells.lookup x=B c->c≠it)(h3:∀p∈X.pn++L,p.1≠it):Inv X L U H {s with heap:=h',toks:=t'}:=by
 have C:∀b u,H b=B u->b≠it:=λb u e z=>by rw[z,hn]at e;cases e
 refine I.step (ch:=[it]) (λb O=>?_) (λb o _ _ j e _=>k b o (λz=>j<|by simp[z]) e) (λb o _ _ j e _=>#[o.slots,k b o (λz=>j<|by simp[z]) e]) (λ_ _ _ _ n=>n)
  (λb o j e=>#[o,k b o (λz=>j<|by simp[z]) e]) (λ_ _ e=>e) (λ_ _ _ e=>e) (λb ps e=>#[#[],by rw[e];simp]) (λm hm=>?_) (λb u e=>?_) I.bare
 .have e:b=it:=by simpa using O
  subst e;show#[h1,D,J,h3]
 .let#[o,F,E,M,r]:=hm;show#[o,F,E,k _ o (ZP D) M,r]
 .refine(I.au b u e).eS (λc v j q=>k c v ?_ q) (λ_ q=>q) λ_ _ q=>q
  rcases j with z|z
  .rw[z];show C b u e
  .show C c _ z
theorem Inv.tok(I:Inv X L U H s)(t):Inv X L U H {s with toks:=t}:=I.un Un.refl I.au
theorem Inv.kept(I:Inv X L U H s)(k:∀b u,s.heap.get? b=B u->h'.get? b=B u):Inv X L U H {s with heap:=h',toks:=t'}:=I.un (Un.kept k)<|I.au.kept k
theorem Inv.laid(I:Inv X L U H s)(k:∀b u,s.heap.get? b=B u->h'.get? b=B u)(hp:s.heap.objs.size<=a)(new:JT X.prog X.w (upd H a o) h' a o):Inv X L U (upd H a o) {s with heap:=h',toks:=t'}:=I.un (Un.laid k hp<|I.au.fresh hp)<|I.au.laid k hp new
theorem Inv.write(I:Inv X L U H s)(m:oy<|H x)(C:e=x\/H e=B (.own x))(k:∀b u,b≠e->s.heap.get? b=B u->h'.get? b=B u)(j:∃u,h'.get? e=B u) (new:JT X.prog X.w (upd H x o) h' x o):Inv X L U (upd H x o) {s with heap:=h',toks:=t'}:=I.un (Un.write m C k j)<|I.au.write m C k j new
theorem Inv.jC(I:Inv X L U H s)(h:∀p∈pj',s.heap.get? p.1=B p.2/\H p.1=Ze/\p.1≠X.env.locals/\p.1∉X.fs/\∀v,p.2.data≠.cell v):Inv X pj' U H s:=#[I.ok,I.os,I.bare,I.base,I.loc,I.cell,I.free,I.bT,λp j=>(ZQ.mp j).elim (λz=>I.pin p<|ZZ _ z)<|h p,I.au,I.len]
def zP{N:Tk}(D:N.Nodup){i j:Nat}(a:N[i]?=B x)(b:N[j]?=B x):i=j:=by let#[E,C]:=Zu.mp a;let#[J,m]:=Zu.mp b;show(yX D).mp<|C.trans m.symm
def Nk(I:Inv X L U H s)(hN:X.N.Nodup)(Z:X.N[i]?=B x)(J:Loc X.env.scope x)(r:RelV v u)
  (h:∀s',Inv X L (U.set i<|B v) H s'->(∃a,jx a s.heap s'.heap/\(a=X.env.locals\/X.env.cells.lookup x=B a))->Q () s')(hf:X.fn x=Zi\/X.env.scope.names.lookup x=B .local:=by assumption):Zw M A (storeName X.env x u) Q E s:=by
 let#[m,hn,hl]:=id I.loc;have hcls:(X.env.scope.kind==.class||(X.env.scope.kind==.module&&X.env.locals != X.env.globals))=Zl:=by rw[I.ok.kind];rfl
 have hiU:i<U.length:=by rw[I.len];show(Zu.mp Z).1
 have kK:=I.kK;have D:∀{a:Z4}{Y:aM},(∃o,s.heap.get? a=B o/\H a=Ze)->jx a s.heap Y->cV X.prog X.w H Y:=λ{a Y} ha C b ob e=>by
  let#[_,_,V]:=ha;refine(I.au b ob e).eS (λc w' P q=>(C.2 c ?_).trans q) (λ_ q=>q) λ_ _ q=>q
  rintro rfl;rcases P with rfl|P
  .rw[V]at e;cases e
  .lia
 rcases J with hk|hk
 .calc wpAny_storeName_local hk hn (λY hn' C=>?_) hcls;let#[oL,_,_,hoL,_]:=id hn;refine h _ #[I.ok,I.os,I.bare,#[λb o e n O J=>?_,λb o e n O J=>?_,I.base.free,λb o e J=>?_,I.base.b9,I.base.aO,I.base.cB],#[_,hn',λj y v' F R e3=>?_],λy c e=>?_,I.free,I.bT,λp hp=>?_,D #[oL,hoL,I.free] C,by simpa using I.len] #[_,C,.inl rfl]
  .show(C.2 b<|Z1<|ZD (Z0 e) I.ok.above).trans<|I.base.keep b o e n O J
  .let#[sl,F]:=I.base.slot b o e n O J;show#[sl,(C.2 b<|Z1<|ZD (Z0 e) I.ok.above).trans F]
  .let#[o',F]:=I.base.there b o e J;show#[o',(C.2 b<|Z1<|ZD (Z0 e) I.ok.above).trans F]
  .by_cases S:j=i
   .subst S;rw[Z]at F;cases F;rw[ZM hiU]at R;cases R;show#[u,r,.inl #[hk,03]]
   .rw[ZL<|ZP S]at R;let#[u',r',q]:=hl j y v' F R e3;calc#[u',r',?_];rcases q with⟨k,e⟩|⟨k,c,e,z⟩
    .calc .inl #[k,?_];have:y≠x:=λe=>S<|zP hN F<|e▸Z
     simp[this,e]
    .show .inr #[k,c,e,z.sameBut C<|kK y c e]
  .let#[w',z]:=I.cell y c e;show#[w',z.sameBut C<|kK y c e]
  .let#[e,n,ne,nf,d]:=I.pin p hp;show#[(C.2 p.1 ne).trans e,n,ne,nf,d]
 .have W:X.fn x=Zi:=by
   rcases hf with z|z
   .show z
   .rw[z]at hk;cases hk
  let#[c,P]:=I.ok.has x<|.inl hk;let#[w',z]:=I.cell x c P;refine wpAny_storeName_cell I.ok.kind hk P z λY hc' C=>?_
  let#[oc,hoc,hocd]:=id z;refine h {s with heap:=Y} #[I.ok,I.os,I.bare,#[λb o e n O J=>?_,λb o e n O J=>?_,I.base.free,λb o e J=>?_,I.base.b9,I.base.aO,I.base.cB],#[m,hn.sameBut C<|ZP<|kK x c P,λj y v' F R e3=>?_],λy c' e=>?_,I.free,I.bT,λp hp=>?_,D #[oc,hoc,I.bT x c P] C,by simpa using I.len] #[c,C,.inr P]
  .show(C.2 b<|Z1<|ZD (Z0 e)<|I.ok.pN x c W P).trans<|I.base.keep b o e n O J
  .let#[sl,F]:=I.base.slot b o e n O J;show#[sl,(C.2 b<|Z1<|ZD (Z0 e)<|I.ok.pN x c W P).trans F]
  .let#[o',F]:=I.base.there b o e J;show#[o',(C.2 b<|Z1<|ZD (Z0 e)<|I.ok.pN x c W P).trans F]
  .by_cases S:j=i
   .subst S;rw[Z]at F;cases F;rw[ZM hiU]at R;cases R;show#[u,r,.inr #[.inl hk,c,P,hc']]
   .rw[ZL<|ZP S]at R;let#[u',r',q]:=hl j y v' F R e3;calc#[u',r',?_];rcases q with q|⟨k,c',e,z'⟩
    .show .inl q
    .calc .inr #[k,c',e,z'.sameBut C ?_];rintro rfl;show S<|zP hN F<|I.ok.inj _ _ _ e P▸Z
  .by_cases hcc:c'=c
   .subst hcc;show#[_,hc']
   .let#[w2,z2]:=I.cell y c' e;show#[w2,z2.sameBut C hcc]
  .let#[e,n,ne,nf,d]:=I.pin p hp;calc#[(C.2 p.1 ?_).trans e,n,ne,nf,d];intro q;rw[q,hoc]at e;have q':=i6 e;show d w'<|by rw[<-q'];show hocd
theorem YA(I:Inv X L U H s)(m:X.N.Nodup)(Z:X.N[i]?=B x)(D:Loc X.env.scope x)(r:RelV v u) (h:∀s',Inv X L (U.set i<|B v) H s'->Q () s')(C:X.fn x=Zi\/X.env.scope.names.lookup x=B .local:=by assumption):Zw M A (storeName X.env x u) Q E s:=Nk I m Z D r (λs' j _=>h s' j) C
def Inv.tj(I:Inv X L U H s)(ho:s'.os=s.os)(u:Un (eV X.stack) ch H H' s.heap s'.heap)(au:cV X.prog X.w H' s'.heap)(m:lY s'.gens) (j:∀b∈ch,(b∈X.ex\/X.s₀.heap.objs.size<=b)/\b≠X.env.locals/\(∀x c,X.env.cells.lookup x=B c->c≠b)/\∀p∈X.pn++L,p.1≠b):Inv X L U H' s':=by let#[J,C,F,D,E]:=s';have e:=ho;subst e;show I.call u au m j
end
abbrev XK:=Zo->Td->Hp->Prop
abbrev St:=Wd
abbrev VK:=bB->Hp->Prop
abbrev TE:=St->Hp->VK->Prop
abbrev TT:=St->Hp->(Bool->Hp->Prop)->Prop
abbrev TA:=St->Hp->(Uc->Hp->Prop)->Prop
structure Ends where
 nx:St->Hp->Prop
 rt:VK
 bk:St->Hp->Prop:=λ_ _=>False
 ct:St->Hp->Prop:=λ_ _=>False
abbrev TS:=Ends->St->Hp->Prop
def EP(X:Cx)(L:aQ)(U:St)(Q:VK)(u:Zo)(s':Zx):Prop:=∃v H',Inv X L U H' s'/\RelV v u/\Q v H'
def TP(X:Cx)(L:aQ)(U:St)(Q:Bool->Hp->Prop)(b:Bool)(s':Zx):Prop:=∃H',Inv X L U H' s'/\Q b H'
def SP(X:Cx)(L:aQ)(D:Ends)(f:Flow)(s':Zx):Prop:=match f with|.next=>∃U' H',Inv X L U' H' s'/\D.nx U' H'|.brk=>∃U' H',Inv X L U' H' s'/\D.bk U' H'|.cont=>∃U' H',Inv X L U' H' s'/\D.ct U' H'|.ret u=>∃v U' H',Inv X L U' H' s'/\RelV v u/\D.rt v H'
def PE(X:Cx)(e:Expr)(t:TE):Prop:=∀(L:aQ)(s:Zx)(U:St)(H:Hp)(Q:VK),Inv X L U H s->t U H Q->Zw (Zy X.prog X.w) X.A (a0 e X.env) (EP X L U Q) X.xe s
def PT(X:Cx)(e:Expr)(t:TT):Prop:=∀(L:aQ)(s:Zx)(U:St)(H:Hp)(Q:Bool->Hp->Prop),Inv X L U H s->t U H Q->Zw (Zy X.prog X.w) X.A (nN e X.env<|a0 e X.env) (TP X L U Q) X.xe s
def PW(X:Cx)(e:Expr)(t:TT):Prop:=∀(whole:Sem Zo)(L:aQ)(s:Zx)(U:St)(H:Hp)(Q:Bool->Hp->Prop),Inv X L U H s->t U H Q->Zw (Zy X.prog X.w) X.A (nN e X.env whole) (TP X L U Q) X.xe s
theorem PW.pt(h:PW X e t):PT X e t:=h _
def tm(X:Cx)(st:Tn)(t:TS):Prop:=∀(L:aQ)(s:Zx)(U:St)(H:Hp)(D:Ends),Inv X L U H s->t D U H->Zw (Zy X.prog X.w) X.A (execs st X.env) (SP X L D) X.xe s
theorem rT(h:Zw M A t Q E s)(j:∀a s,Q a s->Q' a s):Zw M A t Q' E s:=c6 h j λ_ _ x=>x
section
variable{X:Cx}
def zQ(i:Nat):TE:=λU H Q=>∃v,U[i]?=B (B v)/\Q v H
def tC(v:bB):TE:=λ_ H Q=>Q v H
def Nl(E:X.N[i]?=B x)(F:pM X.env.scope x)(hd:(x==("__debug__":Str))=Zl:=by decide)(C:(x==("__classdict__":Str))=Zl:=by decide):PE X (.Name x pos) (zQ i):=by
 intro L s U H Q I h;let#[v,e,h]:=h;let#[m,hn,D]:=I.loc;let#[u,r,l]:=D i x v E e F;have fin:EP X L U Q u s:=#[v,H,I,r,h];rcases l with⟨j,hm⟩|⟨j,c,hc,hcell⟩
 .show wpAny_Name (wpAny_loadName_local I.ok.kind j hn hm fin) hd
 .rcases j with j|j
  .show wpAny_Name (wpAny_loadName_cell I.ok.kind j hc hcell fin) hd
  .show wpAny_Name (wpAny_loadName_free I.ok.kind j hc hcell fin C) hd
theorem Nn{i j pos}:PE X (.Constant (.int i) j pos) (tC<|.int i):=λ_ _ _ H _ I h=>wpAny_Constant_int #[.int i,H,I.tok _,#[_,rfl],h]
theorem Np{b j pos}:PE X (.Constant (.bool b) j pos) (tC<|.bl b):=λ_ _ _ H _ I h=>Constant_bool #[.bl b,H,I,rfl,h]
theorem Nq{j pos}:PE X (.Constant .none j pos) (tC .ag):=λ_ _ _ H _ I h=>Constant_none #[.ag,H,I,rfl,h]
theorem Nr{x j pos}:PE X (.Constant (.str x) j pos) (tC<|.str x):=λ_ _ _ H _ I h=>Calls.Constant_str #[.str x,H,I.tok _,#[_,rfl],h]
def Gl(X:Cx)(x:Str):Prop:=X.env.kindOf x=B .globalImplicit
theorem Vu(I:Inv X L U H s)(j:Gl X x)(hm:X.mg x=B u)(h:Q u s) (hd:(x==("__debug__":Str))=Zl:=by decide):Zw (Zy X.prog X.w) X.A (a0 (.Name x pos) X.env) Q E s:=E5 I.ok.kind j (Calls.loadGlobal_global (by rw[I.ok.glob];show I.mod.glob.keeps I.bk) hm h) hd
def Qj(I:Inv X L U H s)(j:Gl X x)(hm:X.mg x=Ze)(C:ka x=B u)(h:Q u s) (hn:x≠"__name__":=by decide)(hd:(x==("__debug__":Str))=Zl:=by decide):Zw (Zy X.prog X.w) X.A (a0 (.Name x pos) X.env) Q E s:=by let#[mb,m,J]:=I.mod.blt;show E5 I.ok.kind j (Calls.loadGlobal_builtin (by rw[I.ok.glob];show I.mod.glob.keeps I.bk) hm (by rw[I.ok.blt];show m.keeps I.bk) ((J x hn).trans C) h) hd
theorem Nt(j:Gl X x)(hm:X.mg x=B u)(r:RelV v u)(hd:(x==("__debug__":Str))=Zl:=by decide):PE X (.Name x pos) (tC v):=λ_ _ _ H _ I h=>Vu I j hm #[v,H,I,r,h] hd
variable{a b:Expr}{ta tb:TE}{pos:Pos}
variable{tA tB':TT}{rest:Te}
end
def bU(K:W.Frag)(H:Hp)(a:Z4)(xs:Uc):Prop:=Rd H a (.lst xs) \/ ∃(o:Obj) (its:Ti) (n:Nat),K.lookup a=B o/\o.cls=.type "list"/\o.dict=Ze/\o.data=.seq its n/\its.size<=sizeLine/\Vals xs its.toList
def d4(K:W.Frag)(H:Hp)(a:Z4)(xs:Uc):Prop:=Rd H a (.tup xs) \/ ∃(o:Obj) (its:Ti) (n:Nat),K.lookup a=B o/\o.cls=.type "tuple"/\o.data=.seq its n/\its.size<=sizeLine/\Vals xs its.toList
noncomputable def zR:Zo->Tj|.none=>B .ag|.bool b=>B<|.bl b|.int i _=>B<|.int i|.str x _=>B<|.str x|.bytes b _=>B<|.iY b|.float b _=>B<|.rP b|.ref a=>B<|.ref a|.type n=>B<|.ty n|_=>Ze
def RelV.abs(r:RelV x u):zR u=B x:=by cases x with|ag=>cases r;rfl|bl _=>cases r;rfl|int _=>let#[t,rfl]:=r;rfl|str _=>let#[t,rfl]:=r;rfl|iY _=>let#[t,rfl]:=r;rfl|rP _=>let#[t,rfl]:=r;rfl|ref _=>cases r;rfl|ty _=>cases r;rfl
theorem RelV.inj(r:RelV x u)(q:RelV y u):x=y:=i6<|r.abs.symm.trans q.abs
theorem Vals.inj:∀{xs ys:Uc}{us:Tv},Vals xs us->Vals ys us->xs=ys|_,_,_,.nil,.nil=>rfl|_,_,_,.cons r t,.cons r' t'=>by rw[r.inj r',Vals.inj t t']
section
variable{X:Cx}{L:aQ}{U:St}{H:Hp}{s:Zx}{a:Z4}{xs ys:Uc}
theorem bU.of{K:W.Frag}(h:H a=B (.lst xs)):bU K H a xs:=.inl<|.inl h
theorem d4.of{K:W.Frag}(h:H a=B (.tup xs)):d4 K H a xs:=.inl<|.inl h
def Inv.list(I:Inv X L U H s)(h:bU X.K H a xs):∃its:Tv,Vals xs its/\PlainL s.heap a its.toArray/\xs.length<=sizeLine:=by
 rcases h with h|⟨o,its,n,hk,hc,hd,hs,hz,r⟩
 .let#[z,its,n,r,e]:=h.ok I.au;show#[its,r,#[_,n,e,rfl,rfl,rfl],z]
 .calc#[its.toList,r,#[o,n,I.cF a o hk,hc,hd,by simpa using hs],?_];have e:=r.length;simp at e;show Zc (Zn e) hz
def Inv.tuple(I:Inv X L U H s)(h:d4 X.K H a xs):∃its:Tv,Vals xs its/\IsTup s.heap a its.toArray/\xs.length<=sizeLine:=by
 rcases h with h|⟨o,its,n,hk,hc,hs,hz,r⟩
 .let#[z,its,r,p]:=h.ok I.au;show#[its,r,p,z]
 .calc#[its.toList,r,#[o,I.cF a o hk,hc,n,by simpa using hs],?_];have e:=r.length;simp at e;show Zc (Zn e) hz
def Inv.ic(I:Inv X L U H s)(h:bU X.K H a xs)(h':bU X.K H a ys):xs=ys:=by
 let#[m,r,#[o,n,e,_,_,d],_]:=I.list h;let#[j,E,#[F,J,C,_,_,D],_]:=I.list h';rw[e]at C;cases C;rw[d]at D;injection D with d1 _
 have:m=j:=by simpa using congrArg Array.toList d1
 subst this;show r.inj E
def Inv.fZ(I:Inv X L U H s)(h:d4 X.K H a xs)(h':d4 X.K H a ys):xs=ys:=by
 let#[m,r,#[o,e,_,n,d],_]:=I.tuple h;let#[j,E,#[F,C,_,J,D],_]:=I.tuple h';rw[e]at C;cases C;rw[d]at D;injection D with d1 _
 have:m=j:=by simpa using congrArg Array.toList d1
 subst this;show r.inj E
end
noncomputable abbrev Cx.aT (X:Cx)(E:aH):Cx:={X with xe:=E}
abbrev Cx.mQ(X:Cx):Cx:=X.aT λ_ _=>False
theorem Cx.Ok.aT{X:Cx}(ok:X.Ok)(E):(X.aT E).Ok:=#[ok.mod,ok.kind,ok.glob,ok.blt,ok.above,ok.inj,ok.has,ok.pN,ok.hd,ok.frames,ok.rQ,ok.rR,ok.bs,ok.jB,ok.ja,ok.ib,ok.da,ok.kI]
theorem Cx.Ok.aG{X:Cx}(ok:(X.aT E).Ok):X.Ok:=#[ok.mod,ok.kind,ok.glob,ok.blt,ok.above,ok.inj,ok.has,ok.pN,ok.hd,ok.frames,ok.rQ,ok.rR,ok.bs,ok.jB,ok.ja,ok.ib,ok.da,ok.kI]
section
variable{X:Cx}{L:aQ}{U:St}{H:Hp}{s:Zx}{E:aH}
theorem Inv.aT(I:Inv X L U H s)(E):Inv (X.aT E) L U H s:=#[I.ok.aT E,I.os,I.bare,I.base,I.loc,I.cell,I.free,I.bT,I.pin,I.au,I.len]
theorem Inv.aG(I:Inv (X.aT E) L U H s):Inv X L U H s:=#[I.ok.aG,I.os,I.bare,I.base,I.loc,I.cell,I.free,I.bT,I.pin,I.au,I.len]
def SP.aG(h:SP (X.aT E) L D f s'):SP X L D f s':=by cases f with|next=>let#[j,m,I,q]:=h;show#[j,m,I.aG,q]|brk=>let#[j,m,I,q]:=h;show#[j,m,I.aG,q]|cont=>let#[j,m,I,q]:=h;show#[j,m,I.aG,q]|ret u=>let#[v,j,m,I,r,q]:=h;show#[v,j,m,I.aG,r,q]
theorem PE.mQ(h:PE X.mQ e t):PE X e t:=λL s U H Q I m=>
 c6 (h L s U H Q (I.aT _) m) (λ_ _ ⟨v,C,j,r,q⟩=>#[v,C,j.aG,r,q]) λ_ _ z=>gh z
theorem PT.mQ(h:PT X.mQ e t):PT X e t:=λL s U H Q I m=>
 c6 (h L s U H Q (I.aT _) m) (λ_ _ ⟨C,j,q⟩=>#[C,j.aG,q]) λ_ _ z=>gh z
theorem tm.mQ{st:Tn}(h:tm X.mQ st t):tm X st t:=λL s U H D I j=>
 c6 (h L s U H D (I.aT _) j) (λ_ _ q=>q.aG) λ_ _ z=>gh z
end
section
variable{X:Cx}{st:dZ}{rest:Tn}{t u:TS}{e:Expr}{te:TE}{pos:Pos}
def Inv.quiet(I:Inv X L U H s):interactive X.env=Zl:=by simp[interactive,I.ok.kind]
end
abbrev zS:=bB->bB->bB->Hp->(Hp->Prop)->Prop
def zT(X:Cx)(t:zS):Prop:=∀(L:aQ)(s:Zx)(U:St)(H:Hp)(o i v:bB)(ov iv u:Zo)(Q:Hp->Prop),Inv X L U H s->RelV o ov->RelV i iv->RelV v u->t o i v H Q ->Zw (Zy X.prog X.w) X.A (setItem ov iv u) (λ_ s'=>∃H',Inv X L U H' s'/\Q H') X.xe s
structure It where
 go:Nat->Hp->Prop
 zU:Nat->Hp->bB->Hp->Prop
 stop:Nat->Hp->Prop
def aB(X:Cx)(L:aQ)(H:Hp)(b:Z4):Prop:=H b=Ze/\b≠X.env.locals/\b∉X.fs/\(b∈X.ex\/X.s₀.heap.objs.size<=b)/\(∀x c,X.env.cells.lookup x=B c->c≠b)/\∀p∈X.pn++L,p.1≠b
def Inv.df(I:Inv X L U H s)(O:s.heap.objs.size<=b)(hn:H' b=Ze):aB X L H' b:=by
 refine#[hn,d0<|ZD I.lt O,I.zO O,.inr<|Zc I.sz O,λx c e z=>?_,λp j z=>?_]
 .let#[v,q]:=I.cell x c e;show absurd (ZD q.lt<|by rw[z];show O)<|i3 _
 .show absurd (ZD (Z0 (I.pin p j).1)<|by rw[z];show O)<|i3 _
structure Turn(P:ZU)(w:bq)(K:W.Frag)(tg:Expr)(bC:It)(fp:Tu)(it:Z4)(tn:Nat->aM->Prop):Prop where
 mem:it∈fp
 obj:∀i h,tn i h->∀b∈fp,∃o,h.get? b=B o/\∀v,o.data≠.cell v
 keep:∀i h h',tn i h->(∀b∈fp,∀o,h.get? b=B o->h'.get? b=B o)->tn i h'
 item:∀(X:Cx),X.prog=P->X.w=w->X.K=K->X.calm=Zi->∀(i:Nat)(L:aQ)(s:Zx)(U:St)(H:Hp)(E:aH),Inv X L U H s->(∀b∈fp,aB X L H b)->tn i s.heap->bC.go i H ->Zw (Zy P w) X.A (dX<|.ref it) (λr s1=>∃u,r=B u /\ Zw (Zy P w) X.A (uA tg (.ref it) u) (λ_ s2=>∃x H',Inv X L U H' s2/\RelV x u/\bC.zU i H x H'/\tn (i+1) s2.heap/\∀b∈fp,H' b=Ze) E s1) E s
 done:∀(X:Cx),X.prog=P->X.w=w->X.K=K->X.calm=Zi->∀(i:Nat)(L:aQ)(s:Zx)(U:St)(H:Hp)(E:aH),Inv X L U H s->(∀b∈fp,aB X L H b)->tn i s.heap->bC.stop i H ->Zw (Zy P w) X.A (dX<|.ref it) (λr s1=>r=Ze/\Inv X L U H s1) E s
 self:∀(A:bP)(i:Nat)(s:Zx)(Q:aH)(E:aH),tn i s.heap->Q (.ref it) s->Zw (Zy P w) A (ke<|.ref it) Q E s
abbrev TI:=St->Hp->(It->Hp->Prop)->Prop
def Nu(X:Cx)(L:aQ)(U:St)(tg:Expr)(R:It->Hp->Prop)(itv:Zo)(s2:Zx):Prop:=∃(it:Z4)(fp:Tu)(tn:Nat->aM->Prop)(bC:It)(H':Hp),itv=.ref it/\Inv X L U H' s2/\Turn X.prog X.w X.K tg bC fp it tn/\tn 0 s2.heap/\(∀b∈fp,aB X L H' b)/\R bC H'
def vN{M:Model}{A:bP}{E:aH}{s:Zx}{tg:Expr}{it:Z4}{u:Zo}{o:Obj}{n:String}{vs:Ti}{Q:Unit->Zx->Prop}(ho:s.heap.get? it=B o)(m:o.cls=.type n)(hd:o.data=.fields vs)
  (hn:["enumerate","zip","dict_itemiterator","dict_reverseitemiterator","odict_iterator","itertools.zip_longest","itertools.pairwise"].contains n=Zl)(j:Q () s):Zw M A (uA tg (.ref it) u) Q E s:=by
 cases tg<;>first
  |show Zj j
  | (cases u<;>first
    |show Zj j
    | (refine Zb (uO ho ?_)
       rw[m,hd];change Zw M A (if (["enumerate","zip","dict_itemiterator","dict_reverseitemiterator","odict_iterator","itertools.zip_longest","itertools.pairwise"].contains n&&vs[0]?==B (cA _))=Zi then _ else _) Q E s;rw[if_neg 05];show Zj j))
def tq(K:W.Frag)(a:Z4):It:=#[λi H=>∃xs x,bU K H a xs/\xs[i]?=B x,λi H x H'=>H'=H/\∀xs,bU K H a xs->xs[i]?=B x,λi H=>∃xs,bU K H a xs/\xs.length<=i]
def zV(K:W.Frag)(a:Z4):It:=#[λi H=>∃xs x,d4 K H a xs/\xs[i]?=B x,λi H x H'=>H'=H/\∀xs,d4 K H a xs->xs[i]?=B x,λi H=>∃xs,d4 K H a xs/\xs.length<=i]
def vO(lo:Int)(n:Nat):It:=#[λi _=>i<n,λi H x H'=>H'=H/\x=.int (lo+i),λi _=>n<=i]
theorem Ff{P:ZU}{w:bq}{K:W.Frag}{tg:Expr}(a it:Z4):Turn P w K tg (tq K a) [it] it (λi h=>h.IsListIter it a i) where
 mem:=03
 obj:=λi h st b O=>by
  have e:b=it:=by simpa using O
  subst e;let#[o,e,c,d]:=st;show#[o,e,λv z=>by rw[d]at z;cases z]
 keep:=λi h C st k=>st.at λo e=>k it 03 o e
 item:=by
  intro X hP hw hK hc i L s U H E I F st J;subst hP hw hK;let#[xs,x,m,D]:=J;let#[Y,Q,p,hz]:=I.list m;let#[u,hu,ru]:=Q.get D;let#[R,V,f2,Z,S,M]:=F it 03;refine yz st p.isList (x:=u) (by simpa using hu) λC j sb=>?_
  have I1:Inv X L U H {s with heap:=C}:=I.turned (t':=s.toks) (λb o O e=>(sb.2 b O).trans e) R V Z S M;let#[o,e,c,d]:=id j;show#[u,rfl,vN (s:={s with heap:=C}) e c d 01 #[x,H,I1,ru,#[rfl,λys hy=>by rw[I.ic hy m];show D],j,λb O=>(F b O).1]]
 done:=by intro X hP hw hK hc i L s U H E I F st J;subst hP hw hK;let#[xs,m,D]:=J;let#[Y,Q,p,hz]:=I.list m;let#[R,V,f2,Z,S,M]:=F it 03;have hl:=Q.length;show zJ (I.cw hc) st p.isList (by simp;show Zc (Zn hl.symm) D) λC eb=>#[rfl,I.turned (t':=s.toks) (λb o O e=>eb b o O e) R V Z S M]
 self:=λ_ _ _ _ _ st h=>ED st h
theorem Nv{P:ZU}{w:bq}{K:W.Frag}{tg:Expr}(a it:Z4):Turn P w K tg (zV K a) [it] it (λi h=>h.IsTupleIter it a i) where
 mem:=03
 obj:=λi h st b O=>by
  have e:b=it:=by simpa using O
  subst e;let#[o,e,c,d]:=st;show#[o,e,λv z=>by rw[d]at z;cases z]
 keep:=λi h D st k=>st.at λo e=>k it 03 o e
 item:=by
  intro X hP hw hK hc i L s U H E I J st M;subst hP hw hK;let#[xs,x,C,F]:=M;let#[j,R,p,hz]:=I.tuple C;let#[u,hu,ru]:=R.get F;let#[S,Y,f2,Z,V,Q]:=J it 03;refine EA st (show s.heap.IsTuple a j.toArray from p) (x:=u) (by simpa using hu) λD m sb=>?_
  have I1:Inv X L U H {s with heap:=D}:=I.turned (t':=s.toks) (λb o O e=>(sb.2 b O).trans e) S Y Z V Q;let#[o,e,c,d]:=id m;show#[u,rfl,vN (s:={s with heap:=D}) e c d 01 #[x,H,I1,ru,#[rfl,λys hy=>by rw[I.fZ hy C];show F],m,λb O=>(J b O).1]]
 done:=by intro X hP hw hK hc i L s U H E I J st M;subst hP hw hK;let#[xs,C,F]:=M;let#[j,R,p,hz]:=I.tuple C;let#[S,Y,f2,Z,V,Q]:=J it 03;have hl:=R.length;show zK (I.cw hc) st (show s.heap.IsTuple a j.toArray from p) (by simp;show Zc (Zn hl.symm) F) λD eb=>#[rfl,I.turned (t':=s.toks) (λb o O e=>eb b o O e) S Y Z V Q]
 self:=λ_ _ _ _ _ st h=>EB st h
theorem Nw{P:ZU}{w:bq}{K:W.Frag}{tg:Expr}(it:Z4)(lo:Int)(n:Nat):Turn P w K tg (vO lo n) [it] it (λi h=>IsRangeIter h it (lo+(i:Nat)*1) ((n:Int)-(i:Nat)) 1) where
 mem:=03
 obj:=λi h st b O=>by
  have e:b=it:=by simpa using O
  subst e;show#[_,st,λv z=>by have z':Data.fields _=sZ v:=z;cases z']
 keep:=λi h m st k=>k it 03 _ st
 item:=by
  intro X Y V Z S i L s U H E I C st D;subst Y V Z;let#[J,Q,f2,R,M,F]:=C it 03;have W:=MX (prog:=X.prog) (w:=X.w) (A:=X.A) it lo 1 n;refine W.item i s _ _ D #[st,I.cw S] λv m tk hv ⟨j,_⟩ kk=>?_
  let#[t,rfl]:=hv;have I1:Inv X L U H {s with heap:=m,toks:=tk}:=I.turned (λb o O e=>kk b o (by simpa using O) e) J Q R M F;calc#[_,rfl,vN (s:={s with heap:=m,toks:=tk}) (n:="range_iterator") j rfl rfl 01 #[.int<|lo+i,H,I1,#[t,?_],#[rfl,rfl],j,λb O=>(C b O).1]];rw[Int.mul_one]
 done:=by intro X Y V Z S i L s U H E I C st D;subst Y V Z;let#[J,Q,f2,R,M,F]:=C it 03;show Fc (I.cw S) st (by have:n<=i:=D;lia) λm eb=>#[rfl,I.turned (t':=s.toks) (λb o O e=>eb b o O e) J Q R M F]
 self:=λ_ _ _ _ _ st h=>EC st h
section
variable{X:Cx}{tg:Expr}
def Nx{lo Z:Int}(I:Inv X L U H s)(h1: -(2^62)<=lo)(J:lo<2^62)(h3: -(2^62)<=Z)(C:Z<2^62)
  (q:R (vO lo (Z-lo).toNat) H):Zw (Zy X.prog X.w) X.A (ke<|.ref s.heap.objs.size) (Nu X L U tg R) E {s with heap:=s.heap.push {cls:=.type "range",data:=.fields (ba [.int lo t,.int Z u,.int 1 v])},toks:=tk}:=by
 calc wpAny_pyIter_range (IsRange.new ..) (small_one h1 J h3 C) ?_;have I1:Inv X L U H {s with heap:=s.heap.push {cls:=.type "range",data:=.fields (ba [.int lo t,.int Z u,.int 1 v])},toks:=tk}:=I.kept λb o e=>Zg _ e
 refine#[(s.heap.push {cls:=.type "range",data:=.fields (ba [.int lo t,.int Z u,.int 1 v])}).objs.size,[(s.heap.push {cls:=.type "range",data:=.fields (ba [.int lo t,.int Z u,.int 1 v])}).objs.size],_,_,H,rfl,
  I1.kept (t':=tk) λb o e=>Zg _ e,Nw _ lo (Z-lo).toNat,?_,λb O=>?_,q]
 .have m:lo+((0:Nat):Int)*1=lo:=03;have j:(((Z-lo).toNat:Nat):Int)-((0:Nat):Int)=E7 lo Z 1:=by rw[rangeSize_one];split<;>lia
  rw[m,j];show Zt _ rfl
 .have e:b=(s.heap.push {cls:=.type "range",data:=.fields (ba [.int lo t,.int Z u,.int 1 v])}).objs.size:=by simpa using O
  subst e;show I1.df (Zk _)<|I1.au.fresh<|Zk _
def QO(fp:Tu)(h:aM):aQ:=fp.filterMap λb=>(h.get? b).map λo=>(b,o)
theorem Yz(O:b∈fp)(e:h.get? b=B o):(b,o)∈QO fp h:=List.mem_filterMap.mpr #[b,O,by rw[e];rfl]
def Ny(hp:p∈QO fp h):p.1∈fp/\h.get? p.1=B p.2:=by let#[b,O,e]:=List.mem_filterMap.mp hp;cases q:h.get? b with|none=>rw[q]at e;cases e|some o=>rw[q]at e;have j:=i6 e;subst j;show#[O,q]
theorem Inv.pinned(I:Inv X L U H s)(F:∀b∈fp,aB X L H b)(ho:∀b∈fp,∃o,s.heap.get? b=B o/\∀v,o.data≠.cell v):Inv X (L++QO fp s.heap) U H s:=I.jC λp C=>(ZQ.mp C).elim (λz=>I.pin p<|Zr _ z) λz=>by let#[O,e]:=Ny z;let#[D,m,E,_]:=F p.1 O;let#[o,j,d]:=ho p.1 O;rw[e]at j;cases j;show#[e,D,m,E,d]
theorem Inv.ig(I:Inv X (L++pl) U H s):Inv X L U H s:=I.jC λp j=>I.pin p<|Zr _<|ZZ _ j
end
abbrev R2:=bB->bB->Hp->VK->Prop
def d6(X:Cx)(f:Zo->Zo->Sem Zo)(r:R2):Prop:=∀(L:aQ)(s:Zx)(U:St)(H:Hp)(x y:bB)(v u:Zo)(Q:VK),Inv X L U H s->RelV x v->RelV y u->r x y H Q ->Zw (Zy X.prog X.w) X.A (f v u) (EP X L U Q) X.xe s
def zW(X:Cx)(f:Zo->Sem Zo)(r:bB->Hp->VK->Prop):Prop:=∀(L:aQ)(s:Zx)(U:St)(H:Hp)(x:bB)(v:Zo)(Q:VK),Inv X L U H s->RelV x v->r x H Q ->Zw (Zy X.prog X.w) X.A (f v) (EP X L U Q) X.xe s
def Vd(X:Cx)(f:Zo)(r:Uc->Hp->VK->Prop):Prop:=∀(L:aQ)(s:Zx)(U:St)(H:Hp)(xs:Uc)(us:Tv)(Q:VK),Inv X L U H s->Vals xs us->r xs H Q ->Zw (Zy X.prog X.w) X.A (call f us) (EP X L U Q) X.xe s
def tu(X:Cx)(r:bB->Hp->(Bool->Hp->Prop)->Prop):Prop:=∀(L:aQ)(s:Zx)(U:St)(H:Hp)(x:bB)(v:Zo)(Q:Bool->Hp->Prop),Inv X L U H s->RelV x v->r x H Q ->Zw (Zy X.prog X.w) X.A (truthy v) (TP X L U Q) X.xe s
def rI(C:Int->Int->Prop)(g:Int->Int->bB):R2:=λx y H Q=>∃i j,x=.int i/\y=.int j/\C i j/\Q (g i j) H
def oz(g:Int->Int->bB):R2:=λx y H Q=>∃i j,x=.int i/\y=.int j/\Q (g i j) H
def rU(g:Int->bB):bB->Hp->VK->Prop:=λx H Q=>∃i,x=.int i/\Q (g i) H
section
variable{X:Cx}{a b c:Expr}{ta tb tc:TE}{pos:Pos}
def vP{g:Int->Int->Int} (m:∀(i j:Int)(t u:Tok)(s:Zx)(Q E:aH),C i j->Q (.int (g i j) s.toks) {s with toks:=s.toks+1}->Zw (Zy X.prog X.w) X.A (f (.int i t)<|.int j u) Q E s):d6 X f (rI C λi j=>.int<|g i j):=by intro L s U H x y v u Q I M F h;let#[i,j,rfl,rfl,J,q]:=h;let#[t,rfl]:=M;let#[D,rfl]:=F;show m i j t D s _ _ J #[.int<|g i j,H,I.tok _,#[_,rfl],q]
def tw{g:Int->Int->Int} (m:∀(i j:Int)(t u:Tok)(s:Zx)(Q E:aH),Q (.int (g i j) s.toks) {s with toks:=s.toks+1}->Zw (Zy X.prog X.w) X.A (f (.int i t)<|.int j u) Q E s):d6 X f (oz λi j=>.int<|g i j):=by intro L s U H x y v u Q I F D h;let#[i,j,rfl,rfl,q]:=h;let#[t,rfl]:=F;let#[C,rfl]:=D;show m i j t C s _ _ #[.int<|g i j,H,I.tok _,#[_,rfl],q]
def mR{g:Int->Int->Bool} (m:∀(i j:Int)(t u:Tok)(s:Zx)(Q E:aH),Q (.bool<|g i j) s->Zw (Zy X.prog X.w) X.A (f (.int i t)<|.int j u) Q E s):d6 X f (oz λi j=>.bl<|g i j):=by intro L s U H x y v u Q I F D h;let#[i,j,rfl,rfl,q]:=h;let#[t,rfl]:=F;let#[C,rfl]:=D;show m i j t C s _ _ #[.bl<|g i j,H,I,rfl,q]
def zX(i j:Int):Prop:=0<=j/\j<=1000000/\i.natAbs<2^64
def tx(i j:Int):Prop:=(-(2^64)<i/\i<2^64)\/(-(2^64)<j/\j<2^64)
def tx.ok(h:tx i j):IntMulOk i j:=by
 rcases h with⟨m,J⟩|⟨m,J⟩
 .show .of_left<|uG m J
 .show .of_right<|uG m J
theorem Nz:d6 X (fE .Add) (oz λi j=>.int<|i+j):=tw λ_ _ _ _ _ _ _ q=>add_int q
theorem NA:d6 X (fE .Sub) (oz λi j=>.int<|i-j):=tw λ_ _ _ _ _ _ _ q=>sub_int q
theorem NB:d6 X (fE .Mod) (rI (λ_ j=>0<j) λi j=>.int<|i%j):=vP λi j _ _ _ _ _ C q=>by have m:=C;show mod_int' (oh m)<|by rw[Int.fmod_eq_emod_of_nonneg i<|ZV m];show q
theorem NC:d6 X (fE .Pow) (rI zX λi j=>.int<|i^j.toNat):=vP λ_ _ _ _ _ _ _ m q=>pow_int_small m.1 m.2.1 m.2.2 q
def vQ{g:Int->Int} (j:∀(i:Int)(t:Tok)(s:Zx)(Q E:aH),Q (.int (g i) s.toks) {s with toks:=s.toks+1}->Zw (Zy X.prog X.w) X.A (f<|.int i t) Q E s):zW X f (rU λi=>.int<|g i):=by intro L s U H x v Q I m h;let#[i,rfl,q]:=h;let#[t,rfl]:=m;show j i t s _ _ #[.int<|g i,H,I.tok _,#[_,rfl],q]
theorem ND:zW X (unaryOp .USub) (rU λi=>.int (-i)):=vQ λ_ _ _ _ _ q=>neg_int q
end
noncomputable def pO:bB->bB->Bool|.ag,.ag=>Zi|.ag,.int _=>Zi|.int _,.ag=>Zi|.ag,.bl _=>Zi|.bl _,.ag=>Zi|.ag,.str _=>Zi|.str _,.ag=>Zi|.int _,.int _=>Zi|.bl _,.bl _=>Zi|.str _,.str _=>Zi|.iY _,.iY _=>Zi|.int _,.str _=>Zi|.str _,.int _=>Zi|.bl _,.str _=>Zi|.str _,.bl _=>Zi|_,_=>Zl
def NF:R2:=λx y H Q=>pO x y=Zi/\Q (.bl<|decide (x=y)) H
def NG:R2:=λx y H Q=>pO x y=Zi/\Q (.bl (!decide (x=y))) H
def Fg:decide (bB.int i=bB.int j)=(i==j):=by rw[vj];simp
def Fh:decide (bB.bl i=bB.bl j)=(i==j):=by rw[vj];simp
def Fi:decide (bB.str i=bB.str j)=(i==j):=by rw[vj];simp
def Fj:decide (bB.iY i=bB.iY j)=(i.toList==j.toList):=by rw[vj];cases i;cases j;simp
section
variable{X:Cx}{a b c:Expr}{ta tb tc:TE}{pos:Pos}
def JD(I:Inv X L U H s)(q:Q (.bl k) H)(e:k=k'):EP X L U Q (.bool k') s:=by subst e;show#[.bl k,H,I,rfl,q]
def NH:d6 X (dU .Eq) NF:=by
 intro L s U H x y v u Q I E m h;let#[D,q]:=h;cases x with
 |ag=>cases E;cases y with|ag=>cases m;show PySem.EqNone.eq_none_none<|JD I q 03|bl j=>cases m;show PySem.EqNone.eq_none_bool<|JD I q 03|int j=>let#[C,rfl]:=m;show PySem.EqNone.eq_none_int<|JD I q 03|str j=>let#[C,rfl]:=m;show PySem.EqNone.eq_none_str<|JD I q 03|_=>show absurd (show Zl=Zi from D) Zz
 |bl i=>cases E;cases y with|ag=>cases m;show PySem.EqNone.eq_bool_none<|JD I q 03|bl j=>cases m;show eq_bool<|JD I q Fh|str j=>let#[C,rfl]:=m;show PySem.EqMixed.eq_bool_str<|JD I q 03|_=>show absurd (show Zl=Zi from D) Zz
 |int i=>let#[t,rfl]:=E;cases y with|ag=>cases m;show PySem.EqNone.eq_int_none<|JD I q 03|int j=>let#[C,rfl]:=m;show eq_int<|JD I q Fg|str j=>let#[C,rfl]:=m;show PySem.EqMixed.eq_int_str<|JD I q 03|_=>show absurd (show Zl=Zi from D) Zz
 |str i=>let#[t,rfl]:=E;cases y with|ag=>cases m;show PySem.EqNone.eq_str_none<|JD I q 03|bl j=>cases m;show PySem.EqMixed.eq_str_bool<|JD I q 03|int j=>let#[C,rfl]:=m;show PySem.EqMixed.eq_str_int<|JD I q 03|str j=>let#[C,rfl]:=m;show eq_str<|JD I q Fi|_=>show absurd (show Zl=Zi from D) Zz
 |iY i=>let#[t,rfl]:=E;cases y with|iY j=>let#[C,rfl]:=m;show W.eq_bytes<|JD I q Fj|_=>show absurd (show Zl=Zi from D) Zz
 |_=>cases y<;>show absurd (show Zl=Zi from D) Zz
def NI:d6 X (dU .NotEq) NG:=by
 intro L s U H x y v u Q I E m h;let#[D,q]:=h;cases x with
 |ag=>cases E;cases y with|ag=>cases m;show PySem.EqNone.ne_none_none<|JD I q 03|bl j=>cases m;show PySem.EqNone.ne_none_bool<|JD I q 03|int j=>let#[C,rfl]:=m;show PySem.EqNone.ne_none_int<|JD I q 03|str j=>let#[C,rfl]:=m;show PySem.EqNone.ne_none_str<|JD I q 03|_=>show absurd (show Zl=Zi from D) Zz
 |bl i=>cases E;cases y with|ag=>cases m;show PySem.EqNone.ne_bool_none<|JD I q 03|bl j=>cases m;show ne_bool<|JD I q<|congrArg not Fh|str j=>let#[C,rfl]:=m;show PySem.EqMixed.ne_bool_str<|JD I q 03|_=>show absurd (show Zl=Zi from D) Zz
 |int i=>let#[t,rfl]:=E;cases y with|ag=>cases m;show PySem.EqNone.ne_int_none<|JD I q 03|int j=>let#[C,rfl]:=m;show ne_int<|JD I q<|congrArg not Fg|str j=>let#[C,rfl]:=m;show PySem.EqMixed.ne_int_str<|JD I q 03|_=>show absurd (show Zl=Zi from D) Zz
 |str i=>let#[t,rfl]:=E;cases y with|ag=>cases m;show PySem.EqNone.ne_str_none<|JD I q 03|bl j=>cases m;show PySem.EqMixed.ne_str_bool<|JD I q 03|int j=>let#[C,rfl]:=m;show PySem.EqMixed.ne_str_int<|JD I q 03|str j=>let#[C,rfl]:=m;show ne_str<|JD I q<|congrArg not Fi|_=>show absurd (show Zl=Zi from D) Zz
 |iY i=>let#[t,rfl]:=E;cases y with|iY j=>let#[C,rfl]:=m;show W.ne_bytes<|JD I q<|congrArg not Fj|_=>show absurd (show Zl=Zi from D) Zz
 |_=>cases y<;>show absurd (show Zl=Zi from D) Zz
theorem NJ:d6 X (dU .Lt) (oz λi j=>.bl<|decide (i<j)):=mR λ_ _ _ _ _ _ _ q=>lt_int q
theorem NK:d6 X (dU .LtE) (oz λi j=>.bl<|decide (i<=j)):=mR λ_ _ _ _ _ _ _ q=>le_int q
theorem NL:d6 X (dU .Gt) (oz λi j=>.bl<|decide (j<i)):=mR λ_ _ _ _ _ _ _ q=>gt_int q
theorem NM:d6 X (dU .GtE) (oz λi j=>.bl<|decide (j<=i)):=mR λ_ _ _ _ _ _ _ q=>ge_int q
def NN:d6 X (dU .Lt) (λx y H Q=>∃i j,x=.str i/\y=.str j/\Q (.bl<|decide (i.cps.toList<j.cps.toList)) H):=by intro L s U H x y v u Q I C m h;let#[i,j,rfl,rfl,q]:=h;let#[t,rfl]:=C;let#[D,rfl]:=m;show lt_str<|JD I q rfl
def d6.or(h:d6 X f r)(h':d6 X f r'):d6 X f (λx y H Q=>r x y H Q\/r' x y H Q):=by
 intro L s U H x y v u Q I m j q;rcases q with q|q
 .show h L s U H x y v u Q I m j q
 .show h' L s U H x y v u Q I m j q
def zY(K:W.Frag)(x:bB)(H:Hp)(k:Bool):Prop:=match x with|.ag=>k=Zl|.bl b=>k=b|.int i=>k=(i != 0)|.str y=>y.length<=sizeLine/\k=((y.length:Int) != 0)|.iY y=>y.size<=sizeLine/\k=((y.size:Int) != 0)|.ref p=>(∃xs,bU K H p xs/\k=!xs.isEmpty)\/(∃xs,d4 K H p xs/\k=!xs.isEmpty)\/∃kvs,H p=B (.dK kvs)/\k=!kvs.isEmpty|_=>False
def NO(r:KV kvs vs):(!vs.isEmpty)=!kvs.isEmpty:=by cases r<;>rfl
def Fl(r:Vals xs its):(!its.toArray.isEmpty)=!xs.isEmpty:=by cases r<;>simp
def Xe:(sizeLine:Nat)<2^63:=by rw[iM];decide
def VL:tu X (λx H Q=>∃k,zY X.K x H k/\Q k H):=by
 intro L s U H x v Q I D h;let#[k,e,q]:=h;have S:=Xe;have R:=iM;cases x with
 |ag=>cases D;have j:k=Zl:=e;subst j;show truthy_none #[H,I,q]
 |bl b=>cases D;have j:k=b:=e;subst j;show oU #[H,I,q]
 |int i=>let#[t,rfl]:=D;have j:k=(i != 0):=e;subst j;show PySem.P.truthy_int #[H,I,q]
 |str y=>let#[t,rfl]:=D;obtain⟨O,j⟩:y.length<=sizeLine/\k=((y.length:Int) != 0):=e;subst j;show PySem.P.truthy_str 05 #[H,I.tok _,q]
 |iY y=>let#[t,rfl]:=D;obtain⟨O,j⟩:y.size<=sizeLine/\k=((y.size:Int) != 0):=e;subst j;show W.truthy_bytes (o3 06) #[H,I.tok _,q]
 |ref p=>
  cases D;have j:=e;rcases j with⟨xs,E,j⟩|⟨xs,E,j⟩|⟨kvs,E,j⟩
  .subst j;let#[J,r,pl,M]:=I.list E;have C:=r.length;show wpAny_truthy_list pl.isList (by simp![ZI];lia) #[H,I.tok _,by rw[Fl r];show q]
  .subst j;let#[J,r,pl,M]:=I.tuple E;have C:=r.length;show truthy_tuple pl (by simp![ZI];lia) #[H,I.tok _,by rw[Fl r];show q]
  .subst j;obtain⟨M,P,F,r,m⟩:kvs.length<=sizeLine/\(p==nF)=Zl/\∃F,KV kvs F/\s.heap.DictOf (Vx X.prog X.w) p F:=I.au p _ E;have C:=zD r;show wpAny_truthy_dict P m 05 #[H,I.tok _,by rw[NO r];show q]
 |_=>show Zf e
def NP:d6 X (fE .Add) (λx y H Q=>∃i j,x=.str i/\y=.str j/\i.length+j.length<=sizeLine/\Q (.str<|i++j) H):=by intro L s U H x y v u Q I E D h;let#[i,j,rfl,rfl,m,q]:=h;let#[t,rfl]:=E;let#[C,rfl]:=D;show add_str (λC F=>#[.str<|i++j,H,I.tok _,#[_,rfl],q]) m
def Qz(r:Vals [x] us):∃u,us=[u]/\RelV x u:=by cases r with|cons j m=>cases m;show#[_,rfl,j]
def Fm(r:Vals [x,y] us):∃u j,us=[u,j]/\RelV x u/\RelV y j:=by
 cases r with|cons C D=>cases D with|cons E m=>cases m;show#[_,_,rfl,C,E]
def NQ(C:X.calm=Zi):Vd X (.builtin "max") (λxs H Q=>∃i j,xs=[.int i,.int j]/\Q (.int (if j>i then j else i)) H):=by
 intro L s U H xs E Q I r h;let#[i,j,rfl,q]:=h;let#[u,M,rfl,#[t,rfl],#[J,rfl]]:=Fm r;refine M0 (I.cw C) λF D k=>#[_,H,I.kept k,?_,q]
 by_cases m:j>i
 .rw[if_pos m,if_pos m];show#[_,rfl]
 .rw[if_neg m,if_neg m];show#[_,rfl]
def NR(C:X.calm=Zi):Vd X (.builtin "min") (λxs H Q=>∃i j,xs=[.int i,.int j]/\Q (.int (if j<i then j else i)) H):=by
 intro L s U H xs E Q I r h;let#[i,j,rfl,q]:=h;let#[u,M,rfl,#[t,rfl],#[J,rfl]]:=Fm r;refine M3 (I.cw C) λF D k=>#[_,H,I.kept k,?_,q]
 by_cases m:j<i
 .rw[if_pos m,if_pos m];show#[_,rfl]
 .rw[if_neg m,if_neg m];show#[_,rfl]
def zZ(K:W.Frag)(x:bB)(H:Hp)(n:Nat):Prop:=match x with|.str y=>y.length<=sizeLine/\n=y.length|.iY y=>y.size<=sizeLine/\n=y.size|.ref p=>(∃xs,bU K H p xs/\n=xs.length)\/∃xs,d4 K H p xs/\n=xs.length|_=>False
def vR:Vd X (.builtin "len") (λxs H Q=>∃x n,xs=[x]/\zZ X.K x H n/\Q (.int n) H):=by
 intro L s U H xs O Q I r h;let#[x,n,rfl,e,q]:=h;let#[u,rfl,E]:=Qz r;have P:=Xe;have R:=iM;cases x with
 |str y=>let#[t,rfl]:=E;obtain⟨M,m⟩:y.length<=sizeLine/\n=y.length:=e;subst m;show len_str 05 #[.int _,H,I.tok _,#[_,rfl],q]
 |iY y=>let#[t,rfl]:=E;obtain⟨M,m⟩:y.size<=sizeLine/\n=y.size:=e;subst m;show W.len_bytes (o3 06) #[.int _,H,I.tok _,#[_,rfl],q]
 |ref p=>
  cases E;have m:=e;rcases m with⟨xs,C,m⟩|⟨xs,C,m⟩
  .subst m;let#[D,F,pl,J]:=I.list C;have j:=F.length;show Calls.call_len_list pl.isList (by simp;lia) #[.int xs.length,H,I.tok _,#[_,by simp![ZI];rw[j]],q]
  .subst m;let#[D,F,pl,J]:=I.tuple C;have j:=F.length;show len_tuple pl (by simp;lia) #[.int xs.length,H,I.tok _,#[_,by simp![ZI];rw[j]],q]
 |_=>show Zf e
end
structure jc(h:aM)(x dx C:Z4)(mA:Str->Tc):Prop where
 obj:h.get? x=B (W.instObj C dx)
 ns:h.Ns1 dx mA
 ne:dx≠x
def NS{h:aM}(n:h.Ns1 dx mA):∃od,h.get? dx=B od/\∀name,W.lookIn name od=B (mA name):=by
 let#[o,m,H,C,hd,F,_,hm]:=n;calc#[o,C,λname=>?_];have e:=hm name;unfold nsFind findBy at e;rw[<-zk]at e;unfold W.lookIn;rw[hd];dsimp only;split
 .simp_all
 .rename_i q;rw[q]at e;have a:m.toList.any (·.refKey)=Zl:=by rw[List.any_eq_false];intro y E;let#[z,t,j]:=F y<|Array.mem_toList_iff.mp E;simp[DictEntry.refKey,j]
  have D:¬m.toList.any (·.refKey)=Zi:=by rw[a];show Zz
  rw[if_neg D];show congrArg B e
theorem jc.look(I:jc h x dx C mA):∃od,W.InstAt h x (W.instObj C dx) C (B od)/\∀name,W.lookIn name od=B (mA name):=
 let ⟨od,m,j⟩:=NS I.ns
 #[od,#[I.obj,rfl,rfl,m],j]
section
variable{prog:ZU}{w:bq}{A:bP}{E:aH}{s:Zx}{K:W.Frag}{x dx C f:Z4}{mA:Str->Tc}{name:Str}{v:Zo}
def NT(X:K.In s.heap)(I:jc s.heap x dx C mA)(D:W.plainGet K C name=Zi)(H:W.hasDictIn K C=Zi) (ha:W.findIn K (.ref C) name=B Ze)(J:mA name=B v)(j:W.handedIn v=Zi)(h:Q v {s with toks:=s.toks+1}):Zw (Zy prog w) A (getAttr (.ref x) name expr) Q E s:=by let#[L,m,F]:=I.look;show W.get_value X m (W.plainGet_of D).1 (W.findObj_own H ha rfl (by rw[F,J])) j h
def NU(X:K.In s.heap)(I:jc s.heap x dx C mA)(j:W.plainGet K C name=Zi) (L:W.findIn K (.ref C) name=B (B<|.ref f))(H:W.isFn K (.ref f)=Zi)(J:mA name=Ze)(h:Q (.ref f,[.ref x]) s):Zw (Zy prog w) A (oZ (.ref x) name pl) Q E s:=by let#[F,m,D]:=I.look;show W.method_fn X m (W.plainGet_of j).1 (W.plainGet_of j).2 L (beq_iff_eq.mp H) (by change(W.lookIn name F).map (·.isSome)=B Zl;rw[D,J];rfl) h
def NV(X:K.In s.heap)(I:jc s.heap x dx C mA) (hs:W.findIn K (.ref C) "__setattr__"=B (B<|.builtin "object.__setattr__"))(hp:W.plainOver K C=Zi)(P:W.takerIn K C name=B Ze)(R:W.hasDictIn K C=Zi) (U:yI mA ns)(hsz:ns.length<=sizeLine) (h:∀h',jc h' x dx C (λy=>if y=name then B v else mA y)->jx dx s.heap h'->Q () {s with heap:=h',toks:=s.toks+2}):Zw (Zy prog w) A (setAttr (.ref x) name v) Q E s:=by
 let#[od,L,Z]:=I.look;refine W.set_plain X L hs<|W.osa_open (r:=Ze) X L hp P λb=>?_
 let#[cd,S,J]:=W.any_some R;have V:=I.obj;calc Zb<|Zj<|Zb<|Zb<|yG V<|Zb<|W.Looks.here (W.looks_clsIn X S) ?_;rw[J];calc Zj (a:=B dx)<|Zb<|Zj<|Zb ?_;refine wpAny_nsSet1 I.ns λh' j m=>?_
 let#[Y,M,O,H,F,D]:=j.count<|PySem.Within.cons name v U;calc Zb (wpAny_lookBehind H (by rw[F];show pastItsLine_dict<|Zc D<|by rw[iP];show rf 06) ?_);show Zj<|h _ #[(m.2 _<|ZP I.ne).trans I.obj,j,I.ne] m
def NW(X:K.In s.heap)(hm:W.makesIn K C=Zi) (Z:W.findIn K (.ref C) "__init__"=B (B<|.ref f))(j:W.typeIn K (.ref f)=B (.type "function")) (h:iN (Zy prog w) (A.under<|.builtin "type.__call__" #[.ref C::vs,kw]) (.call (.ref f) #[.ref (s.heap.objs.size+1)::vs,kw]) (W.InitBack (s.heap.objs.size+1) R) {s with heap:=(s.heap.push W.emptyDict).push (W.instObj C s.heap.objs.size)}):iN (Zy prog w) A (.call (.ref C) #[vs,kw]) R s:=by let#[m,g,d,t,os]:=s;show W.make_core (W.makes_of X hm) (W.looks_findIn X Z) (λself=>W.bind_fn X self j) (.inl rfl) h
end
noncomputable def cI (f:Str)(v:bB):Wu->Wu|[]=>[(f,v)]|(g,x)::r=>if g=f then(g,v)::r else(g,x)::cI f v r
theorem Fo(f g)(v):∀fs:Wu,(cI f v fs).lookup g=if g=f then B v else fs.lookup g
 |[]=>by
  change rB g [(f,v)]=_;by_cases h:g=f
  .simp_all
  .simp_all
 |(k,x)::r=>by
  have m:=Fo f g v r;rw[show cI f v ((k,x)::r)=(if k=f then(k,v)::r else(k,x)::cI f v r)from rfl];by_cases j:k=f
  .rw[if_pos j];by_cases h:g=k
   .simp_all
   .have O:(g==k)=Zl:=beq_eq_false_iff_ne.mpr h;simp![rB,O,if_neg λe:g=f=>h<|e.trans j.symm]
  .rw[if_neg j];by_cases h:g=k
   .simp_all
   .have O:(g==k)=Zl:=beq_eq_false_iff_ne.mpr h;simp![rB,O];show m
theorem z8(f)(v):∀fs:Wu,f∈(cI f v fs).map (·.1)/\∀g,g∈fs.map (·.1)->g∈(cI f v fs).map (·.1)
 |[]=>#[by simp[cI],λg h=>by simp at h]
 |(k,x)::r=>by
  let#[C,m]:=z8 f v r;rw[show cI f v ((k,x)::r)=(if k=f then(k,v)::r else(k,x)::cI f v r)from rfl];by_cases j:k=f
  .simp_all
  .rw[if_neg j];refine#[?_,λg h=>?_]
   .simp_all
   .rw[ZW]at h ⊢;rcases ZA.mp h with e|e
    .show ZA.mpr<|.inl e
    .show Zm _<|m g e
theorem Fp(f)(v):∀fs:Wu,(cI f v fs).length<=fs.length+1
 |[]=>by simp[cI]
 |(k,x)::r=>by
  have m:=Fp f v r;rw[show cI f v ((k,x)::r)=(if k=f then(k,v)::r else(k,x)::cI f v r)from rfl];by_cases j:k=f
  .simp_all
  .simp_all
def cU.some_of(r:cU (B v) o):∃u,o=B u/\RelV v u:=by
 cases o with
 |none=>show(r).elim
 |some u=>show#[u,rfl,r]
def cU.none_of(r:cU Ze o):o=Ze:=by cases o with|none=>rfl|some u=>show(r).elim
def NX(r:RelV v u):W.handedIn u=Zi:=by cases v with|ag=>cases (r);rfl|bl b=>cases (r);rfl|int i=>let#[t,e]:=(r);cases e;rfl|str x=>let#[t,e]:=(r);cases e;rfl|iY b=>let#[t,e]:=(r);cases e;rfl|rP b=>let#[t,e]:=(r);cases e;rfl|ref a=>cases (r);rfl|ty n=>cases (r);rfl
section
variable{P:ZU}{w:bq}{H H':Hp}{h h':aM}{a C dx:Z4}{fs fs':Wu}
def vS(au:cV P w H h)(e:H a=B (.ins C dx fs)):∃mA,jc h a dx C mA/\(∀f,cU (fs.lookup f)<|mA f)/\yI mA (fs.map (·.1))/\fs.length<=1000/\H dx=B (.own a):=by let#[d,z,ne,j,mA,n,r,q]:=(au a _ e);show#[mA,#[j,n,ne],r,q,z,d]
end
structure kM(K:W.Frag)(C:Z4):Prop where
 pg:W.plainGet K C iT=Zi
 hd:W.hasDictIn K C=Zi
 po:W.plainOver K C=Zi
 sa:W.findIn K (.ref C) "__setattr__"=B (B<|.builtin "object.__setattr__")
theorem kM.get{K:W.Frag}(c:kM K C)(f):W.plainGet K C f=Zi:=c.pg
def Vf(K:W.Frag)(C:Z4)(f:Str):Prop:=W.findIn K (.ref C) f=B Ze
def Vf.tB{K:W.Frag}(n:Vf K C f):W.takerIn K C f=B Ze:=by unfold W.takerIn;rw[show W.findIn K (.ref C) f=B Ze from n];rfl
structure Con(K:W.Frag)(C:Z4)(f:Str)(v:bB)(u:Zo):Prop where
 at_:W.findIn K (.ref C) f=B (B u)
 rel:RelV v u
 get:W.specialIn K u "__get__"=B Ze
 cp:W.copiedNames.contains f=Zl
structure Meth(K:W.Frag)(C:Z4)(m:Str)(f:Z4):Prop where
 at_:W.findIn K (.ref C) m=B (B<|.ref f)
 fn:W.isFn K (.ref f)=Zi
 kp:W.keepIn K (.ref f)=Zi
section
variable{X:Cx}{L:aQ}{U:St}{H:Hp}{s:Zx}{a C dx:Z4}{fs:Wu}{f:Str}{v:bB}{A:bP}{E:aH}
def Fq(I:Inv X L U H s)(e:H a=B (.ins C dx fs))(c:kM X.K C)(n:Vf X.K C f)(l:fs.lookup f=B v) (h:∀u s',Inv X L U H s'->RelV v u->Q u s'):Zw (Zy X.prog X.w) A (getAttr (.ref a) f b) Q E s:=by
 let#[F,m,r,_,_,_]:=vS I.au e;let#[u,D,j]:=cU.some_of<|by rw[<-l];show r f
 show NT I.cF m (c.get f) c.hd n D (NX j)<|h u _ (I.tok _) j
def Fs(I:Inv X L U H s)(e:H a=B (.ins C dx fs))(c:kM X.K C)(k:Meth X.K C m g)(l:fs.lookup m=Ze) (h:Q (.ref g,[.ref a]) s):Zw (Zy X.prog X.w) A (oZ (.ref a) m pl) Q E s:=by
 let#[D,j,r,_,_,_]:=vS I.au e;have hn:=cU.none_of<|by rw[<-l];show r m
 show NU I.cF j (c.get m) k.at_ k.fn hn h
def Ft(I:Inv X L U H s)(e:H a=B (.ins C dx fs))(c:kM X.K C)(n:Vf X.K C f)(hl:fs.length<1000)(S:RelV y u) (h:∀s',Inv X L U (upd H a<|.ins C dx<|cI f y fs) s'->Q () s'):Zw (Zy X.prog X.w) A (setAttr (.ref a) f u) Q E s:=by
 let#[F,m,r,D,_,J]:=vS I.au e;have M:(fs.map (·.1)).length<=sizeLine:=by rw[Zp,iM];show o3 06
 refine NV I.cF m c.sa c.po n.tB c.hd D M λP j W=>h _ ?_
 have hd:∃o,P.get? dx=B o:=let ⟨o,_,_,R,_⟩:=j.ns;#[o,R];calc I.write (by rw[e];show fJ) (.inr J) (λb q O z=>(W.2 b O).trans z) hd ?_;refine#[by rw[Jp m.ne];show J,?_,m.ne,j.obj,_,j.ns,λg=>?_,λg V=>?_]
 .have:=Fp f y fs;show Zc this hl
 .change cU ((cI f y fs).lookup g) (if g=f then B u else F g);rw[Fo];by_cases q:g=f
  .rw[if_pos q,if_pos q];show S
  .simp_all
 .by_cases q:g=f
  .rw[q];show(z8 f y fs).1
  .calc(z8 f y fs).2 g (D g λz=>V ?_);change(if g=f then B u else F g)=Ze;rw[if_neg q];show z
def Inv.made(I:Inv X L U H s):Inv X L U (upd (upd H s.heap.objs.size<|.own<|s.heap.objs.size+1) (s.heap.objs.size+1)<|.ins C s.heap.objs.size []) {s with heap:=(s.heap.push W.emptyDict).push (W.instObj C s.heap.objs.size)}:=by
 have j:(s.heap.push W.emptyDict).get? s.heap.objs.size=B W.emptyDict:=Zt s.heap rfl;have m:((s.heap.push W.emptyDict).push<|W.instObj C s.heap.objs.size).get? (s.heap.objs.size+1)=B (W.instObj C s.heap.objs.size):=by have:=Zt (s.heap.push W.emptyDict) (o:=W.instObj C s.heap.objs.size) rfl;rwa [nY]at this
 have D:(s.heap.push W.emptyDict).Ns s.heap.objs.size (λ_=>Ze):=#[W.emptyDict,#[],_,j,rfl,(λe F=>absurd F 03),λ_=>rfl];have I1:=I.laid (o:=.own<|s.heap.objs.size+1) (t':=s.toks) (λb u q=>Zg _ q) (Zk _) #[_,j];calc I1.laid (λb u q=>Zg _ q) (Zn<|nY _ _) ?_;have ne:s.heap.objs.size≠s.heap.objs.size+1:=Z1<|ZX _;calc#[by rw[Jp ne,Jx],ZF _,ne,m,λ_=>Ze,(Heap.Ns1.of_empty D).at λo q=>Zg _ q,λ_=>fJ,λy E=>absurd rfl E]
theorem Fu(O:qN e f env (a0 e env)=a0 e env) (h:Zw (Zy prog w) A (a0 e env) (λo s₁=>Zw (Zy prog w) A (getAttr o f Zi) Q E s₁) E s):Zw (Zy prog w) A (a0 (.Attribute e f pos) env) Q E s:=Attribute_any_ h (by rw[arm_eval_Attribute,O])
end
section
variable{X:Cx}{L:aQ}{U:St}{H:Hp}{s:Zx}{A:bP}{E Q:aH}{c:Zo}{b:Bool}
inductive eW(K:W.Frag)(H:Hp):bB->Zo->Prop where|ag:eW K H .ag (.type "NoneType")|bl (x:Bool):eW K H (.bl x) (.type "bool")|int (i:Int):eW K H (.int i) (.type "int")|str (x:Str):eW K H (.str x) (.type "str")|rP (x:UInt64):eW K H (.rP x) (.type "float")|lst {a:Z4}{xs:Uc}(e:H a=B (.lst xs)):eW K H (.ref a) (.type "list")|bh {a:Z4}{o:Obj}{xs:Uc}(e:H a=B (.bh o (.lst xs))):eW K H (.ref a) (.type "list")|tup {a:Z4}{xs:Uc}(e:H a=B (.tup xs)):eW K H (.ref a) (.type "tuple")|dK {a:Z4}{kvs:Wt}(e:H a=B (.dK kvs)):eW K H (.ref a) (.type "dict")|dT {a:Z4}{kvs:Wb}(e:H a=B (.dT kvs)):eW K H (.ref a) (.type "dict")|ins {a C dx:Z4}{fs:Wu}(e:H a=B (.ins C dx fs)) (cl:kM K C) (ha:W.findIn K (.ref C) "__class__"=B (B (.builtin "object.__class__"))) (hn:W.specialIn K (.builtin "object.__class__") "__get__"=B (B<|.builtin "getset_descriptor.__get__")) (Fv:W.takesIn K (.builtin "object.__class__")=B Zi) (hm:W.mroIn K C (.type "object")=B Zi):eW K H (.ref a)<|.ref C
end
structure bj(κ:Bool)(k:Nat)(A:bP):Prop where
 hd:κ=Zi->A.handled=Ze
 dp:A.depth+3*k+5<recursionLimit
 un:A.units+16*k+200<ky
theorem bj.mono(r:bj κ k A)(h:j<=k):bj κ j A:=#[r.hd,by have:=r.dp;lia,by have:=r.un;lia]
theorem bj.deeper(r:bj κ (k+1) A)(env):bj κ k (A.deeper env):=#[r.hd,by have:=r.dp;change A.depth+1+3*k+5<_;lia,by have:=r.un;change A.units+3+16*k+200<_;lia]
theorem bj.in1(r:bj κ (k+1) A):bj κ k A.in1:=#[r.hd,by have:=r.dp;change A.depth+3*k+5<_;lia,by have:=r.un;change A.units+1+16*k+200<_;lia]
theorem NY{A:bP}:(A.under<|.builtin "type.__call__" #[.ref C::us,kw]).depth=A.depth+1:=rfl
def NZ{A:bP}:(A.under<|.builtin "type.__call__" #[.ref C::us,kw]).units=A.units+1:=by first|rfl|simp
theorem bj.make(r:bj κ (k+1) A)(C)(us)(kw):bj κ k (A.under<|.builtin "type.__call__" #[.ref C::us,kw]):=#[r.hd,by have:=r.dp;rw[NY];lia,by have:=r.un;rw[NZ];lia]
def bj.depth(r:bj κ k A):A.depth<recursionLimit:=by have:=r.dp;show Zc (Zq _ 5)<|Zc (Zh (Zh (Zq _ _) 1) 5) this
def bj.units(r:bj κ k A):A.units+64<ky:=by have:=r.un;show Zc (Zq _ 136)<|Zc (Zh (Zh (Zq _ _) 65) 136) this
abbrev Sp:=Uc->Hp->VK->XK->Prop
abbrev pP:=Tl->Hp->Zx->XK->aH
structure fN(P:ZU)(w:bq)(K:W.Frag)(mg:Str->Tc)(base:aM)(A:bP)(outer:Tl)(s:Zx)(H:Hp):Prop where
 frames:A.frames=B outer
 mod:Mod K mg base
 bs:∀b o,base.get? b=B o->s.heap.get? b=B o/\H b=Ze
 jB:base.objs.size<=s.heap.objs.size
 da:s.heap.FunFrames base outer
 kI:∀b∈eV outer,H b=Ze
 au:cV P w H s.heap
 bare:lY s.gens
 cw:Ql A H
def CE(outer:Tl)(P:ZU)(w:bq)(H:Hp)(s:Zx)(Q:VK)(u:Zo)(s':Zx):Prop:=∃v H',s'.os=s.os/\lY s'.gens/\Un (eV outer) [] H H' s.heap s'.heap/\cV P w H' s'.heap/\RelV v u/\Q v H'
def CR(CX:pP)(outer:Tl)(P:ZU)(w:bq)(H:Hp)(s:Zx)(Q:VK)(E:XK)(r:qY)(s':Zx):Prop:=match r with|.ok (.ret u)=>CE outer P w H s Q u s'|.ok _=>False|.error e=>CX outer H s E e s'
structure bx(P:ZU)(w:bq)(K:W.Frag)(mg:Str->Tc)(base:aM)(CX:pP)(κ:Bool)(k:Nat)(f:Z4)(fd:gY)(ps:Tk)(sp:Sp):Prop where
 len:∀vs H Q E,sp vs H Q E->vs.length=ps.length
 run:∀(A:bP)(outer:Tl)(s:Zx)(H:Hp)(args:Args)(us:Tv)(vs:Uc)(Q:VK)(E:XK),bj κ k A->fN P w K mg base A outer s H->nK s fd args (ps.zip us)->Vals vs us->sp vs H Q E ->iN (Zy P w) A (.call (.ref f) args) (CR CX outer P w H s Q E) s
theorem bx.mono{K:W.Frag}(F:bx P w K mg base CX κ j f fd ps sp)(h:j<=k):bx P w K mg base CX κ k f fd ps sp:=#[F.len,λA outer s H m D I Q E C=>F.run A outer s H m D I Q E<|C.mono h]
theorem bx.imp{K:W.Frag}(F:bx P w K mg base CX κ k f fd ps sp) (h:∀vs H Q E,sp' vs H Q E->sp vs H Q E):bx P w K mg base CX κ k f fd ps sp':=#[λvs H Q E q=>F.len vs H Q E<|h _ _ _ _ q,λA outer s H j D vs Q E m J O I C=>F.run A outer s H j D vs Q E m J O I<|h _ _ _ _ C]
theorem fN.make{K:W.Frag}(e:fN P w K mg base A outer s H)(C)(us)(kw):fN P w K mg base (A.under<|.builtin "type.__call__" #[.ref C::us,kw]) outer s H:=#[by first|show e.frames|(simpa[Around.under,Code.envs,Code.isFrame,pushEnvs]using e.frames),e.mod,e.bs,e.jB,e.da,e.kI,e.au,e.bare,e.cw]
theorem fN.in1{K:W.Frag}(e:fN P w K mg base A outer s H):fN P w K mg base A.in1 outer s H:=#[e.frames,e.mod,e.bs,e.jB,e.da,e.kI,e.au,e.bare,e.cw]
section
variable{X:Cx}{L:aQ}{U:St}{H:Hp}{s s':Zx}
theorem Inv.pQ(I:Inv X L U H s)(j:Ql X.A H):fN X.prog X.w X.K X.mg X.base X.A X.stack s H:=#[I.ok.frames,I.ok.mod,I.bs,Zc I.ok.jB I.sz,I.stack,I.dB,I.au,I.bare,j]
def Inv.after(I:Inv X L U H s)(h:CE X.stack X.prog X.w H s Q u s'):EP X L U Q u s':=by let#[v,m,os,bare,un,au,r,q]:=h;let#[C,g,d,t,j]:=s';obtain rfl:j=s.os:=os;show#[v,m,I.call un au bare λb z=>absurd z 03,r,q]
end
def JO(K:W.Frag)(fd:gY)(ps:Tk)(ds:Tv):Prop:=∀(s:Zx)(us:Tv),K.In s.heap->(us++ds).length=ps.length->nK s fd #[us,[]] (ps.zip<|us++ds)
theorem JO.all{K:W.Frag}(h:∀us:Tv,us.length=ps.length->qW fd #[us,[]]=pure (ps.zip us)):JO K fd ps []:=λs us _ j=>by rw[mM]at j ⊢;show .of_eq<|h us j
section
variable{X:Cx}{CX:pP}{k:Nat}{f C:Z4}{fd:gY}{ps:Tk}{sp:Sp}{aL:Uc}{ds:Tv}{E:XK}{x m:Str}{p pos apos:Pos}{e o:Expr}{es:Te}{ta:TE}{t:TA}
structure Mk(K:W.Frag)(C f:Z4):Prop where
 makes:W.makesIn K C=Zi
 init:W.findIn K (.ref C) "__init__"=B (B<|.ref f)
 fn:W.isFn K (.ref f)=Zi
 kp:W.keepIn K (.ref C)=Zi
end
section
variable{X:Cx}{CX:pP}{k:Nat}{f C:Z4}{fd:gY}{ps ks:Tk}{sp:Sp}{E:XK}{x m:Str}{p pos apos kpos:Pos}{e o:Expr}{es:Te}{kws:To}{te ta:TE}{t tk:TA}{nm:Wx}
structure z9(K:W.Frag)(fd:gY)(ps ks:Tk)(g:Tv->Tv->Tv)(gV:Uc->Uc->Uc):Prop where
 to:∀(s:Zx)(us ws:Tv),K.In s.heap->(g us ws).length=ps.length->nK s fd #[us,ks.zip ws] (ps.zip<|g us ws)
 rel:∀{vs:Uc}{us:Tv}{zs:Uc}{ws:Tv},Vals vs us->Vals zs ws->Vals (gV vs zs) (g us ws)
variable{g:Tv->Tv->Tv}{gV:Uc->Uc->Uc}
end
structure c8(N P:Tk)(sc:eL):Prop where
 kind:sc.kind=.function
 co:sc.isCoroutine=Zl
 gen:sc.isGenerator=Zl
 nd:N.Nodup
 pre:N.take P.length=P
 par:∀x∈P,sc.names.lookup x=B .local\/sc.names.lookup x=B .cell
 pR:∀y∈sc.names,y.2≠.free
theorem Fw{kindOf:Str->Wy}:∀{binds:Wn}{m:Str->Tc},(∀v,(x,v)∉binds)->bindL kindOf binds m x=m x
 |[],_,_=>rfl
 |(n,v)::r,m,h=>by
  unfold bindL;rw[Fw λw j=>h w<|Zm _ j];split
  .have:x≠n:=by rintro rfl;show h v Z7
   simp[this]
  .rfl
theorem Fx{kindOf:Str->Wy}:∀{binds:Wn}{m:Str->Tc},(∀v,(x,v)∉binds)->bindC kindOf binds m x=m x
 |[],_,_=>rfl
 |(n,v)::r,m,h=>by
  unfold bindC;rw[Fx λw j=>h w<|Zm _ j];split
  .rfl
  .have:x≠n:=by rintro rfl;show h v Z7
   simp[this]
theorem Fy{kindOf:Str->Wy}:∀{P:Tk}{vs:Tv}{i:Nat}{m:Str->Tc},P.Nodup->P[i]?=B x->vs[i]?=B v->kindOf x=B .local ->bindL kindOf (P.zip vs) m x=B v
 |[],_,_,_,_,h,_,_=>by simp at h
 |_::_,[],_,_,_,_,h,_=>by simp at h
 |p::P,w::vs,0,m,nd,h1,J,hk=>by simp at h1 J;subst h1;subst J;change bindL kindOf ((p,w)::P.zip vs) m p=_;unfold bindL;rw[Fw λv j=>(rA.mp nd).1 (yY j).1,if_pos hk];simp
 |p::P,w::vs,i+1,m,nd,h1,J,hk=>by unfold bindL;show Fy (i:=i) (rA.mp nd).2 (by simpa using h1) (by simpa using J) hk
theorem Fz{kindOf:Str->Wy}:∀{P:Tk}{vs:Tv}{i:Nat}{m:Str->Tc},P.Nodup->P[i]?=B x->vs[i]?=B v->kindOf x≠B .local ->bindC kindOf (P.zip vs) m x=B v|[],_,_,_,_,h,_,_=>by simp at h|_::_,[],_,_,_,_,h,_=>by simp at h|p::P,w::vs,0,m,nd,h1,J,hk=>by simp at h1 J;subst h1;subst J;change bindC kindOf ((p,w)::P.zip vs) m p=_;unfold bindC;rw[Fx λv j=>(rA.mp nd).1 (yY j).1,if_neg hk];simp|p::P,w::vs,i+1,m,nd,h1,J,hk=>by unfold bindC;show Fz (i:=i) (rA.mp nd).2 (by simpa using h1) (by simpa using J) hk
noncomputable def start (N:Tk)(vs:Uc):St:=vs.map B++fF (N.length-vs.length) Ze
noncomputable def jd (CX:pP)(P:ZU)(w:bq)(K:W.Frag)(mg:Str->Tc)(base:aM)(N:Tk)(qual:Str)(scope:eL)(f:Z4)(cd:Zo)(A:bP)(outer:Tl)(s:Zx)(H:Hp)(E:XK):Cx where
 prog:=P
 w:=w
 K:=K
 mg:=mg
 base:=base
 A:=A.deeper<|lZ qual scope s.heap.objs.size f cd
 N:=N
 s₀:=s
 H₀:=H
 env:=lZ qual scope s.heap.objs.size f cd
 outer:=outer
 stack:=lZ qual scope s.heap.objs.size f cd::outer
 ex:=[]
 calm:=Zi
 fn:=λ_=>Zi
 pn:=[]
 xe:=λe s'=>Zw (Zy P w) (A.deeper<|lZ qual scope s.heap.objs.size f cd) (leaving (lZ qual scope s.heap.objs.size f cd) e) (λ_ s''=>CX outer H s E e s'') (λe' s''=>CX outer H s E e' s'') s'
def FA{sc:eL}(h:sc.names.lookup x=B .cell):∃c,(cellsFrom n sc.names []).lookup x=B c:=by have q:=W.cellsFrom_some sc.names n []<|.inl h;show qI.mp q
def Oa{K:W.Frag} (S:c8 N ps scope)(j:fN P w K mg base A outer s H)(hl:vs.length=ps.length)(r:Vals vs us) (x:InCallC s s.heap.objs.size (bindL (lZ qual scope s.heap.objs.size f cd).kindOf (ps.zip us) λ_=>Ze) (cellsFrom (s.heap.objs.size+1) scope.names []) (bindC (lZ qual scope s.heap.objs.size f cd).kindOf (ps.zip us) λ_=>Ze) s1):Inv (jd CX P w K mg base N qual scope f cd A outer s H E) [] (start N vs) H s1:=by
 have I:ps.length<=N.length:=by have:=congrArg List.length S.pre;rw[kz]at this;show Zc (Zn this.symm)<|rh _ _
 let#[F,Q,rfl,M]:=x.done;have ij:∀b:Z4,b∉(jd CX P w K mg base N qual scope f cd A outer s H E).ex:=λb z=>absurd (show b∈([]:Tu)from z) 03
 refine#[#[j.mod,S.kind,rfl,rfl,Zk _,λy z c F J=>?_,λy m=>?_,λy c _ h=>?_,λ_=>j.cw,Around.frames_deeper j.frames,.inr #[rfl,rfl],λb z=>absurd z<|ij b,j.bs,j.jB,λb _ _=>ij b,λb z=>absurd z<|ij b,j.da,j.kI],rfl,j.bare,Un.kept M,#[_,x.toInCall.ns,λi y v F J R=>?_],λy c h=>#[_,x.cell y c h],j.au.fresh<|Zk _,λy c h=>?_,λp D=>absurd (show p∈([]:aQ)from D) 03,j.au.kept M,?_]
 .show name_of_addr x.apart (jH F)<|jH J
 .have m:scope.names.lookup y=B .cell\/scope.names.lookup y=B .free:=m;rcases m with m|m
  .show FA m
  .show absurd rfl (S.pR _<|jH m)
 .show ZC<|x.above y c<|jH h
 .have Z:i<vs.length:=by
   unfold start at J;by_cases Z:i<vs.length
   .show Z
   .rw[ZN<|by simpa using Z]at J;rw[uY]at J;split at J<;>cases J
  have ha:vs[i]?=B v:=by unfold start at J;rw[ZE (by simpa using Z),Z5]at J;cases e:vs[i]? with|none=>rw[e]at J;cases J|some a=>rw[e]at J;cases J;rfl
  let#[u,L,O]:=r.get ha;have D:ps[i]?=B y:=by rw[<-S.pre,List.getElem?_take_of_lt<|sI 06 06];show F
  have C:ps.Nodup:=by rw[<-S.pre];show S.nd.sublist<|List.take_sublist _ _
  calc#[u,O,?_];rcases S.par y (u4 D)with k|k
  .show .inl #[k,Fy C D L k]
  .let#[c,e]:=FA (n:=s.heap.objs.size+1) k;calc .inr #[.inl k,c,e,?_];have q:=x.cell y c e;rw[Fz C D L (by change scope.names.lookup y≠_;rw[k];decide)]at q;show q
 .show j.au.fresh<|ZC<|x.above y c<|jH h
 .unfold start;change _=N.length;rw[ZB,Zp,sP];show q7<|Zc (Zn hl) I
def FC{K:W.Frag}{Y kV J pm j ct oc:Zo} (lk:K.lookup f=B #[oc,od,.func<|W.fnOf name qual params body scope Y kV J pm an j ct,osl])(V:W.codeIn K j qual=Zi)(S:c8 N ps scope) (len:∀vs H Q E,sp vs H Q E->vs.length=ps.length) (hbody:∀(A:bP)(outer:Tl)(s:Zx)(H:Hp)(vs:Uc)(Q:VK)(E:XK),bj κ k (A.deeper<|lZ qual scope s.heap.objs.size f j)->sp vs H Q E ->∃t,tm (jd CX P w K mg base N qual scope f j A outer s H E) body t/\t {nx:=λ_ H'=>Q .ag H',rt:=Q} (start N vs) H):bx P w K mg base CX κ (k+1) f (W.fnOf name qual params body scope Y kV J pm an j ct) ps sp:=by
 calc#[len,λA outer s H Z us vs Q E hr F O r L=>?_];have hl:=len _ _ _ _ L;have KX:K.In s.heap:=F.mod.pL.keeps λb o e=>(F.bs b o e).1
 have U:s.heap.NoLimit:=F.mod.nolimit.keeps λb o e=>(F.bs b o e).1
 have C:∀y∈ps.zip us,scope.names.lookup y.1=B .local\/(scope.names.lookup y.1=B .cell/\((cellsFrom (s.heap.objs.size+1) scope.names []).lookup y.1).isSome=Zi):=λ⟨n,v⟩ hy=>by
  rcases S.par n (yY hy).1 with q|q
  .show .inl q
  .show .inr #[q,W.cellsFrom_some _ _ _<|.inl q]
 calc codeAny_call_function hr.depth (KX _ _ lk) rfl S.co S.gen rfl (W.codeRec_of KX V) (O _ _ _ _ ?_);refine wpAny_newFunctionEnv_cells S.kind C λenv he s1 x=>?_
 subst he;calc#[U.keeps x.toInCall.keep,codeAny_func ?_];let#[t,ht,hq]:=hbody A outer s H vs Q E (hr.deeper _) L;have I:Inv (jd CX P w K mg base N qual scope f j A outer s H E) [] (start N vs) H s1:=Oa S F hl r x;refine c6 (ht [] s1 (start N vs) H _ I hq) (λfl R D=>?_) λe R D=>D
 have fin:∀{M:St}{H':Hp}{v:bB}{u:Zo},Inv (jd CX P w K mg base N qual scope f j A outer s H E) [] M H' R->RelV v u->Q v H'->CE outer P w H s Q u R:=λ{M H' v u} m X q=>#[v,H',m.os,m.bare,m.base,m.au,X,q];cases fl with|ret u=>let#[v,M,H',m,X,q]:=D;show fin m X q|next=>let#[M,H',m,q]:=D;show fin (v:=bB.ag) (u:=dA) m rfl q|brk=>let#[_,_,_,q]:=D;show gh q|cont=>let#[_,_,_,q]:=D;show gh q
end L2
namespace HT
open PySem PyProof.Rows
section
variable{prog:ZU}{w:bq}{A:bP}{E:aH}{s:Zx}
def mS(U:IsTup s.heap t vs.toArray)(O:IsTup s.heap b ws.toArray)(P:vs≠[])
  (h1:ws=[]->Q (.ref t) s)(J:ws≠[]->Q (.ref s.heap.objs.size) {s with heap:=s.heap.push {cls:=.type "tuple",data:=.seq (vs++ws).toArray} })
  (hsz:vs.length+ws.length<=sizeLine):Zw (Zy prog w) A (fE .Add (.ref t)<|.ref b) Q E s:=by
 let#[#[cls,M,data,R],D,V,n,hd]:=id U;let#[#[S,C,I,m],j,H,n2,L]:=id O;subst V hd H L;have e:vs.toArray++ws.toArray=(vs++ws).toArray:=03;by_cases F:ws=[]
 .show concat_meets #[_,D,rfl] #[_,j,rfl] noFill_tuple_add seq_tuple_add EY EW (EV _ _)
   (tuple_addW1 t b vs.toArray ws.toArray n n2 M C R m (by simpa using P)<|by simp[F]) #[D,j,h1 F]
 .refine concat_meets #[_,D,rfl] #[_,j,rfl] noFill_tuple_add seq_tuple_add EY EW (EV _ _)
   (tuple_addW2 t b vs.toArray ws.toArray n n2 M C R m (by simpa using P) (by simpa using F)<|by simp_all) #[D,j,?_]
  rw[e];show J F
noncomputable def bV (n d:Nat):Wz->Nat|none=>d|some v=>if v<0 then(v+(n:Int)).toNat else min v.toNat n
theorem kN(n d):bV n d Ze=d:=rfl
theorem eO(n d k:Nat):bV n d (B (k:Int))=min k n:=rfl
def pS(n d)(hd:d<=n)(o):bV n d o<=n:=by
 cases o with|none=>show hd|some v=>
  change(if v<0 then(v+(n:Int)).toNat else min v.toNat n)<=n;by_cases j:v<0
  .rw[if_pos j];lia
  .rw[if_neg j];show rh _ _
def FD(v)(n d:Nat):(if v<0 then max (v+(n:Int)) 0 else min v (n:Int))=((bV n d (B v):Nat):Int):=by
 change(if v<0 then max (v+(n:Int)) 0 else min v (n:Int))=(((if v<0 then(v+(n:Int)).toNat else min v.toNat n):Nat):Int);by_cases j:v<0
 .simp only[if_pos j];lia
 .simp only[if_neg j];lia
def Oc(lo Z)(n:Nat):zw lo Z 1 (n:Int)=(((bV n 0 lo:Nat):Int),((bV n n Z:Nat):Int)):=by
 have j:¬((1:Int)<0):=01;unfold zw;simp![j,if_false];refine Prod.ext ?_ ?_
 .cases lo with|none=>rfl|some v=>show FD v n 0
 .cases Z with|none=>rfl|some v=>show FD v n n
def Od(i j:Nat):vC (i:Int) (j:Int) 1=j-i:=by unfold vC;have m:(1:Int)>0:=ZJ _;simp![m,if_true,Int.ediv_one];split<;>lia
def FE(p:kg v o)(h:Q o s):Zw (Zy prog w) A (Builtin.Slice.slicePartIndex v) Q E s:=by cases p with|none=>show slicePart_none h|int i t=>show slicePart_int h
def dM{lo Z:Wz}{n:Nat}(hs:s.heap.IsSliceOf sl vl vu .none)(pl:kg vl lo)(D:kg vu Z) (h:Q (((bV n 0 lo:Nat):Int),1,bV n n Z-bV n 0 lo) s):Zw (Zy prog w) A (E2 (.ref sl)<|pure (n:Int)) Q E s:=by let#[os,m,C,j]:=id hs;unfold E2 Builtin.Slice.sliceFields;calc Zb<|Zb<|fw m j (x:=vl) rfl (Zb<|fw m j (x:=vu) rfl (Zb<|fw m j (x:=.none) rfl (Zj ?_)));calc Zb<|slicePart_none ?_;change Zw _ _ (if ((1:Int)==0)=Zi then _ else _) _ _ s;rw[if_neg 01];calc Zb<|FE pl<|Zb<|FE D<|Zb<|Zj ?_;change Zw _ _ (match zw lo Z 1 (n:Int)with|(lo,Z)=>pure (lo,(1:Int),vC lo Z 1)) _ _ s;rw[Oc lo Z n];change Zw _ _ (pure (((bV n 0 lo:Nat):Int),(1:Int),vC ((bV n 0 lo:Nat):Int) ((bV n n Z:Nat):Int) 1)) _ _ s;rw[Od];show Zj h
def kO(xs:Ti)(i k:Nat):((ZK k).filterMap λ(m:Nat)=>xs[((i:Int)+(m:Int)*1).toNat]?).toArray=((xs.toList.drop i).take k).toArray:=by
 have e:(λ(m:Nat)=>xs[((i:Int)+(m:Int)*1).toNat]?)=λm=>xs[i+m]?:=by funext m;have:((i:Int)+(m:Int)*1).toNat=i+m:=(nP _ _ _).symm;rw[this]
 rw[e];have:=pick_run xs i k;rw[List.filterMap_map]at this;have j:((λx=>xs[x]?)∘λx=>i+x)=λm=>xs[i+m]?:=rfl
 rw[j]at this;rw[this]
end
end HT
namespace L2
open PySem PySem.Spec PyProof.Rows
abbrev TO:=St->Hp->(Wz->Hp->Prop)->Prop
section
variable{X:Cx}{e:Expr}{te:TE}{lo Z:Wv}{tl th:TO}{pos p2:Pos}
def rV(X:Cx)(r:bB->Wz->Wz->Hp->VK->Prop):Prop:=∀(L:aQ)(s:Zx)(U:St)(H:Hp)(x:bB)(v vl vu:Zo)(lo Z:Wz)(sl:Z4)(Q:VK),Inv X L U H s->RelV x v->s.heap.IsSliceOf sl vl vu .none->kg vl lo->kg vu Z->r x lo Z H Q ->∃T id,uP (.type T) "__getitem__"=pure (B<|.builtin id)/\s.TypeIs v T/\Zw (Zy X.prog X.w) X.A (lN v<|.ref sl) (EP X L U Q) X.xe s
def rV.or(h:rV X r)(h':rV X r'):rV X (λx lo Z H Q=>r x lo Z H Q\/r' x lo Z H Q):=by
 intro L s U H x v m E lo Z D Q I F C pl j q;rcases q with q|q
 .show h L s U H x v m E lo Z D Q I F C pl j q
 .show h' L s U H x v m E lo Z D Q I F C pl j q
def jO(xs:Uc)(lo Z:Wz):Uc:=(xs.drop<|HT.bV xs.length 0 lo).take<|HT.bV xs.length xs.length Z-HT.bV xs.length 0 lo
def FF(xs)(lo Z):(jO xs lo Z).length<=xs.length:=by unfold jO;rw[kz,rq];show Zc (rh _ _)<|nQ _ _
def Oe(K:W.Frag):R2:=λx y H Q=>∃a b xs ys,x=.ref a/\y=.ref b/\d4 K H a xs/\d4 K H b ys/\xs≠[]/\xs.length+ys.length<=sizeLine /\ (ys=[]->Q (.ref a) H)/\(ys≠[]->∀p,H p=Ze->Q (.ref p) (upd H p<|.tup<|xs++ys))
def Vals.gk(r:Vals xs us):us=[]↔xs=[]:=by cases r with|nil=>simp|cons _ _=>simp
def Of:d6 X (fE .Add) (Oe X.K):=by
 intro L s U H x y v u Q I R P h;let#[a,b,xs,V,rfl,rfl,ha,O,F,D,q1,J]:=h;cases R;cases P;let#[M,m,p1,_]:=I.tuple ha;let#[C,j,E,_]:=I.tuple O;refine HT.mS p1 E (λz=>F<|m.gk.mp z) (λz=>#[.ref a,H,I,rfl,q1<|j.gk.mp z]) (λz=>?_)<|by rw[<-m.length,<-j.length];show D
 calc#[.ref s.heap.objs.size,_,I.laid (λb S q=>Zg _ q) (Zk _) ?_,rfl,J (λw=>z<|j.gk.mpr w) _<|I.au.fresh<|Zk _];show#[by rw[ZB];show D,_,m.append j,IsTup.new _ _]
end
noncomputable def jP (n:Nat)(i:Int):Ta:=if 0<=i then(if i<n then B i.toNat else Ze)else if -(n:Int)<=i then B (i+n).toNat else Ze
noncomputable def bW {α:Type}(xs:List α)(i:Int):Option α:=(jP xs.length i).bind λj=>xs[j]?
def FG(h:jP n i=B j):seqIndex? i n=B j/\j<n/\ -(n:Int)<=i/\i<n:=by
 unfold jP at h;by_cases C:0<=i
 .rw[if_pos C]at h;by_cases m:i<n
  .rw[if_pos m]at h;have e:=i6 h;show#[by rw[uK C m,e],05,05,m]
  .lia
 .rw[if_neg C]at h;by_cases m: -(n:Int)<=i
  .rw[if_pos m]at h;have e:=i6 h;show#[by rw[yJ (kE.mp C) m,e],05,m,jy (kE.mp C)<|og _]
  .lia
def vT(h:bW xs i=B v):∃j,seqIndex? i xs.length=B j/\xs[j]?=B v/\j<xs.length/\ -(xs.length:Int)<=i/\i<xs.length:=by unfold bW at h;cases e:jP xs.length i with|none=>rw[e]at h;cases h|some j=>rw[e]at h;let#[C,J,m,D]:=FG e;show#[j,C,h,J,m,D]
def FH(b:Expr):Prop:=∀o i,uL b Zl o i=operate [o,i] (lN o i)
def oA(X:Cx)(r:R2):Prop:=∀(value slice:Expr)(L:aQ)(s:Zx)(U:St)(H:Hp)(x y:bB)(v u:Zo)(Q:VK),Inv X L U H s->RelV x v->RelV y u->r x y H Q ->uL slice Zl v u=operate [v,u] (lN v u)->Zw (Zy X.prog X.w) X.A (vt value slice v u) (EP X L U Q) X.xe s
def vU(X:Cx)(id:String)(r:bB->Uc->Hp->VK->Prop):Prop:=∀(L:aQ)(s:Zx)(U:St)(H:Hp)(x:bB)(xs:Uc)(v:Zo)(us:Tv)(Q:VK),Inv X L U H s->RelV x v->Vals xs us->r x xs H Q ->Zw (Zy X.prog X.w) X.A (call (.builtin id)<|v::us) (EP X L U Q) X.xe s
section
variable{X:Cx}{a b:Expr}{ta tb:TE}{pos:Pos}
def oA.or(h:oA X r)(h':oA X r'):oA X (λx y H Q=>r x y H Q\/r' x y H Q):=by
 intro m j L s U H x y v u Q I E D q C;rcases q with q|q
 .show h m j L s U H x y v u Q I E D q C
 .show h' m j L s U H x y v u Q I E D q C
def vU.or{id:String}(h:vU X id r)(h':vU X id r'):vU X id (λx xs H Q=>r x xs H Q\/r' x xs H Q):=by
 intro L s U H x xs v j Q I m C q;rcases q with q|q
 .show h L s U H x xs v j Q I m C q
 .show h' L s U H x xs v j Q I m C q
def Aa(K:W.Frag):R2:=λx y H Q=>∃p xs i v,x=.ref p/\y=.int i/\bU K H p xs/\bW xs i=B v/\Q v H
def Ab(K:W.Frag):R2:=λx y H Q=>∃p xs i v,x=.ref p/\y=.int i/\d4 K H p xs/\bW xs i=B v/\Q v H
def Ac:R2:=λx y H Q=>∃z i c,x=.str z/\y=.int i/\z.length<=sizeLine/\bW z.cps.toList i=B c/\Q (.str ⟨#[c]⟩) H
def FI:oA X (Aa X.K):=by
 intro F E L s U H x y v u Q I rx Y h O;let#[p,xs,i,z,rfl,rfl,R,W,q]:=h;cases rx;let#[t,rfl]:=Y;let#[M,r,pl,hz]:=I.list R;let#[j,C,J,h3,S,Z]:=vT W;let#[w,ew,D]:=r.get J;have V:=r.length;have hn:=Xe;have fin:EP X L U Q w s:=#[z,H,I,D,q];by_cases m:0<=i
 .have P:i.toNat=j:=by rw[uK m Z]at C;show i6 C
  show item_listR pl.isList m 05 (by simp_all) fin O
 .have P:(i+(M.toArray.size:Int)).toNat=j:=by rw[yJ (kE.mp m) S]at C;rw[ZI,<-V];show i6 C
  show zp pl.isList.typeIs slot_list_getitem.lookup
   (wpAny_getItem_list_neg pl.isList (kE.mp m) (by simp_all) 05 (by simp_all) #[rfl,fin]) O
def Og:oA X (Ab X.K):=by intro D C L s U H x y v u Q I S R h F;let#[p,xs,i,z,rfl,rfl,E,O,q]:=h;cases S;let#[t,rfl]:=R;let#[P,r,pl,V]:=I.tuple E;let#[j,h1,J,Z,W,h5]:=vT O;let#[w,M,m]:=r.get J;have Y:=r.length;have hn:=Xe;have fin:EP X L U Q w s:=#[z,H,I,m,q];show zp (x:=w) pl.typeIs slot_tuple_getitem.lookup (getItem_tuple (j:=j) pl 05 05 (by simp_all) (by simpa using M) #[rfl,fin]) F
def Oh:oA X Ac:=by
 intro C m L s U H x y v u Q I V R h D;let#[z,i,c,rfl,rfl,Y,P,q]:=h;let#[t,rfl]:=V;let#[t',rfl]:=R;let#[j,O,J,Z,F,S]:=vT P;have M:z.cps.toList.length=z.length:=by simp[vk]
 rw[M]at O F S;have hn:=Xe;show tail_any (typeIs_str s z t) slot_str_getitem.lookup (getItem_str (by have W:decide (i< -(2^63:Int))=Zl:=decide_eq_false 05;have E:decide (i ≥ 2^63)=Zl:=decide_eq_false 05;rw[W,E,Bool.or_false]) (by simp_all) #[.str ⟨#[c]⟩,H,I.tok _,#[_,rfl],q]) D
def Oi(its:Tv)(n j)(u):dq (·.setIfInBounds j u) {cls:=.type "list",data:=.seq its.toArray n}={cls:=.type "list",data:=.seq (its.set j u).toArray n}:=by simp[dq]
def Inv.lst(I:Inv X L U H s)(h:H p=B (.lst xs)):∃(its:Tv) (n:Nat),Vals xs its/\s.heap.get? p=B {cls:=.type "list",data:=.seq its.toArray n}/\xs.length<=sizeLine:=by let#[z,its,n,r,e]:=I.au p _ h;show#[its,n,r,e,z]
def Inv.pT{its j:Tv}(I:Inv X L U H s)(h:H p=B (.lst xs)) (ho:s.heap.get? p=B {cls:=.type "list",data:=.seq its.toArray n})(m:f {cls:=.type "list",data:=.seq its.toArray n}={cls:=.type "list",data:=.seq j.toArray n'})(r:Vals ys j)(C:ys.length<=sizeLine)(t):Inv X L U (upd H p<|.lst ys) {s with heap:=s.heap.update p f,toks:=t}:=by
 have e:(s.heap.update p f).get? p=B {cls:=.type "list",data:=.seq j.toArray n'}:=by rw[i5 f ho (by rw[m]<;>rfl),m]
 calc I.write (by rw[h];trivial) (.inl rfl) (λb u O q=>(Z3 _ _<|ZP O).trans q) #[_,e] ?_;show#[C,j,n',r,e]
def Oj:bB->bB->bB->Hp->(Hp->Prop)->Prop:=λo i v H Q=>∃p xs k j,o=.ref p/\i=.int k/\H p=B (.lst xs)/\jP xs.length k=B j/\Q (upd H p<|.lst<|xs.set j v)
def Ol:zT X Oj:=by
 intro L s U H o i v ov iv u Q I R ri S h;let#[p,xs,k,j,rfl,rfl,M,P,q]:=h;cases R;let#[t,rfl]:=ri;let#[m,n,r,E,hz]:=I.lst M;let#[D,J,Z,V]:=FG P;have Y:=r.length;have hn:=Xe;have O:Inv X L U (upd H p<|.lst<|xs.set j v) {s with heap:=s.heap.update p (dq (·.setIfInBounds j u))}:=
  I.pT M E (Oi m n j u) (r.set S j) (by simp_all) s.toks
 by_cases C:0<=k
 .have F:k.toNat=j:=by rw[uK C V]at D;show i6 D
  show W.ki_setAt E C 05 (by simp_all)<|by rw[F];show#[_,O,q]
 .have F:(k+(m.toArray.size:Int)).toNat=j:=by rw[yJ (kE.mp C) Z]at D;rw[ZI,<-Y];show i6 D
  show W.ki_setBack E (kE.mp C) (by simp_all) 05<|by rw[F];show#[_,O,q]
def Om(lo Z)(n):(mF lo Z Ze n).1=((HT.bV n 0 lo:Nat):Int)/\(mF lo Z Ze n).2.1=((HT.bV n n Z:Nat):Int)/\(mF lo Z Ze n).2.2=1:=by
 refine#[?_,?_,rfl]
 .cases lo with|none=>simp[mF,HT.bV]|some i=>simp![mF,HT.bV,Option.getD_none];show(if_pos 01).trans<|Fb n i
 .cases Z with|none=>simp[mF,HT.bV]|some i=>simp![mF,HT.bV,Option.getD_none];show(if_pos 01).trans<|Fb n i
def Oo(its:Tv)(lo Z):uR its.toArray lo Z Ze=((its.drop<|HT.bV its.length 0 lo).take<|HT.bV its.length its.length Z-HT.bV its.length 0 lo).toArray:=by let#[j,J,m]:=Om lo Z its.toArray.size;unfold uR;rw[j,J,m];simp![sliceRange_one,pick_run]<;>rfl
def Ad(K:W.Frag):bB->Wz->Wz->Hp->VK->Prop:=λx lo Z H Q=>∃a xs,x=.ref a/\bU K H a xs/\∀p,H p=Ze->Q (.ref p) (upd H p<|.lst<|jO xs lo Z)
def FJ:rV X (Ad X.K):=by
 intro L s U H x v P V m Z S Q I M F pl D h;let#[a,xs,rfl,O,q]:=h;cases M;let#[J,r,C,E]:=I.list O;have j:=r.length;calc#["list",_,slot_list_getitem.lookup,C.isList.typeIs,?_];refine Ez C.isList F pl D .none 03 ?_<|by simp_all
 rw[Oo,<-j];calc#[.ref s.heap.objs.size,_,I.laid (λb R q=>Zg _ q) (Zk _) ?_,rfl,q _<|I.au.fresh<|Zk _];show#[Zc (FF xs m Z) E,_,0,(r.drop<|HT.bV xs.length 0 m).take<|HT.bV xs.length xs.length Z-HT.bV xs.length 0 m,Zt _ rfl]
def Vd.or(h:Vd X f r)(h':Vd X f r'):Vd X f (λxs H Q=>r xs H Q\/r' xs H Q):=by
 intro L s U H xs j Q I m q;rcases q with q|q
 .show h L s U H xs j Q I m q
 .show h' L s U H xs j Q I m q
def Ae:Vd X (.type "list") (λxs H Q=>∃p ys,xs=[.ref p]/\(bU X.K H p ys\/d4 X.K H p ys)/\∀l,H l=Ze->Q (.ref l) (upd H l<|.lst ys)):=by
 intro L s U H xs S Q I r h;let#[p,ys,rfl,J,q]:=h;let#[u,rfl,R]:=Qz r;cases R;have fin:∀(j:Tv),Vals ys j->ys.length<=sizeLine->∀(C:aM)(F:Nat),(∀b P,s.heap.get? b=B P->C.get? b=B P) ->C.get? s.heap.objs.size=B {cls:=.type "list",dict:=Ze,data:=.seq j.toArray F,slots:=#[]}->EP X L U Q (.ref s.heap.objs.size) {s with heap:=C}:=λj D E C F kp e=>
  #[.ref s.heap.objs.size,_,I.laid kp (Zk _) (show JT X.prog X.w _ C _ (.lst ys)from#[E,j,F,D,e]),rfl,q _<|I.au.fresh<|Zk _]
 rcases J with J|J
 .let#[j,D,pl,E]:=I.list J;have m:=D.length;let#[o,M,O,n,hd]:=pl.isList;show call_list_seq p (.inl rfl) M O hd (λC F kp e=>fin j D E C F kp e)<|by simp<;>show Zc (Zn m.symm) E
 .let#[j,D,pl,E]:=I.tuple J;have m:=D.length;let#[o,M,O,n,hd]:=pl;show call_list_seq p (.inr rfl) M O hd (λC F kp e=>fin j D E C F kp e)<|by simp<;>show Zc (Zn m.symm) E
def FK:Vd X (.type "tuple") (λxs H Q=>∃p ys,xs=[.ref p]/\((bU X.K H p ys/\∀l,H l=Ze->Q (.ref l) (upd H l<|.tup ys))\/(d4 X.K H p ys/\Q (.ref p) H))):=by
 intro L s U H xs O Q I r h;let#[p,ys,rfl,h]:=h;let#[u,rfl,M]:=Qz r;cases M;rcases h with⟨E,q⟩|⟨E,q⟩
 .let#[j,C,pl,D]:=I.list E;have m:=C.length;refine call_tuple_list pl.isList (λF kp=>?_)<|by simp<;>show Zc (Zn m.symm) D
  have I1:=I.kept (t':=s.toks) kp;have J:Inv X L U (upd H F.objs.size<|.tup ys) {s with heap:=F.push {cls:=.type "tuple",data:=.seq j.toArray} }:=
   I1.laid (λb o e=>Zg _ e) (Zk _) (#[D,j,C,IsTup.new _ _])
  show#[.ref F.objs.size,_,J,rfl,q _<|I1.au.fresh<|Zk _]
 .let#[j,C,pl,D]:=I.tuple E;show call_tuple_same pl #[.ref p,H,I,rfl,q]
def FL(K:W.Frag)(T:String)(x:bB)(H:Hp):Prop:=match x with
 |.str _=>T="str"
 |.int _=>T="int"
 |.ref p=>(T="list"/\∃xs,bU K H p xs)\/(T="tuple"/\∃o,K.lookup p=B o/\o.cls=.type "tuple"/\o.dict=Ze) \/
   (T="dict"/\((∃kvs,H p=B (.dK kvs))\/∃kvs,H p=B (.dT kvs)))\/(T="set"/\∃S n,H p=B (.set S n))
 |_=>False
def FN(I:Inv X L U H s)(r:RelV x v)(ty:FL X.K T x H):s.TypeIs v T/\∀a,v=.ref a->∃D,s.heap.get? a=B D/\D.dict=Ze:=by
 cases x with
 |str z=>let#[t,rfl]:=r;cases (ty);show#[typeIs_str s z t,λ_ e=>nomatch e]
 |int i=>let#[t,rfl]:=r;cases (ty);show#[typeIs_int s i t,λ_ e=>nomatch e]
 |ref p=>
  cases r;rcases ty with⟨rfl,xs,E⟩|⟨rfl,o,j,hc,hd⟩|⟨rfl,j⟩|⟨rfl,S,n,j⟩
  .let#[F,_,pl,_]:=I.list E;calc#[pl.isList.typeIs,λa e=>?_];cases e;let#[o,n,e,c,hd,_]:=pl;show#[o,e,hd]
  .calc#[#[o,I.cF p o j,hc],λa e=>?_];cases e;show#[o,I.cF _ o j,hd]
  .have z:∃o,s.heap.get? p=B o/\o.ExactDict:=by
    rcases j with⟨C,j⟩|⟨C,j⟩
    .let#[_,_,_,_,o,_,_,e,ex,_]:=I.au p _ j;show#[o,e,ex]
    .let#[_,_,_,_,o,_,_,e,ex,_]:=I.au p _ j;show#[o,e,ex]
   let#[o,e,ex]:=z;calc#[#[o,e,ex.1],λa m=>?_];cases m;show#[o,e,ex.2.1]
  .let#[o,_,_,_,e,ex,_]:=I.au p _ j;calc#[#[o,e,ex.1],λa m=>?_];cases m;show#[o,e,ex.2.1]
 |_=>show gh ty
variable{o e:Expr}{es:Te}{to:TE}{t:TA}{name:Str}{apos cpos:Pos}{T id:String}{r:bB->Uc->Hp->VK->Prop}
end
def vV(X:Cx)(id:String)(r:bB->Uc->Hp->VK->Prop):Prop:=∀(L:aQ)(s:Zx)(U:St)(H:Hp)(x:bB)(xs:Uc)(v:Zo)(us:Tv)(Q:VK),Inv X L U H s->RelV x v->Vals xs us->r x xs H Q ->Zw (Zy X.prog X.w) X.A (call (.builtin id)<|v::us) (EP X L U Q) X.xe s
def Vals.one{x:bB}{us:Tv}(h:Vals [x] us):∃u,us=[u]/\RelV x u:=by cases h with|cons r e=>cases e;show#[_,rfl,r]
def Vals.two(h:Vals [x,y] us):∃u v,us=[u,v]/\RelV x u/\RelV y v:=by
 cases h with|cons r e=>cases e with|cons q e=>cases e;show#[_,_,rfl,r,q]
theorem Vals.zero:∀{us:Tv},Vals [] us->us=[]|_,.nil=>rfl
def Vals.dropLast(h:Vals xs us):Vals xs.dropLast us.dropLast:=by
 induction h with|nil=>show .nil|cons r t j=>cases t with|nil=>show .nil|cons q m=>show .cons r j
theorem Vals.eraseIdx:∀{xs:Uc}{us:Tv}(i:Nat),Vals xs us->Vals (xs.eraseIdx i) (us.eraseIdx i)|_,_,_,.nil=>.nil|_,_,0,.cons _ t=>t|_,_,i+1,.cons r t=>.cons r<|Vals.eraseIdx i t
def Vals.reverse(h:Vals xs us):Vals xs.reverse us.reverse:=by induction h with|nil=>show .nil|cons r t j=>rw[pe,pe];show Vals.append j<|.cons r .nil
theorem Vals.rep(h:Vals xs us):∀k:Nat,Vals (fF k xs).flatten (fF k us).flatten|0=>.nil|k+1=>by show Vals.append h<|Vals.rep h k
theorem FO:∀(l:List α)(i:Nat),(l.eraseIdx i).length<=l.length|[],_=>Zk _|_::_,0=>hb _|_::r,i+1=>uW<|FO r i
theorem FP(its):∀(k:Nat)(acc:Tv),List.foldl (λx1 x2=>x1++x2) acc.toArray (fF k its.toArray)=(acc++(fF k its).flatten).toArray
 |0,acc=>03
 |k+1,acc=>by
  have e:acc.toArray++its.toArray=(acc++its).toArray:=03;have j:(acc++its)++(fF k its).flatten=acc++(fF (k+1) its).flatten:=by rw[List.replicate_succ,List.flatten_cons,hX]
  rw[<-j,<-FP its k (acc++its),<-e,List.replicate_succ,List.foldl_cons]
section
variable{X:Cx}{L:aQ}{U:St}{H:Hp}{s:Zx}{l b:Z4}{xs ys zs:Uc}
def Inv.mT{its j:Tv}(I:Inv X L U H s)(m:H l=B (.lst xs)) (e:s.heap.get? l=B {cls:=.type "list",data:=.seq its.toArray n})(F:f its.toArray=j.toArray)(E:Vals ys j)(C:ys.length<=sizeLine):Inv X L U (upd H l<|.lst ys) {s with heap:=s.heap.update l<|dq f,toks:=t'}:=by have q:=PySem.IsL.update e f;rw[F]at q;calc I.write (by rw[m];show trivial) (.inl rfl) (λJ u O D=>(Z3 s.heap (dq f)<|ZP O).trans D) #[_,q] ?_;show#[C,j,_,E,q]
theorem Inv.tD(I:Inv X L U H s)(m:Vals ys its)(j:ys.length<=sizeLine):Inv X L U (upd H s.heap.objs.size<|.lst ys) {s with heap:=s.heap.push {cls:=.type "list",data:=.seq its.toArray},toks:=t'}:=I.laid (λ_ _ q=>Zg _ q) (Zk _) #[j,its,0,m,Zt _ rfl]
theorem Inv.fresh(I:Inv X L U H s):H s.heap.objs.size=Ze:=I.au.fresh<|Zk _
def Inv.gp(I:Inv X L U H s)(j:H l=B (.lst xs)):xs.length<=sizeLine/\∃(its:Tv) (n:Nat),Vals xs its/\xs.length=its.length/\s.heap.get? l=B {cls:=.type "list",data:=.seq its.toArray n}:=by let#[z,its,n,r,e]:=I.au l _ j;show#[z,its,n,r,r.length,e]
def FQ(h:n<=sizeLine):zy n=Zl:=by show decide_eq_false<|yM 06
end
section
variable{X:Cx}
def Oq:bB->Uc->Hp->VK->Prop:=λx vs H Q=>∃l xs y,x=.ref l/\vs=[y]/\H l=B (.lst xs)/\xs.length<sizeLine/\Q .ag (upd H l<|.lst<|xs++[y])
def FR:vV X "list.append" Oq:=by intro L s U H x P v M Q I E D h;let#[l,xs,y,rfl,rfl,m,C,q]:=h;cases E;let#[u,rfl,J]:=D.one;let#[z,j,n,r,O,e]:=I.gp m;calc qR F.slot_list_append #[_,e,rfl] F.entry_list_append (F.args_list_append_2 _ _) (PySem.list_append l j.toArray n u<|by simp_all) #[e,?_];calc#[.ag,_,I.mT m e 03 (r.append<|.cons J .nil) ?_,rfl,q];rw[ZB,pd];show C
def Ot:bB->Uc->Hp->VK->Prop:=λx vs H Q=>∃l b xs zs,x=.ref l/\vs=[.ref b]/\H l=B (.lst xs)/\H b=B (.lst zs)/\xs.length+zs.length<=sizeLine/\Q .ag (upd H l<|.lst<|xs++zs)
def Ou:vV X "list.extend" Ot:=by
 intro L s U H x vs v Y Q I V P h;let#[l,b,xs,zs,rfl,rfl,E,R,O,q]:=h;cases V;let#[u,rfl,W]:=P.one;cases W;let#[z,m,n,r,hl,e]:=I.gp E;let#[Z,j,n2,J,S,M]:=I.gp R;have D:m.toArray.size+j.toArray.size<=sizeLine:=by rw[ZI,ZI];lia
 have C:¬(!m.toArray.isEmpty&&zy (m.toArray.size+j.toArray.size))=Zi:=by rw[FQ D,Bool.and_false];show Zz
 calc qR F.slot_list_extend #[_,e,rfl] F.entry_list_extend (F.args_list_extend_2 _ _) (AutoSeq1.list_extend_list_list_0 l m.toArray n b j.toArray n2 C (by rw[ZI];show Zc (Zq _ _) 06)<|rg 06) #[e,M,?_];calc#[.ag,_,I.mT E e 03 (r.append J) ?_,rfl,q];rw[ZB];show O
def Af:bB->Uc->Hp->VK->Prop:=λx vs H Q=>∃l xs y,x=.ref l/\vs=[]/\H l=B (.lst xs)/\xs[xs.length-1]?=B y/\Q y (upd H l<|.lst xs.dropLast)
def Ov:vV X "list.pop" Af:=by
 intro L s U H x V v S Q I M E h;let#[l,xs,y,rfl,rfl,D,P,q]:=h;cases M;have m:=E.zero;subst m;let#[z,j,n,r,J,e]:=I.gp D;let#[u,O,R]:=r.get P;have C:j.toArray[j.toArray.size-1]?=B u:=by change j.toArray[j.length-1]?=B u;rw[<-vq,<-J];show O
 calc qR F.slot_list_pop #[_,e,rfl] F.entry_list_pop (F.args_list_pop_1 _) (MeetsSeq.list_pop_last l j.toArray n u C<|by simp_all) #[e,?_];refine#[y,_,I.mT D e ?_ r.dropLast ?_,R,q]
 .simp
 .rw[List.length_dropLast];show Zc (nQ _ _) z
def Ag:R2:=λx y H Q=>∃l b xs zs,x=.ref l/\y=.ref b/\H l=B (.lst xs)/\H b=B (.lst zs)/\xs.length+zs.length<=sizeLine/\∀p,H p=Ze->Q (.ref p) (upd H p<|.lst<|xs++zs)
def Ow:d6 X (fE .Add) Ag:=by
 intro L s U H x y v u Q I O F h;let#[l,b,xs,zs,rfl,rfl,J,E,R,q]:=h;cases O;cases F;let#[z,m,n,r,S,e]:=I.gp J;let#[P,j,n2,C,M,D]:=I.gp E;refine PySem.P.add_list e D ?_<|by simp_all
 have ea:m.toArray++j.toArray=(m++j).toArray:=03;rw[ea];show#[.ref _,_,I.tD (r.append C) (by simp_all),rfl,q _ I.fresh]
def Ah:R2:=λx y H Q=>∃l k xs,x=.ref l/\y=.int k/\H l=B (.lst xs)/\ -(2^63)<=k/\k<2^63/\xs.length*k.toNat<=sizeLine /\ ∀p,H p=Ze->Q (.ref p) (upd H p<|.lst (fF k.toNat xs).flatten)
theorem Ox(xs:List α)(k):(fF k xs).flatten.length=k*xs.length:=03
def Oy:d6 X (fE .Mult) Ah:=by
 intro L s U H x y v u Q I rx Y h;let#[l,k,xs,rfl,rfl,Z,W,J,S,q]:=h;cases rx;let#[t,rfl]:=Y;let#[z,j,n,r,hl,e]:=I.gp Z;have M:j.toArray.size*k.toNat<=sizeLine:=by simp_all
 have O:¬j.toArray.size*k.toNat>(2^63-1)/8:=by have:(sizeLine:Nat)<=(2^63-1)/8:=01;lia
 have E:¬(!Builtin.List.listFitsIndex k)=Zi:=by rw[fitsIndex_both W J];show Zz
 have C:¬zy (j.toArray.size*k.toNat)=Zi:=by rw[FQ M];show Zz
 have D:List.foldl (λx1 R=>x1++R) #[] (fF (if j.toArray.isEmpty=Zi then 0 else k.toNat) j.toArray)=(fF k.toNat j).flatten.toArray:=by
  have V:=λm=>by have:=FP j m [];rw[jM]at this;show this
  rw[V];cases j with|nil=>simp|cons a r'=>rw[if_neg 03]
 calc wpAny_binaryOp_repeat_ref 01 #[_,e,rfl] (λP=>typeIs_int P k t) noFill_list_mul F.fills_int_mul F.slot_int_rmul repeat_list F.slot_int_index.lookup (qR F.slot_int_rmul (typeIs_int s k t) F.entry_int_rmul (F.args_int_rmul_2 _ _) (int___rmul___int_list k t l j.toArray n) #[e,rfl,#[_,e,rfl],qR F.slot_list_mul #[_,e,rfl] F.entry_list_mul (F.args_list_mul_2 _ _) (AutoListH.list___mul___list_int_3 l j.toArray n k t E O C) #[e,?_]]);rw[D];show#[.ref _,_,I.tD (r.rep k.toNat) (by rw[Ox,Nat.mul_comm];show S),rfl,q _ I.fresh]
end
section
variable{κ:Type}[DecidableEq κ]
noncomputable def cW (kvs:List<|κ×bB)(k:κ):Tj:=(kvs.find? λkv=>decide (kv.1=k)).map (·.2)
noncomputable def putK (kvs:List<|κ×bB)(k:κ)(v:bB):List (κ×bB):=if (kvs.any λkv=>decide (kv.1=k))=Zi then kvs.map (λkv=>if kv.1=k then(kv.1,v)else kv)else kvs++[(k,v)]
def FT(kvs:List<|κ×bB)(k:κ):List (κ×bB):=kvs.filter λkv=>decide (kv.1≠k)
def vW{k:κ}(e:p.1=k):cW (p::r) k=B p.2:=by simp[cW,e]
def vX{k:κ}(e:¬p.1=k):cW (p::r) k=cW r k:=by simp[cW,e]
theorem Ai(k):∀kvs:List<|κ×bB,(kvs.any λj=>decide (j.1=k))=(cW kvs k).isSome
 |[]=>rfl
 |p::r=>by
  rw[pv];by_cases e:p.1=k
  .simp only[vW e,decide_eq_true e,Bool.true_or,Option.isSome_some]
  .rw[vX e,decide_eq_false e];show Ai k r
def Oz(kvs)(k:κ)(v):(putK kvs k v).length<=kvs.length+1:=by
 unfold putK;split
 .simp
 .simp
def OA{k:κ}(v)(h:cW kvs k=Ze):putK kvs k v=kvs++[(k,v)]:=by unfold putK;rw[Ai,h];show if_neg 01
def cU.jQ(r:cU o u):o.isSome=u.isSome:=by
 cases o with
 |none=>cases u with
  |none=>rfl
  |some _=>show(r).elim
 |some _=>cases u with
  |none=>show(r).elim
  |some _=>rfl
def cU.getD(r:cU o u)(rd:RelV d d'):RelV (o.getD d) (u.getD d'):=by
 cases o with
 |none=>cases u with
  |none=>show rd
  |some _=>show Zf r
 |some _=>cases u with
  |none=>show Zf r
  |some _=>show r
def KV.val(r:KV kvs vs)(k:κ):cU (cW kvs k) (qX vs k):=by
 induction r with|nil=>show fJ|@cons p q ps m h t D=>
  let#[C,J]:=h;by_cases e:p.1=k
  .have j:q.1=k:=C.symm.trans e;have b:qX (q::m) k=B q.2:=by simp[qX,j]
   rw[vW e,b];show J
  .have j:¬q.1=k:=λz=>e<|C.trans z
   have b:qX (q::m) k=qX m k:=by simp[qX,j]
   rw[vX e,b];show D
def KV.any(r:KV kvs vs)(k:κ):(kvs.any λj=>decide (j.1=k))=vs.any λj=>decide (j.1=k):=by induction r with|nil=>rfl|cons h t m=>rw[pv,pv,m,h.1]
def KV.Aj(r:KV kvs vs)(k:κ)(C:RelV y u):KV (kvs.map λj=>if j.1=k then(j.1,y)else j) (vs.map λj=>if j.1=k then(j.1,u)else j):=by
 induction r with|nil=>show .nil|@cons p q ps D h t m=>
  calc .cons ?_ m;let#[E,J]:=h;by_cases e:p.1=k
  .lia
  .lia
def KV.put(r:KV kvs vs)(k:κ)(j:RelV y u):KV (putK kvs k y) (stored vs k u):=by
 unfold putK stored;rw[r.any k];by_cases e:(vs.any λm=>decide (m.1=k))=Zi
 .rw[if_pos e,if_pos e];show r.Aj k j
 .rw[if_neg e,if_neg e];show Paired.snoc r #[rfl,j]
def KV.drop(r:KV kvs vs)(k:κ):KV (FT kvs k) (without vs k):=by
 unfold KV at r ⊢;unfold FT without;induction r with|nil=>show .nil|@cons p q ps D h t m=>
  let#[j,J]:=h;rw[rr,rr];by_cases e:p.1=k
  .have a:¬decide (p.1≠k)=Zi:=by simp[e]
   have b:¬decide (q.1≠k)=Zi:=by simp[j.symm.trans e]
   rw[if_neg a,if_neg b];show m
  .have C:¬q.1=k:=λz=>e<|j.trans z
   have a:decide (p.1≠k)=Zi:=by simp[e]
   have b:decide (q.1≠k)=Zi:=by simp[C]
   rw[if_pos a,if_pos b];show .cons #[j,J] m
def KV.keys{kvs:List (κ×bB)}(r:KV kvs vs):kvs.map (·.1)=vs.map (·.1):=by unfold KV at r;induction r with|nil=>rfl|cons h t j=>rw[ZW,ZW,j,h.1]
theorem KV.length(r:KV kvs vs):kvs.length=vs.length:=zD r
end
def Ak(r:RelV (kV k) u):(Vx P w).is k u=Zi:=by cases k with|inl i=>let#[t,e]:=(r);subst e;show Nf P w i t|inr x=>let#[t,e]:=(r);subst e;show Ng P w x t
abbrev KT(H:Hp):Wb->List (List Key×Z4×Zo)->Prop:=Paired λp q=>p.1=q.1/\H q.2.1=B (.tup<|p.1.map kV)/\RelV p.2 q.2.2
def KT.val(r:KT H kvs xs)(k):cU (cW kvs k) ((atKey xs k).map (·.2)):=by
 induction r with|nil=>show fJ|@cons p q ps m h t D=>
  let#[C,_,J]:=h;by_cases e:p.1=k
  .have j:q.1=k:=C.symm.trans e;have b:atKey (q::m) k=B q.2:=by simp[atKey,List.find?_cons,j]
   rw[vW e,b];show J
  .have j:¬q.1=k:=λz=>e<|C.trans z
   have b:atKey (q::m) k=atKey m k:=by simp[atKey,List.find?_cons,j]
   rw[vX e,b];show D
theorem KT.keeps(r:KT H kvs xs)(j:∀b ys,H b=B (.tup ys)->H' b=B (.tup ys)):KT H' kvs xs:=
 Paired.pJ r λ_ _ z=>#[z.1,j _ _ z.2.1,z.2.2]
section
variable{P:ZU}{w:bq}{H:Hp}{h:aM}{a:Z4}
theorem OB(ok:cV P w H h)(e:Rd H a u):JT P w H h a u:=e.ok ok
theorem FU(ok:cV P w H h)(e:Rd H a<|.dK kvs):kvs.length<=sizeLine/\(a==nF)=Zl/\∃vs,KV kvs vs/\h.DictOf (Vx P w) a vs:=show JT P w H h a (.dK kvs)from OB ok e
theorem Al(ok:cV P w H h)(e:H a=B (.dK kvs)):kvs.length<=sizeLine/\(a==nF)=Zl/\∃vs,KV kvs vs/\h.DictOf (Vx P w) a vs:=FU ok<|.inl e
end
def mU(H:Hp)(a:Z4)(y:bB)(r:Tj):Prop:=(∃kvs k,Rd H a (.dK kvs)/\y=kV k/\r=cW kvs k)\/∃kvs k b,Rd H a (.dT kvs)/\y=.ref b/\H b=B (.tup<|k.map kV)/\r=cW kvs k
def mV(H:Hp)(a:Z4)(y v:bB)(H':Hp):Prop:=(∃kvs k,H a=B (.dK kvs)/\y=kV k/\kvs.length<sizeLine/\H'=upd H a (.dK<|putK kvs k v)) \/ ∃kvs k b,H a=B (.dT kvs)/\y=.ref b/\H b=B (.tup<|k.map kV)/\kvs.length<sizeLine/\H'=upd H a (.dT<|putK kvs k v)
theorem mU.k{k:Key}(e:H a=B (.dK kvs)):mU H a (kV k) (cW kvs k):=.inl #[kvs,k,.inl e,rfl,rfl]
theorem mU.t{k:List Key}(e:H a=B (.dT kvs))(j:H b=B (.tup<|k.map kV)):mU H a (.ref b) (cW kvs k):=.inr #[kvs,k,b,.inl e,rfl,j,rfl]
theorem mV.k{k:Key}(e:H a=B (.dK kvs))(hl:kvs.length<sizeLine):mV H a (kV k) v (upd H a<|.dK<|putK kvs k v):=.inl #[kvs,k,e,rfl,hl,rfl]
theorem mV.t{k:List Key}(e:H a=B (.dT kvs))(j:H b=B (.tup<|k.map kV))(hl:kvs.length<sizeLine):mV H a (.ref b) v (upd H a<|.dT<|putK kvs k v):=.inr #[kvs,k,b,e,rfl,j,hl,rfl]
section
variable{X:Cx}{L:aQ}{U:St}{H:Hp}{s:Zx}{a:Z4}{y v:bB}{u r:Zo}{o:Tj}{A:bP}{E:aH}
def Inv.big(I:Inv X L U H s):nF<s.heap.objs.size:=by have h:=(I.mod.glob.keeps I.bk).lt;show rl 01 h
theorem OC(I:Inv X L U H s)(j:oy<|H a)(hs:jx a s.heap h')(m:∃q,h'.get? a=B q)(new:JT X.prog X.w (upd H a ob) h' a ob):Inv X L U (upd H a ob) {s with heap:=h',toks:=t'}:=I.write j (.inl rfl) (λb q O z=>(hs.2 b O).trans z) m new
theorem OD(z:kvs.length<=sizeLine)(hd:(a==nF)=Zl)(rel:KV kvs vs)(dd:h'.DictOf (Vx P w) a vs):JT P w H' h' a (.dK kvs):=#[z,hd,vs,rel,dd]
end
section
variable{X:Cx}{L:aQ}{U:St}{H:Hp}{s:Zx}{a:Z4}{kvs:Wt}{k:Key}{u:Zo}{A:bP}{E:aH}
def OE(I:Inv X L U H s)(e:Rd H a<|.dK kvs)(h:∀t s',Inv X L U H s'->Q (.int kvs.length t) s'):Zw (Zy X.prog X.w) A (call (.builtin "len") [.ref a]) Q E s:=by let#[z,hd,m,rel,j]:=FU I.au e;calc call_len_dict hd j (by rw[<-rel.length];rw[iM]at z;lia) ?_;rw[<-rel.length];show h _ _<|I.tok _
end
theorem OF(h:aM)(O:nF<h.objs.size):JT P w H (h.push {cls:=.type "dict",data:=.dict #[]}) h.objs.size (.dK []):=#[ZF _,beq_eq_false_iff_ne.mpr<|ZP<|Z1 O,[],.nil,Heap.DictOf.new h]
end L2
namespace Att
open PySem PySem.W PySem.Calls PyProof.Rows
def OG:∀(ns:Tp)(vs:Tv),WellAll P h vs (ns.map WData.int)->fz vs ns:=by
 intro ns;induction ns with|nil=>intro vs w;cases w;show .nil|cons n ns j=>intro vs w;cases w with|cons a b=>cases a;show .cons _ _<|j _ b
def OH{l:OpenLaw}(hn:l.most=B n) (j:l.row.toRowW.claim.pre args=Zi)(F:WellAll P h vals args):∃a vs ns,vals=[hE a]/\args=[WData.list<|ns.map WData.int]/\h.get? a=B {cls:=.type "list",data:=.seq vs.toArray}/\fz vs ns/\ns.length<=n:=by
 have H:=(pre_splitW j).1;have R:l.pre.holds [] {args:=args}=Zi:=(pre_splitW j).2;let#[d,r,rfl,L,J]:=hasAllW_cons H;obtain rfl:=hasAllW_nil J;let#[xs,rfl,I]:=hasW_list L;let#[ns,rfl]:=items_int I;have m:ns.length<=n:=by
  have D:(WTm.not<|.lt (.lit<|.int (n:Int))<|.len<|.arg 0).holds [] {args:=[.list<|ns.map .int]}=Zi:=by have D:=(holds_andW R).1;rw[hn]at D;show D
  have E:=condW_of D<|w_not<|w_lt w_lit<|w_len_list<|w_arg rfl;refine ZO λq=>?_
  first
   | (rw[decide_eq_true q']at E;show absurd E 01)
   | (simp at E;show sL q E)
 cases F with|cons Q M=>cases M;cases Q with|list O C=>show#[_,_,ns,rfl,rfl,O,OG ns _ C,m]
theorem OI(l:OpenLaw)(args):l.row.toRowW.claim.post args (.bool Zi) args=Zi:=postW_of (show WShape.has [] (.bool Zi) .bool=Zi by first|rfl|decide|simp) (w_eq_bool (w_res rfl) w_lit) rfl
def ik{l:OpenLaw} (hn:l.most=B n)(E:d.params.defaults=[]) (call:∀(w:bq)(s₀ s₁:Zx)(mg mb:Str->Tc)(fa:Z4)(o:Obj)(pm cd m:Zo)(a:Z4)(vs:Tv)(ns:Tp),Ground q loose [] XP w s₀ mg mb s₁.heap->YP w s₁.heap ->s₁.heap.get? fa=B o->o.data=.func (docDef d.name d.params d.body d.scope pm cd m)->s₁.heap.CodeRec cd d.name->mg d.name=B (.ref fa) ->s₁.heap.get? a=B {cls:=.type "list",data:=.seq vs.toArray}->fz vs ns->ns.length<=n->s₁.gens=#[] ->iN (Zy l.prog w) o2 (.call (.ref fa) #[[.ref a],[]]) (λr s'=>r=.ok (.ret<|.bool Zi)/\OldK s₁.heap s'.heap/\s'.os=s₁.os/\lY s'.gens) s₁):WalkO q loose XP YP l.row.toRowW d [] (λf vs=>PySem.call f vs):=by
 intro w s₀ s₁ mg mb G YY fa o pm cd m dV kV ho hd hcd hD hmg hg args vals as hpre hlay hrd hwl hlo;obtain rfl:dV=.none:=Dflts.none hD E;obtain rfl:kV=.none:=Dflts.noKw hD;let#[a,vs,ns,rfl,rfl,D,j,C]:=OH hn hpre hwl;refine enter_call<|oW (call w s₀ s₁ mg mb fa o pm cd m a vs ns G YY ho (fd_plain hd) hcd hmg D j C hg) λr s' F=>?_
 let#[rfl,J,I,H]:=F;show#[.inl #[.bool Zi,.bool Zi,[],rfl,λ_=>rfl,.bool Zi,OI l _,λ_=>#[List.Pairwise.nil,λ_ hm=>(nomatch hm)]],J,I,H]
end Att
namespace L2
open PySem PySem.Spec PyProof.Rows
theorem XJ:∀{vs:Tv}{ns:Tp},fz vs ns->Vals (ns.map bB.int) vs|_,_,.nil=>.nil|_,_,.cons n t h=>.cons #[t,rfl]<|XJ h
noncomputable def JF (s:dZ)(j:Nat):dZ:=match s with|.ClassDef _ _ _ body _ _ _ _ _ _ _=>body.getD j<|.Pass #[0,0,0,0]|_=>.Pass #[0,0,0,0]
def Q8(s:dZ):uS:=match s with|.FunctionDef _ a _ _ _ _ _ _ _ _=>a|_=>{posonlyargs:=[],args:=[],vararg:=Ze,kwonlyargs:=[],kw_defaults:=[],kwarg:=Ze,defaults:=[]}
def Qi(s:dZ):Tn:=match s with|.FunctionDef _ _ b _ _ _ _ _ _ _=>b|_=>[]
def JH(s:dZ):eL:=match s with|.FunctionDef _ _ _ _ _ _ sc _ _ _=>sc|_=>{kind:=.function,names:=[],isGenerator:=Zl,isCoroutine:=Zl}
abbrev FV:pP:=λ_ _ _ _ _ _=>False
structure vY(K:W.Frag)(x qual:Str)(st:dZ)(f:Z4)(fd:gY):Prop where
 ex:∃(oc:Zo)(od:Td)(kV doc pm:Zo)(an:Td)(cdv ct:Zo)(osl:Wc),fd=W.fnOf x qual (Q8 st) (Qi st) (JH st) .none kV doc pm an cdv ct/\K.lookup f=B #[oc,od,.func fd,osl]/\W.codeIn K cdv qual=Zi
 kp:W.keepIn K (.ref f)=Zi
section
variable{P:ZU}{w:bq}{K:W.Frag}{mg:Str->Tc}{base:aM}
def vY.ok{st:dZ}(F:vY K x qual st f fd)(S:c8 N ps<|JH st)(len:∀vs H Q E,sp vs H Q E->vs.length=ps.length) (hbody:∀(j:Zo)(A:bP)(outer:Tl)(s:Zx)(H:Hp)(vs:Uc)(Q:VK)(E:XK),bj κ k (A.deeper<|lZ qual (JH st) s.heap.objs.size f j)->sp vs H Q E ->∃t,tm (jd FV P w K mg base N qual (JH st) f j A outer s H E).mQ (Qi st) t/\t {nx:=λ_ H'=>Q .ag H',rt:=Q} (start N vs) H):bx P w K mg base FV κ (k+1) f fd ps sp:=by
 let#[U,O,kV,L,R,M,j,ct,J,rfl,I,m]:=F.ex;refine FC I m S len λA outer s H vs Q E D C=>?_
 let#[t,h,q]:=hbody j A outer s H vs Q E D C;show#[t,h.mQ,q]
def vY.binds{st:dZ}(F:vY K x qual st f fd) (h:∀(kV m pm:Zo)(an:Td)(j ct:Zo)(us:Tv),us.length=ps.length->qW (W.fnOf x qual (Q8 st) (Qi st) (JH st) .none kV m pm an j ct) #[us,[]]=pure (ps.zip us)):JO K fd ps []:=by let#[I,H,kV,m,pm,an,j,ct,D,rfl,E,C]:=F.ex;show .all<|h kV m pm an j ct
end
def fO(H H':Hp):Prop:=∀b o,H b=B o->H' b=B o
theorem fO.refl(H):fO H H:=λ_ _ h=>h
theorem fO.trans(a:fO H H1)(b:fO H1 H2):fO H H2:=λc o h=>b c o<|a c o h
def fO.free(e:fO H H')(h:H' l=Option.none):H l=Option.none:=by cases q:H l with|none=>rfl|some o=>rw[e l o q]at h;cases h
def fO.seq{K:W.Frag}(e:fO H H')(h:bU K H a xs):bU K H' a xs:=by
 rcases h with(h|⟨o,h⟩)|h
 .show .inl<|.inl<|e _ _ h
 .show .inl<|.inr #[o,e _ _ h]
 .show .inr h
end L2
set_option maxHeartbeats 4000000
namespace L3
open PySem PySem.Spec PyProof.Rows L2
inductive IV where|ag|bl (b:Bool)|int (i:Int)|str (x:Str)|tup (xs:List IV)|bX (xs:List IV)|ref (i:Nat)
abbrev _root_.Wo:=List<|Str×IV
abbrev _root_.Wp:=List<|Key×IV
abbrev _root_.Tf:=Option IV
abbrev _root_.Tw:=List IV
inductive IX where|lst (xs:Tw)|ins (c:Str) (fs:Wo)|aY (kvs:Wp)|exc (c:Str) (fs:Wo)|tab (q:Str)|iZ (c:Str) (fs:Wo)
abbrev IH:=List IX
abbrev aA:=List<|Tf
inductive Res(α:Type) where|ok (a:α) (h:IH)|exc (n:Nat) (h:IH)|stuck
noncomputable def Res.bind {α β:Type}:Res α->(α->IH->Res β)->Res β|.ok a h,f=>f a h|.exc n h,_=>.exc n h|.stuck,_=>.stuck
inductive bM where|next (U:aA) (h:IH)|ret (v:IV) (h:IH)|brk (U:aA) (h:IH)|cont (U:aA) (h:IH)|exc (n:Nat) (U:aA) (h:IH)|stuck
def pU(K:W.Frag)(H:Hp)(a:Z4)(xs:Uc):Prop:=(∃o,H a=B (.bh o<|.lst xs)) \/ ∃(o:Obj) (its:Ti) (n:Nat),K.lookup a=B o/\o.cls=.type "list"/\o.dict=Ze/\o.data=.seq its n/\its.size<=sizeLine/\Vals xs its.toList
def pU.sq{K:W.Frag}(h:pU K H a xs):bU K H a xs:=by
 rcases h with⟨o,h⟩|h
 .show .inl<|.inr #[o,h]
 .show .inr h
mutual
def RV(K:W.Frag)(Y:Tu)(H:Hp):IV->bB->Prop|.ag,v=>v=.ag|.bl b,v=>v=.bl b|.int i,v=>v=.int i|.str x,v=>v=.str x|.tup xs,v=>∃a vs,v=.ref a/\d4 K H a vs/\aw K Y H xs vs|.bX xs,v=>∃a vs,v=.ref a/\pU K H a vs/\aw K Y H xs vs|.ref i,v=>∃a,v=.ref a/\Y[i]?=B a
def aw(K:W.Frag)(Y:Tu)(H:Hp):Tw->Uc->Prop|[],vs=>vs=[]|x::xs,vs=>∃v r,vs=v::r/\RV K Y H x v/\aw K Y H xs r
end
structure Ext(H H':Hp):Prop where
 b9:∀b xs,H b=B (.tup xs)->H' b=B (.tup xs)
 aO:∀b o u,H b=B (.bh o u)->H' b=B (.bh o u)
structure aU(Y:Tu)(H:Hp)(Y':Tu)(H':Hp):Prop where
 pre:∃m,Y'=Y++m
 ext:Ext H H'
theorem aU.refl:aU Y H Y H:=#[#[[],03],#[λ_ _ h=>h,λ_ _ _ h=>h]]
def aU.trans(a:aU Y H U1 H1)(b:aU U1 H1 U2 H2):aU Y H U2 H2:=by let#[#[m,e],x]:=a;let#[#[C,j],y]:=b;show#[#[m++C,by rw[j,e,hX]],#[λb xs h=>y.b9 b xs<|x.b9 b xs h,λb o u h=>y.aO b o u<|x.aO b o u h]]
def aU.at(n:aU Y H Y' H'){i:Nat}(h:Y[i]?=B a):Y'[i]?=B a:=by let#[#[m,e],_]:=n;subst e;rw[ZE (Zu.mp h).1];show h
def Ext.rd(x:Ext H H')(h:Rd H a<|.tup xs):Rd H' a (.tup xs):=by
 rcases h with h|⟨o,h⟩
 .show .inl<|x.b9 _ _ h
 .show .inr #[o,x.aO _ _ _ h]
def Ext.tE{K:W.Frag}(x:Ext H H')(h:d4 K H a xs):d4 K H' a xs:=by
 rcases h with h|h
 .show .inl<|x.rd h
 .show .inr h
def Ext.Am{K:W.Frag}(x:Ext H H')(h:pU K H a xs):pU K H' a xs:=by
 rcases h with⟨o,h⟩|h
 .show .inl #[o,x.aO _ _ _ h]
 .show .inr h
mutual
theorem RV.mono{K:W.Frag}{Y Y':Tu}{H H':Hp}(n:aU Y H Y' H'):∀(x:IV)(v:bB),RV K Y H x v->RV K Y' H' x v|.ag,_,h=>h|.bl _,_,h=>h|.int _,_,h=>h|.str _,_,h=>h|.tup xs,_,h=>by let#[a,vs,e,q,r]:=h;show#[a,vs,e,n.ext.tE q,aw.mono n xs vs r]|.bX xs,_,h=>by let#[a,vs,e,q,r]:=h;show#[a,vs,e,n.ext.Am q,aw.mono n xs vs r]|.ref i,_,h=>by let#[a,e,q]:=h;show#[a,e,n.at q]
theorem aw.mono{K:W.Frag}{Y Y':Tu}{H H':Hp}(n:aU Y H Y' H'):∀(xs:Tw)(vs:Uc),aw K Y H xs vs->aw K Y' H' xs vs|[],_,h=>h|x::xs,_,h=>by let#[v,r,e,q,t]:=h;show#[v,r,e,RV.mono n x v q,aw.mono n xs r t]
end
theorem aw.length{K:W.Frag}:∀{xs:Tw}{vs:Uc},aw K Y H xs vs->vs.length=xs.length|[],_,h=>by have e:=h;subst e;rfl|x::xs,_,h=>by let#[v,r,e,_,t]:=h;subst e;simp[aw.length t]
theorem aw.get{K:W.Frag}:∀{xs:Tw}{vs:Uc}{i:Nat}{x:IV},aw K Y H xs vs->xs[i]?=B x->∃v,vs[i]?=B v/\RV K Y H x v
 |[],_,_,_,_,e=>by simp at e
 |x::xs,_,0,y,h,e=>by let#[v,r,j,q,t]:=h;subst j;simp at e;subst e;show#[v,rfl,q]
 |x::xs,_,i+1,y,h,e=>by
  let#[v,r,j,q,t]:=h;subst j;let#[u,m,J]:=aw.get t<|by simpa using e
  show#[u,by simpa using m,J]
def aw.get'{K:W.Frag}{i:Nat}(h:aw K Y H xs vs)(e:vs[i]?=B v):∃x,xs[i]?=B x/\RV K Y H x v:=by have C:=h.length;have Z:=(Zu.mp e).1;have m:xs[i]?=B xs[i]:=Zd<|sI 06 06;let#[u,j,J]:=h.get m;rw[e]at j;cases j;show#[_,m,J]
theorem aw.append{K:W.Frag}:∀{xs ys:Tw}{vs us:Uc},aw K Y H xs vs->aw K Y H ys us->aw K Y H (xs++ys) (vs++us)|[],_,_,_,h,g=>by have e:=h;subst e;show g|x::xs,_,_,_,h,g=>by let#[v,r,e,q,t]:=h;subst e;show#[v,_,rfl,q,aw.append t g]
theorem aw.take{K:W.Frag}:∀{xs:Tw}{vs:Uc}(n:Nat),aw K Y H xs vs->aw K Y H (xs.take n) (vs.take n)|_,_,0,_=>by simp;show rfl|[],_,n+1,h=>by have e:=h;subst e;show rfl|x::xs,_,n+1,h=>by let#[v,r,e,q,t]:=h;subst e;show#[v,r.take n,rfl,q,aw.take n t]
theorem aw.drop{K:W.Frag}:∀{xs:Tw}{vs:Uc}(n:Nat),aw K Y H xs vs->aw K Y H (xs.drop n) (vs.drop n)|_,_,0,h=>h|[],_,n+1,h=>by have e:=h;subst e;show rfl|x::xs,_,n+1,h=>by let#[v,r,e,q,t]:=h;subst e;show aw.drop n t
theorem aw.set{K:W.Frag}(q:RV K Y H x v):∀{xs:Tw}{vs:Uc}(i:Nat),aw K Y H xs vs->aw K Y H (xs.set i x) (vs.set i v)|[],_,_,h=>by have e:=h;subst e;show rfl|y::xs,_,0,h=>by let#[u,r,e,_,t]:=h;subst e;show#[v,r,rfl,q,t]|y::xs,_,i+1,h=>by let#[u,r,e,p,t]:=h;subst e;show#[u,r.set i v,rfl,p,aw.set q i t]
theorem aw.one{K:W.Frag}(q:RV K Y H x v):aw K Y H [x] [v]:=#[v,[],rfl,q,rfl]
theorem aw.rev{K:W.Frag}:∀{xs:Tw}{vs:Uc},aw K Y H xs vs->aw K Y H xs.reverse vs.reverse|[],_,h=>by have e:=h;subst e;show rfl|x::xs,_,h=>by let#[v,r,e,q,t]:=h;subst e;rw[pe,pe];show aw.append (aw.rev t)<|aw.one q
theorem aw.eraseIdx{K:W.Frag}:∀{xs:Tw}{vs:Uc}(i:Nat),aw K Y H xs vs->aw K Y H (xs.eraseIdx i) (vs.eraseIdx i)|[],_,_,h=>by have e:_=[]:=h;subst e;show rfl|x::xs,_,0,h=>by let#[v,r,e,q,t]:=h;subst e;show t|x::xs,_,i+1,h=>by let#[v,r,e,q,t]:=h;subst e;show#[v,r.eraseIdx i,rfl,q,aw.eraseIdx i t]
theorem aw.ints{K:W.Frag}:∀(ns:Tp),aw K Y H (ns.map IV.int) (ns.map bB.int)|[]=>rfl|_::ns=>#[_,_,rfl,rfl,aw.ints ns]
def cq{κ:Type}(K:W.Frag)(Y:Tu)(H:Hp):List (κ×IV)->List (κ×bB)->Prop|[],vs=>vs=[]|x::xs,vs=>∃v r,vs=(x.1,v)::r/\RV K Y H x.2 v/\cq K Y H xs r
theorem cq.mono{K:W.Frag}(n:aU Y H Y' H'):∀(xs:List<|κ×IV)(vs:List<|κ×bB),cq K Y H xs vs->cq K Y' H' xs vs|[],_,h=>h|x::xs,_,h=>by let#[v,r,e,q,t]:=h;show#[v,r,e,RV.mono n _ v q,cq.mono n xs r t]
theorem cq.length{K:W.Frag}:∀{xs:List (κ×IV)}{vs:List (κ×bB)},cq K Y H xs vs->vs.length=xs.length|[],_,h=>by have e:=h;subst e;rfl|x::xs,_,h=>by let#[v,r,e,_,t]:=h;subst e;simp[cq.length t]
theorem cq.lookup[BEq κ]{K:W.Frag}:∀{xs:List (κ×IV)}{vs:List (κ×bB)},cq K Y H xs vs ->(∀x,xs.lookup f=B x->∃v,vs.lookup f=B v/\RV K Y H x v)/\(xs.lookup f=Ze->vs.lookup f=Ze)
 |[],_,h=>by have e:=h;subst e;show#[λx e=>by simp at e,λ_=>rfl]
 |(k,x)::xs,_,h=>by
  let#[v,r,e,q,t]:=h;subst e;have j:=cq.lookup (f:=f) t;simp![i4];cases O:f==k with
  |true=>show#[λy e=>by cases e;show#[v,rfl,q],λe=>by cases e]
  |false=>show j
def QC(H:Hp)(q:Str)(cv:Zo):Prop:=∃c oc vs t,cv=.ref c/\H c=B (.bh oc<|.own 0)/\oc.data=.fields vs/\vs[1]?=B (.str (q++".<locals>."++"<lambda>") t)
def kP(K:W.Frag)(H:Hp)(q:Str)(a:Z4):Prop:=(∀cdv,W.codeIn K cdv q=Zi->∃c,cdv=.ref c/\W.codeHdIn K c a=Zi) /\ ∃ps,H a=B (.ia ps)/\TriplesOk ps.toList/\∀pos cv,qS pos ps.toList=B cv->QC H q cv
def kP.mono{K:W.Frag}(M:∀b o u,H b=B (.bh o u)->H' b=B (.bh o u))(k:∀u,H a=B u->H' a=B u)(h:kP K H q a):kP K H' q a:=by let#[J,ps,e,D,E]:=h;calc#[J,ps,k _ e,D,λj C q=>?_];let#[c,I,L,t,F,m,r]:=E j C q;show#[c,I,L,t,F,M _ _ _ m,r]
def cy(a C:Z4)(tv:Zo)(d:Td):HO:=.ext λh=>∃oe vs,h.get? a=B oe/\oe.cls=.ref C/\oe.data=.fields vs/\vs[1]?=B tv/\vs[2]?=B .none/\oe.dict=d
def XV(Y:Tu):IV->Zo->Prop|.int i,u=>∃t,u=.int i t|.ref j,u=>∃b,u=.ref b/\Y[j]?=B b|_,_=>False
def gu(Y:Tu)(H:Hp)(d:Td)(fs:Wo):Prop:=(fs=[]/\d=Ze)\/∃f v dx od u,fs=[(f,v)]/\d=B dx/\H dx=B (.bh od<|.own 0)/\W.lookIn f od=B (B u)/\XV Y v u
def gu.mono(j:∀b o u,H b=B (.bh o u)->H' b=B (.bh o u))(h:gu Y H d fs):gu Y H' d fs:=by
 rcases h with h|⟨f,i,dx,od,t,e,q,r,z⟩
 .show .inl h
 .show .inr #[f,i,dx,od,t,e,q,j _ _ _ r,z]
def gu.FW(n:aU Y H Y' H')(h:gu Y H d fs):gu Y' H' d fs:=by
 rcases h with h|⟨f,v,dx,od,t,e,q,r,z,x⟩
 .show .inl h
 .calc .inr #[f,v,dx,od,t,e,q,n.ext.aO _ _ _ r,z,?_];cases v with|ref j=>let#[b,e,q]:=x;let#[#[m,rfl],_]:=n;show#[b,e,by rw[ZE (Zu.mp q).1];show q]|_=>show x
def il(H:Hp)(tv:Zo):Prop:=tv=.none\/∃T oT ts,tv=.ref T/\H T=B (.bh oT<|.own 0)/\oT.data=.fields ts/\ts[3]?=B .none
def il.mono(j:∀b o u,H b=B (.bh o u)->H' b=B (.bh o u))(h:il H tv):il H' tv:=by
 rcases h with h|⟨T,oT,ts,e,q,r⟩
 .show .inl h
 .show .inr #[T,oT,ts,e,j _ _ _ q,r]
def RO(V:aF)(K:W.Frag)(Y:Tu)(H:Hp)(a:Z4):IX->Prop|.lst xs=>∃vs,H a=B (.lst vs)/\aw K Y H xs vs|.ins c fs=>∃C dx vs,V c=B C/\H a=B (.ins C dx vs)/\cq K Y H fs vs|.aY kvs=>∃vs,H a=B (.dK vs)/\cq K Y H kvs vs|.exc c fs=>∃C tv d,gu Y H d fs/\W.nsIn K Z2 c=B (B<|.ref C)/\H a=B (cy a C tv d)/\il H tv|.tab q=>kP K H q a|.iZ c fs=>∃C oe u vs,gu Y H oe.dict fs/\W.nsIn K Z2 c=B (B<|.ref C)/\H a=B (.bh oe u)/\oe.cls=.ref C/\oe.data=.fields vs/\vs[2]?=B .none
def RO.some{V:aF}{K:W.Frag}{Y:Tu}{H:Hp}{a:Z4}{o:IX}(h:RO V K Y H a o):∃u,H a=B u:=by cases o with|lst xs=>let#[j,e,_]:=h;show#[_,e]|ins c fs=>let#[_,_,j,_,e,_]:=h;show#[_,e]|aY m=>let#[j,e,_]:=h;show#[_,e]|exc c fs=>let#[C,D,d,_,_,e,_]:=h;show#[_,e]|tab q=>let#[_,ps,e,_]:=h;show#[_,e]|iZ c fs=>let#[_,_,_,_,_,_,e,_]:=h;show#[_,e]
def RO.mono{K:W.Frag}(n:aU Y H Y' H')(k:∀u,H a=B u->H' a=B u)(h:RO V K Y H a o):RO V K Y' H' a o:=by cases o with|lst xs=>let#[j,e,r]:=h;show#[j,k _ e,aw.mono n _ _ r]|ins c fs=>let#[C,J,j,m,e,r]:=h;show#[C,J,j,m,k _ e,cq.mono n _ _ r]|aY E=>let#[j,e,r]:=h;show#[j,k _ e,cq.mono n _ _ r]|exc c fs=>let#[C,F,d,D,m,e,r]:=h;show#[C,F,d,D.FW n,m,k _ e,r.mono n.ext.aO]|tab q=>show kP.mono n.ext.aO k h|iZ c fs=>let#[C,I,u,j,D,m,e,r]:=h;show#[C,I,u,j,D.FW n,m,k _ e,r]
structure Rel(V:aF)(K:W.Frag)(Y:Tu)(h:IH)(H:Hp):Prop where
 len:Y.length=h.length
 nd:Y.Nodup
 at_:∀(i:Nat)(o:IX),h[i]?=B o->∃a,Y[i]?=B a/\RO V K Y H a o
section
variable{V:aF}{K:W.Frag}{Y:Tu}{h:IH}{H:Hp}
def Rel.some(R:Rel V K Y h H){i:Nat}(e:Y[i]?=B a):∃u,H a=B u:=by
 have Z:i<h.length:=by rw[<-R.len];show(Zu.mp e).1
 let#[b,j,r]:=R.at_ i _<|Zd Z;rw[e]at j;cases j;show r.some
theorem Rel.iq(R:Rel V K Y h H)(e:H l=Ze):l∉Y:=λm=>by
 let#[i,Z,q]:=iO.mp m;let#[u,j]:=R.some (i:=i) (a:=l)<|by simp_all
 rw[e]at j;cases j
theorem Ext.gy(e:H l=Ze):Ext H (upd H l o):=#[λb xs q=>by rw[Jp<|QN q e];show q,λb o u q=>by rw[Jp<|QN q e];show q]
def Rel.grow(R:Rel V K Y h H)(e:H l=Ze):Rel V K Y h (upd H l o)/\aU Y H Y (upd H l o):=by have n:aU Y H Y (upd H l o):=#[#[[],03],Ext.gy e];calc#[#[R.len,R.nd,λi u q=>?_],n];let#[a,m,r]:=R.at_ i u q;show#[a,m,r.mono n λw j=>by rw[Jp<|QN j e];show j]
def Rel.alloc(R:Rel V K Y h H)(e:H l=Ze)(r:RO V K (Y++[l]) (upd H l o) l io):Rel V K (Y++[l]) (h++[io]) (upd H l o)/\aU Y H (Y++[l]) (upd H l o):=by
 have n:aU Y H (Y++[l]) (upd H l o):=#[#[[l],rfl],Ext.gy e];refine#[#[by simp[R.len],?_,λi u q=>?_],n]
 .rw[List.nodup_append];calc#[R.nd,03,λa ha b O=>?_];have:b=l:=by simpa using O
  subst this;rintro rfl;show R.iq e ha
 .by_cases Z:i<h.length
  .rw[ZE Z]at q;let#[a,D,C]:=R.at_ i u q;show#[a,n.at D,C.mono n λw m=>by rw[Jp<|QN m e];show m]
  .have j:i=h.length:=by have:=(Zu.mp q).1;simp at this;show gf (mH this)<|ZO Z
   subst j;simp at q;subst q;calc#[l,?_,r];rw[<-R.len];simp
def Rel.inj(R:Rel V K Y h H){i j:Nat}(e1:Y[i]?=B a)(e2:Y[j]?=B a):i=j:=by let#[C,q1]:=Zu.mp e1;let#[J,m]:=Zu.mp e2;show(yX R.nd).mp<|q1.trans m.symm
def Ext.cJ(e:H l=B u)(m:oy<|H l):Ext H (upd H l o):=by
 refine#[λb xs q=>?_,λb j w q=>?_]
 .by_cases O:b=l
  .subst O;rw[q]at m;show(m).elim
  .rw[Jp O];show q
 .by_cases O:b=l
  .subst O;rw[q]at m;show(m).elim
  .rw[Jp O];show q
def Rel.write(R:Rel V K Y h H)(e:Y[i]?=B a)(ha:H a=B u)(m:oy<|H a)(r:RO V K Y (upd H a o) a io):Rel V K Y (h.set i io) (upd H a o)/\aU Y H Y (upd H a o):=by
 have n:aU Y H Y (upd H a o):=#[#[[],03],Ext.cJ ha m];calc#[#[by simp[R.len],R.nd,λj w q=>?_],n];by_cases C:j=i
 .subst C;have F:j<h.length:=by have:=(Zu.mp q).1;simpa using this
  rw[ZM F]at q;cases q;show#[a,e,r]
 .rw[ZL<|ZP C]at q;let#[b,D,E]:=R.at_ j w q;calc#[b,D,E.mono n λv I=>?_];have:b≠a:=by rintro rfl;show C<|R.inj D e
  rw[Jp this];show I
end
structure jR(K:W.Frag)(Y:Tu)(H:Hp)(bF:aA)(U:L2.St):Prop where
 len:bF.length=U.length
 at_:∀(j:Nat)(v:IV),bF[j]?=B (B v)->∃u,U[j]?=B (B u)/\RV K Y H v u
theorem jR.mono{K:W.Frag}(n:aU Y H Y' H')(r:jR K Y H bF U):jR K Y' H' bF U:=#[r.len,λj v e=>let ⟨u,m,q⟩:=r.at_ j v e;#[u,m,RV.mono n _ _ q]]
def jR.set{K:W.Frag}(r:jR K Y H bF U)(i)(q:RV K Y H x v):jR K Y H (bF.set i<|B x) (U.set i<|B v):=by
 calc#[by simp[r.len],λj w e=>?_];by_cases m:j=i
 .subst m;have C:j<bF.length:=by have:=(Zu.mp e).1;simpa using this
  rw[ZM C]at e;cases e;show#[v,by rw[ZM<|by rw[<-r.len];show C],q]
 .rw[ZL<|ZP m]at e;let#[u,D,q1]:=r.at_ j w e;show#[u,by rw[ZL<|ZP m];show D,q1]
structure az(V:aF)(X:Cx)(L:aQ)(Y:Tu)(bF:aA)(h:IH)(U:L2.St)(H:Hp)(s:Zx):Prop where
 inv:Inv X L U H s
 rel:Rel V X.K Y h H
 st:jR X.K Y H bF U
def RU(K:W.Frag)(Y:Tu)(H:Hp)(v:IV)(u:Zo):Prop:=∃x,RelV x u/\RV K Y H v x
theorem RU.mono{K:W.Frag}(n:aU Y H Y' H')(r:RU K Y H v u):RU K Y' H' v u:=let ⟨x,a,b⟩:=r;#[x,a,RV.mono n _ _ b]
def ir(K:W.Frag)(Y:Tu)(H:Hp)(vs:Tw)(us:Tv):Prop:=∃xs,Vals xs us/\aw K Y H vs xs
theorem ir.mono{K:W.Frag}(n:aU Y H Y' H')(r:ir K Y H v u):ir K Y' H' v u:=let ⟨x,a,b⟩:=r;#[x,a,aw.mono n _ _ b]
abbrev pV(α β:Type):=W.Frag->Tu->Hp->α->β->Prop
def RB:pV Bool Bool:=λ_ _ _ b c=>c=b
section
variable{α β γ δ:Type}
def Kont(V:aF)(X:Cx)(R:pV α β)(L:aQ)(Y:Tu)(bF:aA)(U:L2.St)(H:Hp)(r:Res α)(Q:β->Zx->Prop)(E:aH):Prop:=match r with|.ok v h'=>∀u s' H' Y',az V X L Y' bF h' U H' s'->aU Y H Y' H'->R X.K Y' H' v u->Q u s'|.exc n h'=>∀pl a s' H' Y',az V X (L++pl) Y' bF h' U H' s'->aU Y H Y' H'->Y'[n]?=B a->E (.ref a) s'|.stuck=>False
variable{V:aF}{X:Cx}{R:pV α β}{R':pV γ δ}{L:aQ}{Y Y':Tu}{bF:aA}{U:L2.St}{H H':Hp}
def Kont.mono(k:Kont V X R L Y bF U H r Q E)(n:aU Y H Y' H'):Kont V X R L Y' bF U H' r Q E:=by cases r with|ok v F=>show λu C j D N n2 q=>k u C j D N (n.trans n2) q|exc m F=>show λpl a C j D N n2 q=>k pl a C j D N (n.trans n2) q|stuck=>show k
def PX(V:aF)(X:Cx)(R:pV α β)(t:Sem β)(m:aA->IH->Res α):Prop:=∀(L:aQ)(s:Zx)(U:L2.St)(H:Hp)(Y:Tu)(bF:aA)(h:IH)(Q:β->Zx->Prop)(E:aH),az V X L Y bF h U H s->Kont V X R L Y bF U H (m bF h) Q E ->Zw (Zy X.prog X.w) X.A t Q E s
def PX.run(p:PX V X R t m)(N:az V X L Y bF h U H s) (K:Kont V X R' L Y bF U H ((m bF h).bind g) Q E) (step:∀x h1 u s1 H1 j,az V X L j bF h1 U H1 s1->aU Y H j H1->R X.K j H1 x u->Kont V X R' L j bF U H1 (g x h1) Q E->Q1 u s1):Zw (Zy X.prog X.w) X.A t Q1 E s:=by calc p L s U H Y bF h Q1 E N ?_;cases e:m bF h with|ok v C=>rw[e]at K;show λu F M I J D r=>step v C u F M I J D r<|Kont.mono K D|exc n C=>rw[e]at K;show K|stuck=>rw[e]at K;show K
end
abbrev ah(V:aF)(X:Cx)(e:Expr)(m:aA->IH->Res IV):Prop:=PX V X RU (a0 e X.env) m
abbrev gz(V:aF)(X:Cx)(e:Expr)(m:aA->IH->Res Bool):Prop:=PX V X RB (nN e X.env<|a0 e X.env) m
def l9(V:aF)(X:Cx)(e:Expr)(m:aA->IH->Res Bool):Prop:=∀whole:Sem Zo,PX V X RB (nN e X.env whole) m
def dG(V:aF)(X:Cx)(es:Te)(m:aA->IH->Res (Tw)):Prop:=∀pos:Pos,PX V X ir (spliced<|dY pos<|ZH es X.env) m
abbrev E1:=aA->IH->Res IV
abbrev _root_.Tx:=List E1
abbrev T1:=aA->IH->Res Bool
abbrev A1:=aA->IH->Res (Tw)
noncomputable def Ja (i:Nat):E1:=λU h=>match U[i]? with|some (B v)=>.ok v h|_=>.stuck
noncomputable def eC (v:IV):E1:=λ_ h=>.ok v h
def Je(f:IV->IV->IH->Res IV)(a b:E1):E1:=λU h=>(a U h).bind λx h1=>(b U h1).bind λy J=>f x y J
def dH(f:IV->IH->Res IV)(a:E1):E1:=λU h=>(a U h).bind λx h1=>f x h1
def iw(a b:E1)(tr:IV->IH->Res Bool):E1:=λU h=>(a U h).bind λx h1=>(tr x h1).bind λc J=>if c then b U J else .ok x J
def pW(a b:E1)(tr:IV->IH->Res Bool):E1:=λU h=>(a U h).bind λx h1=>(tr x h1).bind λc J=>if c then .ok x J else b U J
def kQ(t:T1)(a b:E1):E1:=λU h=>(t U h).bind λc h1=>if c then a U h1 else b U h1
def Qy(a b:T1):T1:=λU h=>(a U h).bind λc h1=>if c then b U h1 else .ok Zl h1
def iy(a b:T1):T1:=λU h=>(a U h).bind λc h1=>if c then .ok Zi h1 else b U h1
def Qa(a:T1):T1:=λU h=>(a U h).bind λc h1=>.ok (!c) h1
def Jl(tr:IV->IH->Res Bool)(a:E1):T1:=λU h=>(a U h).bind λx h1=>tr x h1
noncomputable def Jc:A1:=λ_ h=>.ok [] h
def Jb(a:E1)(r:A1):A1:=λU h=>(a U h).bind λx h1=>(r U h1).bind λxs J=>.ok (x::xs) J
def JU(f g:IV->IV->IH->Res IV)(a b c:E1):E1:=λU h=>(a U h).bind λx h1=>(b U h1).bind λy J=>(f x y J).bind λk h3=>match k with|.bl Zi=>(c U h3).bind λz h4=>g y z h4|.bl Zl=>.ok (.bl Zl) h3|_=>.stuck
section
variable{V:aF}{X:Cx}{a b c:Expr}{ma mb mc:E1}{pos:Pos}
def dt(V:aF)(X:Cx)(f:Zo->Zo->Sem Zo)(g:IV->IV->IH->Res IV):Prop:=∀(L:aQ)(s:Zx)(U:L2.St)(H:Hp)(Y:Tu)(bF:aA)(h:IH)(x y:IV)(v u:Zo)(Q:aH)(E:aH),az V X L Y bF h U H s->RU X.K Y H x v->RU X.K Y H y u ->Kont V X RU L Y bF U H (g x y h) Q E->Zw (Zy X.prog X.w) X.A (f v u) Q E s
def vZ(V:aF)(X:Cx)(f:Zo->Sem Zo)(g:IV->IH->Res IV):Prop:=∀(L:aQ)(s:Zx)(U:L2.St)(H:Hp)(Y:Tu)(bF:aA)(h:IH)(x:IV)(v:Zo)(Q:aH)(E:aH),az V X L Y bF h U H s->RU X.K Y H x v ->Kont V X RU L Y bF U H (g x h) Q E->Zw (Zy X.prog X.w) X.A (f v) Q E s
def tF(V:aF)(X:Cx)(g:IV->IH->Res Bool):Prop:=∀(L:aQ)(s:Zx)(U:L2.St)(H:Hp)(Y:Tu)(bF:aA)(h:IH)(x:IV)(v:Zo)(Q:Bool->Zx->Prop)(E:aH),az V X L Y bF h U H s->RU X.K Y H x v ->Kont V X RB L Y bF U H (g x h) Q E->Zw (Zy X.prog X.w) X.A (truthy v) Q E s
def Q2(V:aF)(X:Cx)(f:Zo)(g:Tw->IH->Res IV):Prop:=∀(L:aQ)(s:Zx)(U:L2.St)(H:Hp)(Y:Tu)(bF:aA)(h:IH)(xs:Tw)(us:Tv)(Q:aH)(E:aH),az V X L Y bF h U H s->ir X.K Y H xs us ->Kont V X RU L Y bF U H (g xs h) Q E->Zw (Zy X.prog X.w) X.A (call f us) Q E s
theorem XI(p:PE (X.aT E) e t)(I:Inv X L U H s) (k:t U H λz H'=>∀u s',Inv X L U H' s'->RelV z u->Q u s'):Zw (Zy X.prog X.w) X.A (a0 e X.env) Q E s:=c6 (p L s U H _ (I.aT E) k) (λu s' ⟨_,_,j,r,q⟩=>q u s' j.aG r) λ_ _ z=>z
theorem Qg(p:d6 (X.aT E) f r)(I:Inv X L U H s)(m:RelV x v)(C:RelV y u) (k:r x y H λz H'=>∀u s',Inv X L U H' s'->RelV z u->Q u s'):Zw (Zy X.prog X.w) X.A (f v u) Q E s:=c6 (p L s U H x y v u _ (I.aT E) m C k) (λu s' ⟨_,_,j,r,q⟩=>q u s' j.aG r) λ_ _ z=>z
theorem OJ(p:zW (X.aT E) f r)(I:Inv X L U H s)(m:RelV x v) (k:r x H λz H'=>∀u s',Inv X L U H' s'->RelV z u->Q u s'):Zw (Zy X.prog X.w) X.A (f v) Q E s:=c6 (p L s U H x v _ (I.aT E) m k) (λu s' ⟨_,_,j,r,q⟩=>q u s' j.aG r) λ_ _ z=>z
theorem VN(p:tu (X.aT E) r)(I:Inv X L U H s)(m:RelV x v) (k:r x H λz H'=>∀s',Inv X L U H' s'->Q z s'):Zw (Zy X.prog X.w) X.A (truthy v) Q E s:=c6 (p L s U H x v _ (I.aT E) m k) (λ_ s' ⟨_,j,q⟩=>q s' j.aG) λ_ _ z=>z
theorem Va(p:Vd (X.aT E) f r)(I:Inv X L U H s)(m:Vals xs us) (k:r xs H λz H'=>∀u s',Inv X L U H' s'->RelV z u->Q u s'):Zw (Zy X.prog X.w) X.A (call f us) Q E s:=c6 (p L s U H xs us _ (I.aT E) m k) (λu s' ⟨_,_,j,r,q⟩=>q u s' j.aG r) λ_ _ z=>z
def OL(i)(I:X.N[i]?=B x:=by rfl)(O:pM X.env.scope x:=by assumption)(hd:(x==("__debug__":Str))=Zl:=by decide) (j:(x==("__classdict__":Str))=Zl:=by decide):ah V X (.Name x pos) (Ja i):=by
 intro L s U H Y D h Q E N K;unfold Ja at K;cases e:D[i]? with|none=>rw[e]at K;show(K).elim|some o=>cases o with|none=>rw[e]at K;show(K).elim|some v=>rw[e]at K;let#[u,J,q]:=N.st.at_ i v e;show XI (Nl I O hd j) N.inv #[u,J,λF m C M=>K F m H Y #[C,N.rel,N.st] .refl #[u,M,q]]
theorem Ao{i j pos}:ah V X (.Constant (.int i) j pos) (eC<|.int i):=λ_ _ _ H Y _ _ _ E N K=>XI (Nn) N.inv λD m C F=>K D m H Y #[C,N.rel,N.st] .refl #[_,F,rfl]
theorem tG{i j pos}:ah V X (.Constant (.bool i) j pos) (eC<|.bl i):=λ_ _ _ H Y _ _ _ E N K=>XI (Np) N.inv λD m C F=>K D m H Y #[C,N.rel,N.st] .refl #[_,F,rfl]
theorem FX{j pos}:ah V X (.Constant .none j pos) (eC .ag):=λ_ _ _ H Y _ _ _ E N K=>XI (Nq) N.inv λD m C F=>K D m H Y #[C,N.rel,N.st] .refl #[_,F,rfl]
theorem FY{i j pos}:ah V X (.Constant (.str i) j pos) (eC<|.str i):=λ_ _ _ H Y _ _ _ E N K=>XI (Nr) N.inv λD m C F=>K D m H Y #[C,N.rel,N.st] .refl #[_,F,rfl]
theorem OM(C:Gl X x)(hm:X.mg x=B u)(r:RelV v u)(q:∀Y H,RV X.K Y H iv v)(hd:(x==("__debug__":Str))=Zl:=by decide):ah V X (.Name x pos) (eC iv):=λ_ _ _ H Y _ _ _ E N K=>XI (Nt C hm r hd) N.inv λD j m F=>K D j H Y #[m,N.rel,N.st] .refl #[_,F,q _ _]
theorem ON(ho:dt V X (fE op) f)(ha:ah V X a ma)(O:ah V X b mb):ah V X (.BinOp a op b pos) (Je f ma mb):=λL s U H Y D h Q E N K=>wpAny_BinOp<|ha.run N K λx W u s1 H1 Z P n1 R F=>O.run P F λy J w S j C m n2 M I=>ho L S U j C D J x y u w Q E m (R.mono n2) M I
theorem tH(ho:vZ V X (unaryOp op) f)(ha:ah V X a ma):ah V X (.UnaryOp op a pos) (dH f ma):=λL s U H Y j h Q E N K=>UnaryOp_<|ha.run N K λx C u I M D F n1 J m=>ho L I U M D j C x u Q E F J m
theorem OO(ho:dt V X (dU op) f)(ha:ah V X a ma)(O:ah V X b mb)(hm:qO op b=Zl:=by assumption):ah V X (.Compare a [op] [b] pos) (Je f ma mb):=λL s U H Y D h Q E N K=>wpAny_Compare1 (ha.run N K λx W u s1 H1 Z P n1 R F=>O.run P F λy J w S j C m n2 M I=>ho L S U j C D J x y u w Q E m (R.mono n2) M I) hm
noncomputable def aV:IV->IH->Res Bool|.bl b,h=>.ok b h|_,_=>.stuck
def Kont.aV{r:Res IV}(K:Kont V X RB L Y bF U H (r.bind aV) Q E):Kont V X RU L Y bF U H r (λv s=>Zw (Zy X.prog X.w) X.A (truthy v) Q E s) E:=by
 cases r with|exc n h=>show K|stuck=>show K|ok v h=>intro u j D m N n q;let#[x,C,q]:=q;cases v with|bl b=>have e:x=.bl b:=q;subst e;cases C;show oU<|K b j D m N n rfl|_=>show Zf K
def Res.c9(r:Res α)(f)(g:β->IH->Res γ):(r.bind f).bind g=r.bind λx h=>(f x h).bind g:=by cases r<;>rfl
theorem OP(ho:dt V X (dU op) f)(ha:ah V X a ma)(O:ah V X b mb)(hm:qO op b=Zl:=by assumption):gz V X (.Compare a [op] [b] pos) (Jl aV<|Je f ma mb):=λL s U H Y j h Q E N K=>by
  have M:Kont V X RB L Y j U H ((ma j h).bind λx m=>(mb j m).bind λy J=>(f x y J).bind aV) Q E:=by unfold Jl Je at K;simp![Res.c9]at K;show K
  show wpAny_isTrue_Compare1 (ha.run N M λx m u s1 H1 U1 F n1 Z S=>O.run F S λy J w I C R P n2 D W=>ho L I U C R j J x y u w _ E P (Z.mono n2) D<|Kont.aV W) hm
theorem FZ(O:tF V X tr)(ha:ah V X a ma)(J:∀j,nN a X.env j=(do let v<-j;nL a.pos;jt [v] (truthy v)):=by intro _;rfl):gz V X a (Jl tr ma):=λL s U H Y m h Q E N K=>isTrue_plain (ha.run N K λx D u M R F I n1 P C=>O L M U R F m D x u Q E I P C)<|J _
variable{rest:Te}{ta tb:T1}
theorem OQ(ha:gz V X a ta):l9 V X (.BoolOp .And [a] pos) ta:=λO L s U H Y m h Q E N K=>by
 calc isTrue_and<|ha L s U H Y m h _ E N ?_;cases e:ta m h with
 |ok v J=>rw[e]at K;intro u j F I C D r;have M:=r;subst M;cases u with|true=>show isTrue_and_nil<|K Zi j F I C D rfl|false=>show K Zl j F I C D rfl
 |exc n J=>rw[e]at K;show K
 |stuck=>rw[e]at K;show K
theorem OR(ha:gz V X a ta):l9 V X (.BoolOp .Or [a] pos) ta:=λO L s U H Y m h Q E N K=>by
 calc isTrue_or<|ha L s U H Y m h _ E N ?_;cases e:ta m h with
 |ok v J=>rw[e]at K;intro u j F I C D r;have M:=r;subst M;cases u with|false=>show isTrue_or_nil<|K Zl j F I C D rfl|true=>show K Zi j F I C D rfl
 |exc n J=>rw[e]at K;show K
 |stuck=>rw[e]at K;show K
theorem OS(ha:gz V X a ta)(O:l9 V X (.BoolOp .And (b::rest) pos) tb):l9 V X (.BoolOp .And (a::b::rest) pos) (Qy ta tb):=λM L s U H Y I h Q E N K=>
 isTrue_and (ha.run N K λc J u D F m C n1 P j=>by have R:=P;subst R;cases u with|true=>show O M L D U F m I J Q E C j|false=>show j Zl D F m C .refl rfl)
theorem OT(ha:gz V X a ta)(O:l9 V X (.BoolOp .Or (b::rest) pos) tb):l9 V X (.BoolOp .Or (a::b::rest) pos) (iy ta tb):=λM L s U H Y I h Q E N K=>
 isTrue_or (ha.run N K λc J u D F m C n1 P j=>by have R:=P;subst R;cases u with|false=>show O M L D U F m I J Q E C j|true=>show j Zi D F m C .refl rfl)
theorem l9.t(h:l9 V X a ta):gz V X a ta:=h _
theorem OU(ha:gz V X a ta):gz V X (.UnaryOp .Not a pos) (Qa ta):=λL s U H Y M h Q E N K=>
 isTrue_not (ha.run N K λc O u D I m C n1 F j=>by have J:=F;subst J;show j (!u) D I m C .refl rfl)
theorem F0{op}(h:ah V X a ma):ah V X (.BoolOp op [a] pos) ma:=λL s U H Y m j Q E N K=>BoolOp_one<|h L s U H Y m j Q E N K
theorem OV(ht:tF V X tr)(ha:ah V X a ma)(O:ah V X (.BoolOp .And (b::rest) pos) mb):ah V X (.BoolOp .And (a::b::rest) pos) (iw ma mb tr):=λL s U H Y C h Q E N K=>
 BoolOp_and (ha.run N K λx P u s1 H1 W Z n1 R j=>by
  calc ht L s1 U H1 W C P x u _ E Z R ?_;cases e:tr x P with
  |ok c J=>rw[e]at j;intro d D m I F n2 S;have r':=S;subst r';have M:=Kont.mono j n2;cases d with|true=>show O L D U m I C J Q E F M|false=>show M u D m I F .refl<|R.mono n2
  |exc n h'=>rw[e]at j;show j
  |stuck=>rw[e]at j;show j)
theorem Ap(ht:tF V X tr)(ha:ah V X a ma)(O:ah V X (.BoolOp .Or (b::rest) pos) mb):ah V X (.BoolOp .Or (a::b::rest) pos) (pW ma mb tr):=λL s U H Y C h Q E N K=>
 BoolOp_or (ha.run N K λx P u s1 H1 W Z n1 R j=>by
  calc ht L s1 U H1 W C P x u _ E Z R ?_;cases e:tr x P with
  |ok c J=>rw[e]at j;intro d D m I F n2 S;have r':=S;subst r';have M:=Kont.mono j n2;cases d with|false=>show O L D U m I C J Q E F M|true=>show M u D m I F .refl<|R.mono n2
  |exc n h'=>rw[e]at j;show j
  |stuck=>rw[e]at j;show j)
def VF(tr:IV->IH->Res Bool):IV->IH->Res IV:=λx h=>(tr x h).bind λc h1=>.ok (.bl (!c)) h1
theorem OW(I:tF V X tr):vZ V X (unaryOp .Not) (VF tr):=λL s U H Y D h x v Q E N r K=>by calc not_of<|I L s U H Y D h x v _ E N r ?_;unfold VF at K;cases e:tr x h with|ok c J=>rw[e]at K;intro d M j C m n2 F;have O:=F;subst O;show K _ M j C m n2 #[.bl (!d),rfl,rfl]|exc n P=>rw[e]at K;show K|stuck=>rw[e]at K;show K
theorem OX{M:T1}(P:gz V X t M)(ha:ah V X a ma)(O:ah V X b mb):ah V X (.IfExp t a b pos) (kQ M ma mb):=λL s U H Y j h Q E N K=>
 wpAny_IfExp (P.run N K λc C u I J D F n1 R m=>by have S:=R;subst S;cases u with|true=>show ha L I U J D j C Q E F m|false=>show O L I U J D j C Q E F m)
theorem OY(ho:dt V X (dU op) f)(m:dt V X (dU op') g)(ha:ah V X a ma)(O:ah V X b mb)(hc:ah V X c mc) (hm:qT [op,op'] [b,c]=Zl:=by with_unfolding_all rfl):ah V X (.Compare a [op,op'] [b,c] pos) (JU f g ma mb mc):=λL s U H Y C h Q E N K=>
 Compare_chain (ha.run N K λx h1 u s1 H1 U1 Z n1 r1 K1=>chain_link (O.run Z K1 λy J w s2 P U2 N2 n2 F j=>by
  calc ho L s2 U P U2 C J x y u w _ E N2 (r1.mono n2) F ?_;cases e:f x y J with|exc n h'=>rw[e]at j;show j|stuck=>rw[e]at j;show j|ok k h3=>
   rw[e]at j;intro d s3 H3 U3 M D r3;let#[z,rz,q]:=r3;cases k with
   |bl k=>have e':=q;subst e';cases rz;calc oU ?_;have I:=Kont.mono j D;cases k with|false=>show ite_ff<|I _ s3 H3 U3 M .refl #[.bl Zl,rfl,rfl]|true=>show ite_tt<|chain_last<|hc.run M I λz h4 w' s4 H4 W4 W n4 S R=>m L s4 U H4 W4 C h4 y z w w' Q E W ((F.mono D).mono n4) S R
   |_=>show(j).elim)) hm
theorem OZ(ho:dt V X (dU op) f)(I:dt V X (dU op') g)(ha:ah V X a ma)(O:ah V X b mb)(hc:ah V X c mc) (hm:qT [op,op'] [b,c]=Zl:=by with_unfolding_all rfl):gz V X (.Compare a [op,op'] [b,c] pos) (Jl aV<|JU f g ma mb mc):=λL s U H Y j h Q E N K=>by
 have K':Kont V X RB L Y j U H ((ma j h).bind λx W=>(mb j W).bind λy J=>(f x y J).bind λk D=>(match k with|.bl Zi=>(mc j D).bind λz m=>g y z m|.bl Zl=>.ok (.bl Zl) D|_=>.stuck:Res IV).bind aV) Q E:=by unfold Jl JU at K;simp![Res.c9]at K;show K
 calc isTrue_chain (ha.run N K' λx W u s1 H1 U1 N1 n1 r1 K1=>test_link<|O.run N1 K1 λy J w s2 H2 U2 N2 n2 P C=>?_) hm;calc ho L s2 U H2 U2 j J x y u w _ E N2 (r1.mono n2) P ?_;cases e:f x y J with|exc n h'=>rw[e]at C;show C|stuck=>rw[e]at C;show C|ok k D=>
  rw[e]at C;intro d s3 S Z N3 M r3;let#[z,rz,q]:=r3;cases k with
  |bl k=>
   have e':=q;subst e';cases rz;calc oU ?_;have R:=Kont.mono (r:=(match IV.bl k with|.bl Zi=>(mc j D).bind λz m=>g y z m|.bl Zl=>.ok (.bl Zl) D|_=>.stuck:Res IV).bind aV) C M;cases k with|false=>show ite_ff<|R _ s3 S Z N3 .refl rfl|true=>
    have F:Kont V X RB L Z j U S ((mc j D).bind λz m=>(g y z m).bind aV) Q E:=by have:=R;rw[Res.c9]at this;show this
    show ite_tt<|test_last<|hc.run N3 F λz m w' s4 H4 W4 N4 n4 r4 K4=>I L s4 U H4 W4 j m y z w w' _ E N4 ((P.mono M).mono n4) r4<|Kont.aV K4
  |_=>show(C).elim
variable{es:Te}{mr:A1}
theorem ir.nil{K:W.Frag}:ir K Y H [] []:=#[[],.nil,rfl]
theorem ir.cons{K:W.Frag}{Y:Tu}{H:Hp}{x:IV}{u:Zo}{xs:Tw}{us:Tv}(a:RU K Y H x u)(b:ir K Y H xs us):ir K Y H (x::xs) (u::us):=let ⟨v,r,q⟩:=a;let ⟨j,m,C⟩:=b;#[v::j,.cons r m,v,j,rfl,q,C]
theorem QD:dG V X [] Jc:=λ_ L s U H Y j h Q E N K=>Calls.spliced_nil<|K [] s H Y N .refl .nil
def Q3(ha:ah V X a ma)(P:dG V X es mr)(hs:ZH (a::es) X.env=(Zl,a0 a X.env)::ZH es X.env:=by rfl):dG V X (a::es) (Jb ma mr):=by intro j L s U H Y W h Q E N K;rw[hs];show zz<|ha.run N K λx h1 u s1 H1 U1 D n1 S O=>(P j).run D O λxs J Z F m M I n2 C R=>R _ F m M I .refl<|.cons (S.mono n2) C
end
noncomputable def Jq:IV->IV->IH->Res IV
 |.int i,.int j,h=>.ok (.int<|i+j) h
 |.str x,.str y,h=>if x.length+y.length<=sizeLine then .ok (.str<|x++y) h else .stuck
 |.ref i,.ref j,h=>match h[i]?,h[j]? with
  |some (.lst xs),B (.lst ys)=>if xs.length+ys.length<=sizeLine then .ok (.ref h.length) (h++[.lst<|xs++ys])else .stuck
  |_,_=>.stuck
 |.tup xs,.tup ys,h=>if xs≠[]/\ys≠[]/\xs.length+ys.length<=sizeLine then .ok (.tup<|xs++ys) h else .stuck
 |_,_,_=>.stuck
noncomputable def Qe:IV->IV->IH->Res IV|.int i,.int j,h=>.ok (.int<|i-j) h|_,_,_=>.stuck
def Ve(i j:Int):Prop:=i.natAbs<2^64\/j.natAbs<2^64\/(i.natAbs.log2<1048576/\j.natAbs.log2<1048576)
instance (i j:Int):Decidable (Ve i j):=by unfold Ve;show inferInstance
noncomputable def X5:IV->IV->IH->Res IV
 |.int i,.int j,h=>if Ve i j then .ok (.int<|i*j) h else .stuck
 |.ref i,.int k,h=>match h[i]? with
  |some (.lst xs)=>if -(2^63)<=k/\k<2^63/\xs.length*k.toNat<=sizeLine then .ok (.ref h.length) (h++[.lst (fF k.toNat xs).flatten])else .stuck
  |_=>.stuck
 |_,_,_=>.stuck
noncomputable def JQ:IV->IV->IH->Res IV|.int i,.int j,h=>if 0<j/\j.natAbs.log2<9000 then .ok (.int<|i/j) h else .stuck|_,_,_=>.stuck
noncomputable def J0:IV->IV->IH->Res IV|.int i,.int j,h=>if 0<j then .ok (.int<|i%j) h else .stuck|_,_,_=>.stuck
noncomputable def JK:IV->IV->IH->Res IV|.int i,.int j,h=>if 0<=j/\j<=1000000/\i.natAbs<2^64 then .ok (.int<|i^j.toNat) h else .stuck|_,_,_=>.stuck
noncomputable def VE:IV->IH->Res IV|.int i,h=>.ok (.int (-i)) h|_,_=>.stuck
section
variable{V:aF}{X:Cx}
theorem aC(N:az V X L Y bF h U H s)(K:Kont V X RU L Y bF U H (.ok v h) Q E) (q:RV X.K Y H v w):∀u s',Inv X L U H s'->RelV w u->Q u s':=λu s' I r=>K u s' H Y #[I,N.rel,N.st] .refl #[w,r,q]
theorem eY(N:az V X L Y bF h U H s) (K:Kont V X RU L Y bF U H (.ok (.ref h.length)<|h++[io]) Q E)(l)(e:H l=Ze)(r:RO V X.K (Y++[l]) (upd H l o) l io):∀u s',Inv X L U (upd H l o) s'->RelV (.ref l) u->Q u s':=λu s' I j=>by let#[R,n]:=N.rel.alloc e r;calc K u s' _ _ #[I,R,N.st.mono n] n #[.ref l,j,l,rfl,?_];rw[<-N.rel.len];simp
theorem mW(N:az V X L Y bF h U H s) (K:Kont V X RU L Y bF U H (.ok (.tup xs) h) Q E)(l)(e:H l=Ze)(r:aw X.K Y H xs vs):∀u s',Inv X L U (upd H l<|.tup vs) s'->RelV (.ref l) u->Q u s':=λu s' I j=>by let#[R,n]:=N.rel.grow e;show K u s' _ _ #[I,R,N.st.mono n] n #[.ref l,j,l,vs,rfl,d4.of Jx,aw.mono n _ _ r]
theorem aw.new{K:W.Frag}(e:H l=Ze)(r:aw K Y H xs vs):aw K (Y++[l]) (upd H l o) xs vs:=aw.mono #[#[[l],rfl],Ext.gy e] _ _ r
def az.at(N:az V X L Y bF h U H s){i:Nat}(e:h[i]?=B o)(ha:Y[i]?=B a):RO V X.K Y H a o:=by let#[b,j,r]:=N.rel.at_ i o e;rw[ha]at j;cases j;show r
def O0:dt V X (fE .Add) Jq:=by
 intro L s U H Y bF h x y v u Q E N F D K;let#[xv,F,M]:=F;let#[yv,D,P]:=D;cases x with
 |int i=>cases y with|int j=>have C:=M;have m:=P;subst C m;show Qg (Nz) N.inv F D #[i,j,rfl,rfl,aC N K rfl]|_=>show(K).elim
 |str i=>
  cases y with
  |str j=>
   have C:=M;have m:=P;subst C m;dsimp only[Jq]at K;split at K
   .rename_i I;show Qg (NP) N.inv F D #[i,j,rfl,rfl,I,aC N K rfl]
   .show(K).elim
  |_=>show(K).elim
 |tup xs=>
  cases y with
  |tup ys=>
   let#[a,S,C,sa,ra]:=M;let#[b,ws,m,sb,rb]:=P;subst C m;dsimp only[Jq]at K;split at K
   .rename_i I;let#[h1,J,h3]:=I;have n1:S≠[]:=λz=>h1 (by have:=ra.length;rw[z]at this;show rm this.symm)
    have n2:ws≠[]:=λz=>J (by have:=rb.length;rw[z]at this;show rm this.symm)
    show Qg (Of) N.inv F D #[a,b,S,ws,rfl,rfl,sa,sb,n1,by rw[ra.length,rb.length];show h3,λz=>absurd z n2,λ_ p R=>mW N K p R<|ra.append rb]
   .show(K).elim
  |_=>show(K).elim
 |ref i=>
  cases y with
  |ref j=>
   let#[a,C,ha]:=M;let#[b,m,O]:=P;subst C m;dsimp only[Jq]at K;cases Z:h[i]? with|none=>rw[Z]at K;show(K).elim|some oi=>
    cases W:h[j]? with|none=>rw[Z,W]at K;cases oi<;>show(K).elim|some oj=>
     rw[Z,W]at K;cases oi with
     |lst xs=>
      cases oj with
      |lst ys=>
       dsimp only at K;split at K
       .rename_i I;let#[S,C,r1]:=N.at Z ha;let#[ws,m,r2]:=N.at W O;show Qg (Ow) N.inv F D #[a,b,S,ws,rfl,rfl,C,m,by rw[r1.length,r2.length];show I,λp R=>eY N K p R #[_,Jx,aw.new R<|r1.append r2]]
       .show(K).elim
      |_=>show(K).elim
     |_=>show(K).elim
  |_=>show(K).elim
 |_=>cases y<;>show(K).elim
def O2:dt V X (fE .Sub) Qe:=by
 intro L s U H Y M h x y v u Q E N C m K;let#[O,C,D]:=C;let#[P,m,F]:=m;cases x with
 |int i=>cases y with|int j=>have J:=D;have I:=F;subst J I;show Qg (NA) N.inv C m #[i,j,rfl,rfl,aC N K rfl]|_=>show(K).elim
 |_=>cases y<;>show(K).elim
def Ve.ok(h:Ve i j):IntMulOk i j:=by
 rcases h with h|h|⟨h1,J⟩
 .show .of_left<|uG 00 00
 .show .of_right<|uG 00 00
 .refine .of_bits ?_ ?_
  .unfold Builtin.Int.intBits;split
   .show ZF _
   .assumption
  .unfold Builtin.Int.intBits;split
   .show ZF _
   .assumption
theorem O3:d6 X (fE .Mult) (rI Ve λi j=>.int<|i*j):=vP λ_ _ _ _ _ _ _ m q=>mul_int q m.ok
def O4:dt V X (fE .Mult) X5:=by
 intro L s U H Y bF h x y v u Q E N F D K;let#[xv,F,J]:=F;let#[yv,D,M]:=D;cases x with
 |int i=>
  cases y with
  |int j=>
   have C:=J;have I:=M;subst C I;dsimp only[X5]at K;split at K
   .rename_i m;show Qg (O3) N.inv F D #[i,j,rfl,rfl,m,aC N K rfl]
   .show(K).elim
  |_=>show(K).elim
 |ref i=>
  cases y with
  |int k=>
   let#[a,C,ha]:=J;have I:=M;subst C I;dsimp only[X5]at K;cases Z:h[i]? with|none=>rw[Z]at K;show(K).elim|some oi=>
    rw[Z]at K;cases oi with
    |lst xs=>
     dsimp only at K;split at K
     .rename_i m;let#[P,C,R]:=N.at Z ha;have S:∀n:Nat,aw X.K Y H (fF n xs).flatten (fF n P).flatten:=λn=>by induction n with|zero=>show rfl|succ n W=>show R.append W
      show Qg (Oy) N.inv F D #[a,k,P,rfl,rfl,C,m.1,m.2.1,by rw[R.length];show m.2.2,λp O=>eY N K p O #[_,Jx,aw.new O<|S _]]
     .show(K).elim
    |_=>show(K).elim
  |_=>show(K).elim
 |_=>cases y<;>show(K).elim
theorem O5:d6 X (fE .FloorDiv) (rI (λ_ j=>0<j/\j.natAbs.log2<9000) λi j=>.int<|i/j):=vP λi j _ _ _ _ _ m q=>by show floordiv_int (oh m.1) (by rw[Int.fdiv_eq_ediv_of_nonneg i<|ZV m.1];show q)<|.inl<|PyProof.noPylong_of_log2 m.2
def O6:dt V X (fE .FloorDiv) JQ:=by
 intro L s U H Y O h x y v u Q E N C m K;let#[P,C,D]:=C;let#[R,m,F]:=m;cases x with
 |int i=>
  cases y with
  |int j=>
   have M:=D;have J:=F;subst M J;dsimp only[JQ]at K;split at K
   .rename_i I;show Qg (O5) N.inv C m #[i,j,rfl,rfl,I,aC N K rfl]
   .show(K).elim
  |_=>show(K).elim
 |_=>cases y<;>show(K).elim
def O7:dt V X (fE .Mod) J0:=by
 intro L s U H Y O h x y v u Q E N C m K;let#[P,C,D]:=C;let#[R,m,F]:=m;cases x with
 |int i=>
  cases y with
  |int j=>
   have M:=D;have J:=F;subst M J;dsimp only[J0]at K;split at K
   .rename_i I;show Qg (NB) N.inv C m #[i,j,rfl,rfl,I,aC N K rfl]
   .show(K).elim
  |_=>show(K).elim
 |_=>cases y<;>show(K).elim
def O8:dt V X (fE .Pow) JK:=by
 intro L s U H Y O h x y v u Q E N C m K;let#[P,C,D]:=C;let#[R,m,F]:=m;cases x with
 |int i=>
  cases y with
  |int j=>
   have M:=D;have J:=F;subst M J;dsimp only[JK]at K;split at K
   .rename_i I;show Qg (NC) N.inv C m #[i,j,rfl,rfl,I,aC N K rfl]
   .show(K).elim
  |_=>show(K).elim
 |_=>cases y<;>show(K).elim
def F2:vZ V X (unaryOp .USub) VE:=by intro L s U H Y D h x v Q E N j K;let#[F,j,m]:=j;cases x with|int i=>have C:=m;subst C;show OJ (ND) N.inv j #[i,rfl,aC N K rfl]|_=>show(K).elim
noncomputable def mf:IV->IV->IH->Res IV|.int i,.int j,h=>.ok (.bl<|decide (i<j)) h|.str x,.str y,h=>.ok (.bl<|decide (x.cps.toList<y.cps.toList)) h|_,_,_=>.stuck
noncomputable def fA:IV->IV->IH->Res IV|.int i,.int j,h=>.ok (.bl<|decide (i<=j)) h|.str x,.str y,h=>.ok (.bl (!decide (y.cps.toList<x.cps.toList))) h|_,_,_=>.stuck
noncomputable def f6:IV->IV->IH->Res IV|.int i,.int j,h=>.ok (.bl<|decide (j<i)) h|_,_,_=>.stuck
noncomputable def pX:IV->IV->IH->Res IV|.int i,.int j,h=>.ok (.bl<|decide (j<=i)) h|_,_,_=>.stuck
def Aq:dt V X (dU .Lt) mf:=by
 intro L s U H Y M h x y v u Q E N C m K;let#[O,C,I]:=C;let#[P,m,J]:=m;cases x with
 |int i=>cases y with|int j=>have F:=I;have D:=J;subst F D;show Qg (NJ) N.inv C m #[i,j,rfl,rfl,aC N K rfl]|_=>show Zf K
 |str i=>cases y with|str j=>have F:=I;have D:=J;subst F D;show Qg (NN) N.inv C m #[i,j,rfl,rfl,aC N K rfl]|_=>show(K).elim
 |_=>cases y<;>show(K).elim
def Ar:dt V X (dU .LtE) fA:=by
 intro L s U H Y M h x y v u Q E N C m K;let#[O,C,I]:=C;let#[R,m,J]:=m;cases x with
 |int i=>cases y with|int j=>have F:=I;have D:=J;subst F D;show Qg (NK) N.inv C m #[i,j,rfl,rfl,aC N K rfl]|_=>show(K).elim
 |str i=>cases y with|str j=>have F:=I;have D:=J;subst F D;let#[t,rfl]:=C;let#[P,rfl]:=m;show PySem.P.le_str<|aC N K rfl _ s N.inv rfl|_=>show(K).elim
 |_=>cases y<;>show(K).elim
def As:dt V X (dU .Gt) f6:=by
 intro L s U H Y M h x y v u Q E N C m K;let#[O,C,D]:=C;let#[P,m,F]:=m;cases x with
 |int i=>cases y with|int j=>have J:=D;have I:=F;subst J I;show Qg (NL) N.inv C m #[i,j,rfl,rfl,aC N K rfl]|_=>show(K).elim
 |_=>cases y<;>show(K).elim
def Au:dt V X (dU .GtE) pX:=by
 intro L s U H Y M h x y v u Q E N C m K;let#[O,C,D]:=C;let#[P,m,F]:=m;cases x with
 |int i=>cases y with|int j=>have J:=D;have I:=F;subst J I;show Qg (NM) N.inv C m #[i,j,rfl,rfl,aC N K rfl]|_=>show(K).elim
 |_=>cases y<;>show(K).elim
noncomputable def cH:IV->IH->Res Bool|.ag,h=>.ok Zl h|.bl b,h=>.ok b h|.int i,h=>.ok (i != 0) h|.str x,h=>if x.length<=sizeLine then .ok ((x.length:Int) != 0) h else .stuck|.tup xs,h=>.ok (!xs.isEmpty) h|.bX xs,h=>.ok (!xs.isEmpty) h|.ref i,h=>match h[i]? with|some (.lst xs)=>.ok (!xs.isEmpty) h|some (.aY kvs)=>.ok (!kvs.isEmpty) h|_=>.stuck
def aw.empty{K:W.Frag}(r:aw K Y H xs vs):vs.isEmpty=xs.isEmpty:=by have:=r.length;cases xs<;>cases vs<;>simp_all
def cq.empty{K:W.Frag}(r:cq K Y H xs vs):vs.isEmpty=xs.isEmpty:=by have:=r.length;cases xs<;>cases vs<;>simp_all
theorem iz(N:az V X L Y bF h U H s)(K:Kont V X RB L Y bF U H (.ok c h) Q E):∀s',Inv X L U H s'->Q c s':=λs' I=>K c s' H Y #[I,N.rel,N.st] .refl rfl
def YD:tF V X cH:=by
 intro L s U H Y P h x v Q E N m K;let#[R,m,C]:=m;cases x with
 |ag=>have j:=C;subst j;show VN (VL) N.inv m #[_,rfl,iz N K]
 |bl b=>have j:=C;subst j;show VN (VL) N.inv m #[_,rfl,iz N K]
 |int i=>have j:=C;subst j;show VN (VL) N.inv m #[_,rfl,iz N K]
 |str y=>
  have j:=C;subst j;dsimp only[cH]at K;split at K
  .rename_i M;show VN (VL) N.inv m #[_,#[M,rfl],iz N K]
  .show(K).elim
 |tup xs=>let#[a,D,j,sa,J]:=C;subst j;show VN (VL) N.inv m #[!xs.isEmpty,.inr (.inl #[D,sa,by rw[J.empty]]),iz N K]
 |bX xs=>let#[a,D,j,sa,J]:=C;subst j;show VN (VL) N.inv m #[!xs.isEmpty,.inl #[D,sa.sq,by rw[J.empty]],iz N K]
 |ref i=>
  let#[a,j,ha]:=C;subst j;dsimp only[cH]at K;cases Z:h[i]? with|none=>rw[Z]at K;show(K).elim|some O=>rw[Z]at K;cases O with|lst xs=>let#[D,j,I]:=N.at Z ha;show VN (VL) N.inv m #[!xs.isEmpty,.inl #[D,bU.of j,by rw[I.empty]],iz N K]|aY F=>let#[D,j,I]:=N.at Z ha;show VN (VL) N.inv m #[!F.isEmpty,.inr (.inr #[D,j,by rw[I.empty]]),iz N K]|_=>show(K).elim
def cG(a:A1):E1:=λU h=>(a U h).bind λxs h1=>if xs.length<=sizeLine then .ok (.tup xs) h1 else .stuck
def J2(a:A1):E1:=λU h=>(a U h).bind λxs h1=>if xs.length<=sizeLine then .ok (.ref h1.length) (h1++[.lst xs])else .stuck
variable{es:Te}{mr:A1}{pos:Pos}
theorem O9{x1}(J:dG V X es mr):ah V X (.Tuple es x1 pos) (cG mr):=λL s U H Y W h Q E N K=>by
 refine wpAny_Tuple_spliced<|(J pos).run N K λxs Z M R H1 U1 m n1 S F=>?_
 split at F
 .rename_i C;let#[vs,D,I]:=S;have O:=D.length;have j:=I.length;have P:=m.inv.au.fresh<|Zk _;calc#[by rw[<-O,j];show C,?_];show mW m F R.heap.objs.size P I _ _ (m.inv.laid (λb u e=>Zg _ e) (Zk _) #[by rw[j];show C,M,D,#[_,Zt _ rfl,rfl,_,rfl]]) rfl
 .trivial
theorem Pa(M:dG V X es mr):ah V X (.List es pos) (J2 mr):=λL s U H Y W h Q E N K=>by
 refine wpAny_List_spliced<|(M pos).run N K λxs Z O R H1 U1 m n1 S F=>?_
 split at F
 .rename_i C;let#[vs,D,J]:=S;have P:=D.length;have j:=J.length;have I:=m.inv.au.fresh<|Zk _;calc#[by rw[<-P,j];show C,?_];show eY m F R.heap.objs.size I #[_,Jx,aw.new I J] _ _ (m.inv.laid (λb u e=>Zg _ e) (Zk _) #[by rw[j];show C,O,0,D,Zt _ rfl]) rfl
 .trivial
end
section
variable{prog:ZU}{w:bq}{A:bP}{E:aH}{s:Zx}
theorem F3(m:t≠it):∀(n i:Nat)(s:Zx)(Q:Tv->Zx->Prop),s.heap.IsListIter it t i->s.heap.IsList t items->i+n<=items.size ->(∀h',h'.IsListIter it t (i+n)->jx it s.heap h'->Q ((items.toList.drop i).take n) {s with heap:=h'})->Zw (Zy prog w) A (draw (.ref it) n) Q E s
 |0,i,s,Q,j,_,_,hQ=>by show Zj<|by simpa using hQ s.heap j<|Heap.SameBut.refl ..
 |n+1,i,s,Q,j,ht,hle,hQ=>by
  have C:i<items.size:=ki (Zq _ _) 06;refine Zb<|yz j ht (x:=items[i]) 03 λh₁ hit₁ hs₁=>?_
  refine Zb<|ZT<|F3 m n (i+1) _ _ hit₁ (ht.extBut hs₁.extBut m) 05 λh₂ hit₂ hs₂=>Zj ?_
  have hd:items.toList.drop i=items[i]::items.toList.drop (i+1):=by simp[pb,C]
  have:=hQ h₂ 05<|hs₁.trans hs₂;rw[hd]at this;show this
def Pb(F:aE A s.heap)(j:s.heap.IsList t items)
  (H:∀h',eQ s.heap.objs.size s.heap h'->Q items.toList {s with heap:=h'}):Zw (Zy prog w) A (uJ (.ref t) items.size Ze) Q E s:=by
 have m:t≠s.heap.objs.size:=by let#[o,D,_]:=j;show Z1<|Z0 D
 unfold uJ;refine Zb ?_
 .unfold notIterableAtAll;calc Zb<|yD j.typeIs slot_list_iter.lookup ?_;calc Zj ?_;simp![lT,if_false];calc Zb<|ZT<|nA j ?_;calc Zb (ZT<|F3 m items.size 0 _ _ #[_,Zt _ rfl,rfl,rfl] (j.push _) (by(rw[mI];show Zk _)) λh₁ hit₁ hs₁=>?_);have C:List.take items.size (List.drop 0 items.toList)=items.toList:=by rw[List.drop_zero];show nR 03
  rw[C];rw[if_neg 03];have ht₁:h₁.IsList t items:=(j.push _).extBut hs₁.extBut m;refine Zb<|ZT<|zJ ((F.mono λb o e=>Zg _ e).but hs₁.extBut (Zt _ rfl) rfl 03) hit₁ ht₁ 03 λh₂ he₂=>?_
  simp![Option.isSome_none,lT,if_false];calc Zj<|H h₂ λb o O e=>he₂ b o O<|hs₁.extBut b o O<|Zg _ e
def Pc{x1}(j:aE A s.heap)(m:s.heap.IsList t items) (hn:(fY elts env).length=items.size)(hstar:(fY elts env).findIdx? (·.1)=Ze) (h:∀h',eQ s.heap.objs.size s.heap h'->Zw (Zy prog w) A (uF ((fY elts env).map (·.2)) items.toList) Q E {s with heap:=h'}):Zw (Zy prog w) A (lO (.Tuple elts x1 pos) env<|.ref t) Q E s:=by rw[assign_Tuple];calc Zb<|jI ?_;unfold unpack;rw[hn,hstar];show Zb<|ZT<|Pb j m h
end
abbrev S1:=aA->IH->bM
structure d8(bD:Z4)(fs:Tu)(e:Z4)(h h3:aM):Prop where
 ex:∃oe vs T ts,h.get? e=B oe/\oe.data=.fields vs/\1<vs.size/\h3.get? e=B (eR (·.setIfInBounds 1 (.ref T)) oe)/\T≠e/\h.get? T=Ze/\h3.get? T=B {cls:=.type "traceback",dict:=Ze,data:=.fields ts}/\ts[3]?=B (cA bD)
 slot:∀b o,h.get? b=B o->b≠e->∃sl,h3.get? b=B {o with slots:=sl}
 keep:∀b o,h.get? b=B o->b≠e->b∉fs->h3.get? b=B o
def Av(bD:Z4)(fs:Tu)(e:Z4)(s s1:Zx):Prop:=s1=s\/∃h',s1={s with heap:=h'}/\d8 bD fs e s.heap h'
def JC(V:aF)(X:Cx)(L:aQ)(Y:Tu)(H:Hp)(r:bM)(Q:Flow->Zx->Prop)(E:aH):Prop:=match r with|.next Ui' h'=>∀s' U' H' Y',az V X L Y' Ui' h' U' H' s'->aU Y H Y' H'->Q .next s'|.brk Ui' h'=>∀s' U' H' Y',az V X L Y' Ui' h' U' H' s'->aU Y H Y' H'->Q .brk s'|.cont Ui' h'=>∀s' U' H' Y',az V X L Y' Ui' h' U' H' s'->aU Y H Y' H'->Q .cont s'|.ret v h'=>∀u s' Ui' U' H' Y',az V X L Y' Ui' h' U' H' s'->aU Y H Y' H'->RU X.K Y' H' v u->Q (.ret u) s'|.exc n Ui' h'=>∀pl a s' U' H' Y',az V X (L++pl) Y' Ui' h' U' H' s'->aU Y H Y' H'->Y'[n]?=B a->∀s1,Av X.env.locals (eV X.stack) a s' s1->E (.ref a) s1|.stuck=>False
def JC.mono(k:JC V X L Y H r Q E)(n:aU Y H Y' H'):JC V X L Y' H' r Q E:=by cases r with|next U h=>show λj C D F N n2=>k j C D F N<|n.trans n2|brk U h=>show λj C D F N n2=>k j C D F N<|n.trans n2|cont U h=>show λj C D F N n2=>k j C D F N<|n.trans n2|ret v h=>show λu j I C D F N n2=>k u j I C D F N<|n.trans n2|exc m U h=>show λpl a j C D F N n2=>k pl a j C D F N<|n.trans n2|stuck=>show k
def Aw(V:aF)(X:Cx)(t:Sem Flow)(m:S1):Prop:=∀(L:aQ)(s:Zx)(U:L2.St)(H:Hp)(Y:Tu)(bF:aA)(h:IH)(Q:Flow->Zx->Prop)(E:aH),az V X L Y bF h U H s->JC V X L Y H (m bF h) Q E->Zw (Zy X.prog X.w) X.A t Q E s
abbrev cD(V:aF)(X:Cx)(st:dZ)(m:S1):Prop:=Aw V X (exec st X.env) m
abbrev jD(V:aF)(X:Cx)(sts:Tn)(m:S1):Prop:=Aw V X (execs sts X.env) m
noncomputable def Jw:S1:=λU h=>.next U h
def Jg(a b:S1):S1:=λU h=>match a U h with|.next U' h'=>b U' h'|r=>r
noncomputable def F4:S1:=λU h=>.next U h
def F5:S1:=λU h=>.brk U h
def F6:S1:=λU h=>.cont U h
noncomputable def rS {α:Type}(U:aA)(r:Res α)(k:α->IH->bM):bM:=match r with|.ok a h=>k a h|.exc n h=>.exc n U h|.stuck=>.stuck
def JA(e:E1):S1:=λU h=>rS U (e U h) λ_ h'=>.next U h'
def Jm(e:E1):S1:=λU h=>rS U (e U h) λv h'=>.ret v h'
noncomputable def F9:S1:=λ_ h=>.ret .ag h
def bY(t:T1)(a b:S1):S1:=λU h=>rS U (t U h) λc h'=>if c then a U h' else b U h'
def Jj(i:Nat)(e:E1):S1:=λU h=>rS U (e U h) λv h'=>.next (U.set i<|B v) h'
section
variable{V:aF}{X:Cx}{st:dZ}{rest:Tn}{m m1 m2:S1}{e:Expr}{me:E1}{pos:Pos}
def cQ(p:PX V X R t mm)(N:az V X L Y bF h U H s) (K:JC V X L Y H (rS bF (mm bF h) g) Q E) (step:∀x h1 u s1 H1 C,az V X L C bF h1 U H1 s1->aU Y H C H1->R X.K C H1 x u->JC V X L C H1 (g x h1) Q E->Q1 u s1):Zw (Zy X.prog X.w) X.A t Q1 E s:=by calc p L s U H Y bF h Q1 E N ?_;cases e:mm bF h with|ok v J=>rw[e]at K;show λu j I D F m r=>step v J u j I D F m r<|JC.mono K m|exc n J=>rw[e]at K;show λpl a j I D F m q=>K pl a j U I D F m q j<|.inl rfl|stuck=>rw[e]at K;show K
theorem Pd:jD V X [] Jw:=λ_ s U H Y _ _ _ _ N K=>su<|K s U H Y N .refl
def Pe(h1:cD V X st m1)(J:jD V X rest m2):jD V X (st::rest) (Jg m1 m2):=by intro L s U H Y C h Q E N K;calc wpAny_execs_cons<|h1 L s U H Y C h _ E N ?_;unfold Jg at K;cases e:m1 C h with|next m j=>rw[e]at K;show λD I O P F M=>J L D I O P m j Q E F<|JC.mono K M|brk m j=>rw[e]at K;show K|cont m j=>rw[e]at K;show K|ret v j=>rw[e]at K;show K|exc n m j=>rw[e]at K;show K|stuck=>rw[e]at K;show K
def Pf(h1:cD V X st m1):jD V X [st] m1:=by intro L s U H Y C h Q E N K;calc wpAny_execs_cons<|h1 L s U H Y C h _ E N ?_;cases e:m1 C h with|next m j=>rw[e]at K;show λD I M O F J=>su<|K D I M O F J|brk m j=>rw[e]at K;show K|cont m j=>rw[e]at K;show K|ret v j=>rw[e]at K;show K|exc n m j=>rw[e]at K;show K|stuck=>rw[e]at K;show K
theorem Ph:cD V X (.Pass pos) F4:=λ_ s U H Y _ _ _ _ N K=>wpAny_Pass<|K s U H Y N .refl
theorem Pj:cD V X (.Break pos) F5:=λ_ s U H Y _ _ _ _ N K=>wpAny_Break<|K s U H Y N .refl
theorem Pl:cD V X (.Continue pos) F6:=λ_ s U H Y _ _ _ _ N K=>wpAny_Continue<|K s U H Y N .refl
theorem Pm(D:ah V X e me)(hs:nH e Ze pos.line X.env=pure Zl:=by rfl):cD V X (.Expr e pos) (JA me):=λL s U H Y J h Q E N K=>
 wpAny_Expr_any (cQ D N K λx M u F I m C n1 O j=>j F U I m C .refl) N.inv.quiet hs
theorem Po(F:ah V X e me):cD V X (.Return (B e) pos) (Jm me):=λL s U H Y j h Q E N K=>
 wpAny_Return_some (cQ F N K λx O u I M C D n1 J m=>m u I j U M C D .refl J)
theorem Pp:cD V X (.Return Ze pos) F9:=λL s U H Y j h Q E N K=>wpAny_Return_none<|K .none s j U H Y N .refl #[.ag,rfl,rfl]
theorem Ax{M:T1}(R:gz V X c M)(ha:jD V X a m1)(O:jD V X b m2):cD V X (.If c a b pos) (bY M m1 m2):=λL s U H Y j h Q E N K=>
 wpAny_If (cQ R N K λx C u I J D F n1 P m=>by have S:=P;subst S;cases u with|true=>show ha L I U J D j C Q E F m|false=>show O L I U J D j C Q E F m)
theorem Ay(F:X.N.Nodup)(M:ah V X e me)(Z:X.N[i]?=B x:=by rfl)(S:Loc X.env.scope x:=by assumption)(hs:nH e (B<|.Name x pos') pos.line X.env=pure Zl:=by rfl) (I:X.fn x=Zi\/X.env.scope.names.lookup x=B .local:=by assumption):cD V X (.Assign [.Name x pos'] e pos) (Jj i me):=λL s U H Y W h Q E N K=>
 wpAny_Assign_Name (cQ M N K λv h1 u s1 R J m n1 O D=>by let#[w,j,q]:=O;show YA m.inv F Z S j (λP C=>D P _ R J #[C,m.rel,m.st.set i q] .refl) I) hs
abbrev G1:=IV->aA->IH->bM
def je(V:aF)(X:Cx)(tg:Expr)(g:G1):Prop:=∀(L:aQ)(s:Zx)(U:L2.St)(H:Hp)(Y:Tu)(bF:aA)(h:IH)(v:IV)(u:Zo)(Q:Flow->Zx->Prop)(E:aH),az V X L Y bF h U H s->RU X.K Y H v u->JC V X L Y H (g v bF h) Q E ->Zw (Zy X.prog X.w) X.A (lO tg X.env u) (λ_ s'=>Q .next s') E s
noncomputable def br (i:Nat):G1:=λv U h=>.next (U.set i<|B v) h
def Az(C:X.N.Nodup)(Z:X.N[i]?=B x:=by rfl)(F:Loc X.env.scope x:=by assumption)(D:X.fn x=Zi\/X.env.scope.names.lookup x=B .local:=by assumption):je V X (.Name x pos) (br i):=by intro L s U H Y J h v u Q E N r K;let#[w,j,q]:=r;show wpAny_assign_Name<|YA N.inv C Z F j (λI m=>K I _ H Y #[m,N.rel,N.st.set i q] .refl) D
def kR(V:aF)(X:Cx)(ts:Te)(g:Tw->aA->IH->bM):Prop:=∀(L:aQ)(s:Zx)(U:L2.St)(H:Hp)(Y:Tu)(bF:aA)(h:IH)(vs:Tw)(us:Tv)(Q:Flow->Zx->Prop)(E:aH),az V X L Y bF h U H s->ir X.K Y H vs us->JC V X L Y H (g vs bF h) Q E ->Zw (Zy X.prog X.w) X.A (uF ((fY ts X.env).map (·.2)) us) (λ_ s'=>Q .next s') E s
noncomputable def gN:Tw->aA->IH->bM|[],U,h=>.next U h|_::_,_,_=>.stuck
def gC(g:G1)(r:Tw->aA->IH->bM):Tw->aA->IH->bM
 |v::vs,U,h=>match g v U h with
  |.next U' h'=>r vs U' h'
  |.exc n U' h'=>.exc n U' h'
  |_=>.stuck
 |[],_,_=>.stuck
def Pq:kR V X [] gN:=by intro L s U H Y D h j F Q E N r K;cases j with|nil=>let#[xs,m,q]:=r;have C:=q;subst C;cases m;show assignInOrder_nil<|K s U H Y N .refl|cons v j=>show(K).elim
def Pr(h1:je V X tg g)(J:kR V X ts r) (hs:(fY (tg::ts) X.env).map (·.2)=lO tg X.env::(fY ts X.env).map (·.2):=by rfl):kR V X (tg::ts) (gC g r):=by
 intro L s U H Y I h F us Q E N O K;cases F with|nil=>show(K).elim|cons v F=>
  let#[xs,W,x,xr,e1,q,qs]:=O;subst e1;cases W with|cons r1 S=>rw[hs];calc assignInOrder_cons (h1 L s U H Y I h v _ (λf D=>Zw (Zy X.prog X.w) X.A (uF ((fY ts X.env).map (·.2)) _) (λ_ D=>Q .next D) E D) E N #[x,r1,q] ?_);have C:JC V X L Y H (match g v I h with|.next j m=>r F j m|.exc n j m=>.exc n j m|_=>.stuck) Q E:=K;cases e:g v I h with|next j m=>rw[e]at C;show λD P R Y' Z M=>J L D P R Y' j m F _ Q E Z #[xr,S,aw.mono M _ _ qs]<|JC.mono C M|exc n j m=>rw[e]at C;show C|_=>rw[e]at C;show(C).elim
noncomputable def oB (n:Nat)(g:Tw->aA->IH->bM):G1:=λv U h=>match v with|.tup xs=>if xs.length=n then g xs U h else .stuck|.ref i=>(match h[i]? with|some (.lst xs)=>if xs.length=n then g xs U h else .stuck|_=>.stuck)|_=>.stuck
def Pt(W:X.calm=Zi)(S:kR V X es g)(hn:(fY es X.env).length=n:=by rfl)(D:(fY es X.env).findIdx? (·.1)=Ze:=by rfl):je V X (.Tuple es k pos) (oB n g):=by
 intro L s U H Y R h v u Q E N r K;let#[w,j,q]:=r;cases v with
 |tup xs=>
  let#[a,J,P,sa,m]:=q;subst P;cases j;unfold oB at K;dsimp only at K;split at K
  .rename_i hl;let#[M,C,O,hz]:=N.inv.tuple sa;have l1:=m.length;have l2:=C.length;refine MZ (N.inv.cw W) O (by simp![ZI];lia) D λF I=>?_
   have I1:Inv X L U H {s with heap:=F}:=N.inv.kept (t':=s.toks) λb o e=>I b o (Z1<|Z0 e) e
   show S L _ U H Y R h xs _ Q E #[I1,N.rel,N.st] #[J,by simpa using C,m] K
  .show Zf K
 |ref i=>
  let#[a,P,ha]:=q;subst P;cases j;unfold oB at K;dsimp only at K;cases Z:h[i]? with|none=>rw[Z]at K;show Zf K|some ob=>
   rw[Z]at K;cases ob with
   |lst xs=>
    dsimp only at K;split at K
    .rename_i hl;let#[J,g1,m]:=N.at Z ha;let#[M,C,O,hz]:=N.inv.list<|bU.of g1;have l1:=m.length;have l2:=C.length;refine Pc (N.inv.cw W) O.isList (by simp![ZI];lia) D λF I=>?_
     have I1:Inv X L U H {s with heap:=F}:=N.inv.kept (t':=s.toks) λb o e=>I b o (Z1<|Z0 e) e
     show S L _ U H Y R h xs _ Q E #[I1,N.rel,N.st] #[J,by simpa using C,m] K
    .show Zf K
   |_=>show Zf K
 |_=>show Zf K
def eZ(e:E1)(g:G1):S1:=λU h=>rS U (e U h) λv h'=>g v U h'
theorem Pu(I:ah V X e me)(R:je V X tg g)(hs:swapsWithSole [tg] e pos.line X.env=pure Zl:=by rfl)(C:swappedStores [tg] e X.env=pure Ze:=by rfl) (h1:(fY [tg] X.env).map (·.2)=[lO tg X.env]:=by rfl):cD V X (.Assign [tg] e pos) (eZ me g):=λL s U H Y j h Q E N K=>
 wpAny_Assign_stores (cQ I N K λv J u M P D F n1 O m=>by rw[h1];show R L M U P D j J v u Q E F O m) hs C
end
theorem cy.ok(e:h.get? a=B oe)(c:oe.cls=.ref C)(d:oe.data=.fields vs)(v:vs[1]?=B tv)(D:vs[2]?=B .none)(m:oe.dict=dd):JT P w H h a (cy a C tv dd):=#[#[oe,vs,e,c,d,v,D,m],#[oe,e],λ_ _ ⟨o,E,j,r⟩ k=>#[o,E,k _ j,r]]
theorem cy.get(x:cV P w H h)(e:H a=B (cy a C tv d)):∃oe vs,h.get? a=B oe/\oe.cls=.ref C/\oe.data=.fields vs/\vs[1]?=B tv/\vs[2]?=B .none/\oe.dict=d:=(x a _ e).1
def Ga(o:Obj)(f):(o.mapFields f).dict=o.dict:=by unfold eR;split<;>rfl
def Pw(x:cV P w H h)(e1:H a=B (cy a C tv d))(e2:H a=B (cy a C' tv' d')):d=d':=by let#[o,_,g,_,_,_,_,q]:=cy.get x e1;let#[D,_,j,_,_,_,_,m]:=cy.get x e2;cases g.symm.trans j;show q.symm.trans m
theorem Gb:∀{o:HO},JT P w H h a o->∃u,h.get? a=B u:=λ{o} q=>by cases o with|lst _=>let#[_,_,_,_,e]:=q;show#[_,e]|tup _=>let#[_,_,_,#[_,e,_]]:=q;show#[_,e]|dK _=>let#[_,_,_,_,o,_,_,e,_]:=q;show#[o,e]|dT _=>let#[_,_,_,_,o,_,_,e,_]:=q;show#[o,e]|set _ _=>let#[o,_,_,_,e,_]:=q;show#[o,e]|ins _ _ _=>let#[_,_,_,e,_]:=q;show#[_,e]|own _=>let#[_,e]:=q;show#[_,e]|xd _=>let#[_,#[_,_,_,e,_],_]:=q;show#[_,e]|vL _ _=>let#[_,_,_,e]:=q;show#[_,e]|bh _ _=>let#[e,_]:=q;show#[_,e]|ia _=>show#[_,(q)]|met _ _=>show#[_,(q)]|ext _=>let#[_,#[_,e],_]:=q;show#[_,e]
def AA{h:aM}(e:h.get? T=B oT)(d:oT.data=.fields ts)(q:ts[3]?=B v):(h.update T (eR (·.setIfInBounds 3 v))).get? T=B oT:=by
 have m:ts.setIfInBounds 3 v=ts:=by
  refine Array.ext 03 λi F J=>?_
  rw[Array.getElem_setIfInBounds];split
  .simp_all
  .rfl
 have j:eR (·.setIfInBounds 3 v) oT=oT:=by let#[c,D,E,C]:=oT;subst d;simp![eR,m]
 rw[i5 _ e (by rw[j];show lW d),j]
section
variable{X:Cx}{L:aQ}{U:L2.St}{H:Hp}{s:Zx}{M:Model}{E:aH}{Q:Unit->Zx->Prop}{a C:Z4}{tv:Zo}{d:Td}{h3:aM}{s1:Zx}
structure mX(X:Cx)(H:Hp)(h:aM)(a C:Z4)(d:Td)(T:Z4)(oT:Obj)(h':aM):Prop where
 new:H T=Ze
 ne:T≠a
 fld:∃ts,oT.data=.fields ts/\ts[3]?=B .none
 un:Un (eV X.stack) [] H (upd (upd H T<|.bh oT<|.own 0) a<|cy a C (.ref T) d) h h'
 au:cV X.prog X.w (upd (upd H T<|.bh oT<|.own 0) a<|cy a C (.ref T) d) h'
def AB(I:Inv X L U H s)(hs:X.stack=X.env::X.outer)(hf:X.env.frame=B X.env.locals)(ha:H a=B (cy a C tv d))(ht:il H tv)
  (k:∀h3,d8 X.env.locals (eV X.stack) a s.heap h3->Q () {s with heap:=h3}):Zw M X.A (sx (.ref a) X.env) Q E s:=by
 let#[oe,vs,e1,e2,Z,e4,e5,e6]:=cy.get I.au ha;have P:a∉eV X.stack:=λz=>by rw[I.dB a z]at ha;cases ha
 have fr:=I.ok.frames;have ff:=I.stack;have kT:=(pB.mp e4).1;have go:∀(h:aM){j:Zo}{hn:Bool},(∀b,h.get? b=s.heap.get? b)->Zw M X.A (do let f<-frameOf X.env;let pl<-entryPlaceOf X.env.locals hn;let b<-EntryCells.newEntry j f .none (cA X.env.locals) .none pl;setField (.ref a) 1 b) Q E {s with heap:=h}:=by
  intro h j hn V;have O:=ff.of_keeps λb o q _=>#[o,(V b).trans q,rfl]
  rw[hs]at fr O;refine Zb<|wpAny_frameOf_fun fr O hf λD Y=>?_
  have J:=(Y.2.1 a<|by rw[hs]at P;show P).trans<|(V a).trans e1;refine Zb<|wpAny_entryPlaceOf λpl hpl=>?_
  calc Zb<|j7 ?_<|hpl.sizeOk5 _ _ _ _ _;have t3:([j,hE X.env.locals,dA,cA X.env.locals,dA]++(if pl.isEmpty then fF 6 dA else pl)).toArray[3]?=B (cA X.env.locals):=03;generalize ([j,hE X.env.locals,dA,cA X.env.locals,dA]++(if pl.isEmpty then fF 6 dA else pl)).toArray=S at t3 ⊢;have R:∀b o,D.get? b=B o->b≠D.objs.size:=λb o q=>Z1<|Z0 q
  have nT:=ZP<|R a _ J;have F:∀b o,D.get? b=B o->(D.push {cls:=.type "traceback",dict:=Ze,data:=.fields S}).get? b=B o:=λb o q=>Zg _ q
  have gT2:(D.push {cls:=.type "traceback",dict:=Ze,data:=.fields S}).get? D.objs.size=B {cls:=.type "traceback",dict:=Ze,data:=.fields S}:=Zt D rfl;refine iL (F _ _ J) Z kT<|k _ #[#[oe,vs,D.objs.size,S,e1,Z,kT,i5 _ (F _ _ J)<|lW<|ZR Z _,nT,?_,(Z3 _ _<|ZP nT).trans gT2,t3],λb o q n=>?_,λb o q n m=>?_]
  .cases q:s.heap.get? D.objs.size with|none=>rfl|some o=>let#[sl,z]:=Y.2.2 _ _<|(V _).trans q;show absurd rfl (R _ _ z)
  .let#[sl,z]:=Y.2.2 _ _<|(V b).trans q;show#[sl,(Z3 _ _<|ZP n).trans<|F _ _ z]
  .show(Z3 _ _<|ZP n).trans (F _ _<|(Y.2.1 b<|by rw[hs]at m;show m).trans<|(V b).trans q)
 unfold sx;rw[hf];calc Zb<|fw e1 Z e4 ?_;rcases ht with rfl|⟨T,oT,S,rfl,q1,q2,q3⟩
 .rw[if_neg 01];show go s.heap λ_=>rfl
 .have W:s.heap.get? T=B oT:=(I.au T _ q1).1;calc Zb<|fw W q2 q3 ?_;calc Zb<|iL W q2 (pB.mp q3).1 ?_;refine go _ λb=>?_
  by_cases z:b=T
  .subst z;show(AA W q2 q3).trans W.symm
  .show Z3 _ _<|ZP z
def AD(D:env.frame=B env.locals)(n:d8 env.locals fs a h h3)(q:Q () {s with heap:=h3}):Zw M A (sx (.ref a) env) Q E {s with heap:=h3}:=by let#[#[H,L,T,I,g1,g2,m,j,J,O,F,C],_,_]:=n;unfold sx;rw[D];calc Zb (fw (x:=.ref T) j (ZR g2 _) (by simp[m]) ?_);calc Zb<|fw F rfl C ?_;rw[if_pos 03];show Zj q
def Ge(O:env.frame=B env.locals)(n:d8 env.locals fs a h h3)(k:∀I,d8 env.locals fs a h I->E (.ref a) {s with heap:=I}):cameBackBy M A env E (.ref a) {s with heap:=h3}:=by
 let#[#[Q,L,T,R,g1,g2,F,D,S,U,C,H],P,kp]:=n;calc Zb (fw (x:=.ref T) D (ZR g2 _) (by simp[F]) ?_);rw[O];calc Zb (fw (x:=.ref T) D (ZR g2 _) (by simp[F]) ?_);calc iL C rfl (pB.mp H).1 ?_;have j:∀b o,h3.get? b=B o->(h3.update T (eR (·.setIfInBounds 3 (cA env.locals)))).get? b=B o:=λb o q=>by
  by_cases z:b=T
  .subst z;rw[C]at q;cases q;show AA C rfl H
  .show(Z3 _ _<|ZP z).trans q
 show k _ #[#[Q,L,T,R,g1,g2,F,j _ _ D,S,U,j _ _ C,H],λb o q n=>let ⟨J,z⟩:=P b o q n;#[J,j _ _ z],λb o q n m=>j _ _<|kp b o q n m]
def Gf(I:Inv X L U H s)(ha:H a=B (cy a C tv d))(n:d8 bD (eV X.stack) a s.heap h3)(k:∀T F h',mX X H s.heap a C d T F h'->Q () {s with heap:=h'}):Zw M X.A (sy (.ref a) Ze) Q E {s with heap:=h3}:=by
 let#[#[oe,vs,T,ts,g1,g2,Z,Y,g5,R,g7,g8],S,kp]:=n;let#[oe',vs',x1,x2,x3,x4,x5,x6]:=cy.get I.au ha;rw[g1]at x1;cases x1;rw[g2]at x3;cases x3;have au:=I.au;have j:=I.dB;have hT:H T=Ze:=by cases q:H T with|none=>rfl|some u=>let#[o,z]:=Gb<|au T u q;rw[R]at z;cases z
 have tz:=(pB.mp g8).1;calc Zb (fw (x:=.ref T) Y (ZR g2 _) (by simp[Z]) ?_);rw[if_pos 03];calc iL g7 rfl tz ?_;have W:=(Z3 h3 (eR (·.setIfInBounds 3 ((Ze:Td).elim dA λf=>cA f))) g5).trans Y;have P:=i5 (eR (·.setIfInBounds 3 ((Ze:Td).elim dA λf=>cA f))) g7<|lW<|ZR rfl _;have d7:=ZR (o:={cls:=.type "traceback",dict:=Ze,data:=.fields ts}) rfl (·.setIfInBounds 3 ((Ze:Td).elim dA λf=>cA f));have lt:∀b o,s.heap.get? b=B o->T≠b:=λb o q z=>by rw[z,q]at R;cases R
 have keep:∀b o,s.heap.get? b=B o->b≠a->b∉eV X.stack->(h3.update T (eR (·.setIfInBounds 3 ((Ze:Td).elim dA λf=>cA f)))).get? b=B o:=λb o q n1 n2=>(Z3 _ _<|lt b o q).trans<|kp b o q n1 n2
 have slot:∀b o,s.heap.get? b=B o->b≠a->∃S,(h3.update T (eR (·.setIfInBounds 3 ((Ze:Td).elim dA λf=>cA f)))).get? b=B {o with slots:=S}:=λb o q n1=>let ⟨s',z⟩:=S b o q n1;#[s',(Z3 _ _<|lt b o q).trans z]
 generalize h3.update T (eR (·.setIfInBounds 3 ((Ze:Td).elim dA λf=>cA f)))=h' at W P keep slot;generalize eR (·.setIfInBounds 3 ((Ze:Td).elim dA λf=>cA f)) {cls:=.type "traceback",dict:=Ze,data:=.fields ts}=F at P d7;have na:∀{b:Z4}{u:HO},H b=B u->(∀φ,u≠.ext φ)->b≠a:=λ{b u} q n z=>by subst z;rw[ha]at q;cases q;show n _ rfl
 have V:∀{b:Z4}{u:HO},H b=B u->b≠T:=λ{b u} q z=>by subst z;rw[hT]at q;cases q
 have J:∀{b:Z4}{u:HO},H b=B u->(∀φ,u≠.ext φ)->upd (upd H T<|.bh F<|.own 0) a (cy a C (.ref T) d) b=B u:=λ{b u} q n=>by rw[Jp<|na q n,Jp<|V q];show q
 have fa:a∉eV X.stack:=λz=>by rw[j a z]at ha;cases ha
 refine k T F h' #[hT,g5,#[_,d7,by simp[tz]],#[λb o q n O _=>keep b o q (λz=>by subst z;rw[ha]at n;cases n) O,λb o q _ O _=>slot b o q λz=>fa<|z▸O,λb o q n _=>?_,λb o q _=>?_,λb xs q=>J q nofun,λb o u q=>J q nofun,λb ps q=>#[#[],by rw[J q nofun];simp]],λb u q=>?_]
 .rw[Jp (λz=>by subst z;rw[ha]at n;cases n),Jp λz=>by subst z;rw[R]at q;cases q];show n
 .by_cases z:b=a
  .subst z;show#[_,W]
  .let#[S,w]:=slot b o q z;show#[_,w]
 .by_cases z:b=a
  .subst z;rw[Jx]at q;cases q;show cy.ok W ((pA _ _).trans x2) (ZR g2 _) (by simp[Z]) (by simp_all)<|(Ga _ _).trans x6
  .rw[Jp z]at q;by_cases y:b=T
   .subst y;rw[Jx]at q;cases q;show#[P,#[F,P]]
   .rw[Jp y]at q;refine(au b u q).eS (λc v D p=>?_) (λc p=>J p nofun) λc xs p=>J p nofun
    refine keep c v p ?_ ?_
    .rcases D with rfl|D
     .show z
     .show na D nofun
    .intro m;rcases D with rfl|D
     .rw[j _ m]at q;cases q
     .rw[j _ m]at D;cases D
def Gg(I:Inv X L U H s)(fl:Av X.env.locals (eV X.stack) a s s1)(hs:X.stack=X.env::X.outer)(j:X.env.frame=B X.env.locals)(ha:H a=B (cy a C tv d))(D:il H tv) (k:∀T m h',mX X H s.heap a C d T m h'->Q () {s with heap:=h'}):Zw M X.A (sx (.ref a) X.env) (λ_ s'=>Zw M X.A (sy (.ref a) Ze) Q E s') E s1:=by
 rcases fl with rfl|⟨h',rfl,n⟩
 .show AB I hs j ha D λF n=>Gf I ha n k
 .show AD j n<|Gf I ha n k
def Px(I:Inv X L U H s)(fl:Av X.env.locals (eV X.stack) a s s1)(hs:X.stack=X.env::X.outer)(m:X.env.frame=B X.env.locals)(ha:H a=B (cy a C tv d))(j:il H tv) (k:∀T D h',mX X H s.heap a C d T D h'->Q () {s with heap:=h'}):Zw M X.A (leaving X.env<|.ref a) Q E s1:=by show Zb<|Gg I fl hs m ha j k
end
def d9(P:ZU)(w:bq):pP:=λouter H s E e s'=>∃H',s'.os=s.os/\lY s'.gens/\Un (eV outer) [] H H' s.heap s'.heap/\cV P w H' s'.heap/\E e Ze H'
theorem Un.tail(a:Un fs [] H H1 h h1)(b:Un (bD::fs) [] H1 H2 h1 J)(n:h.get? bD=Ze):Un fs [] H H2 h J where
 keep:=λc o q m C _=>b.keep c o (a.keep c o q m C 03) (a.free c o q m 03) (λz=>(ZA.mp z).elim (λy=>by subst y;rw[n]at q;cases q) C) 03
 slot:=λc o q m C _=>by let#[M,j]:=a.slot c o q m C 03;let#[F,D]:=b.any j (a.free c o q m 03) 03;show#[F,D]
 free:=λc o q m _=>by let#[E,j]:=a.there c o q 03;show b.free c E j (a.free c o q m 03) 03
 there:=λc o q _=>by let#[E,j]:=a.there c o q 03;show b.there c E j 03
 b9:=λc xs q=>b.b9 c xs<|a.b9 c xs q
 aO:=λc o u q=>b.aO c o u<|a.aO c o u q
 cB:=λc ps q=>by let#[I,j]:=a.cB c ps q;let#[L,D]:=b.cB c _ j;show#[I++L,by rw[D,zj]]
section
variable{X:Cx}{L:aQ}{U:L2.St}{H:Hp}{s:Zx}{k:Nat}{f C:Z4}{fd:gY}{ps:Tk}{sp:Sp}{aL:Uc}{ds:Tv}{E:XK}{Q:VK}{us:Tv}{vs:Uc}{W:aH}
def AE(I:Inv X L U H s)(h:d9 X.prog X.w X.stack H s E e s'):∃H',Inv X L U H' s'/\E e Ze H':=by let#[H',os,bare,un,au,q]:=h;show#[H',I.tj os un au bare λb z=>absurd z 03,q]
structure Roo(κ:Bool)(k:Nat)(X:Cx):Prop where
 r:bj κ k X.A
 c:X.calm=Zi
theorem Roo.mono(r:Roo κ k X)(h:j<=k):Roo κ j X:=#[r.r.mono h,r.c]
def Py(F:bx X.prog X.w X.K X.mg X.base (d9 X.prog X.w) κ k f fd ps sp)(J:bj κ k X.A)(M:Ql X.A H)(O:JO X.K fd ps ds)(hd:Vals aL ds)(I:Inv X L U H s)(r:Vals vs us)(h:sp (vs++aL) H Q E) (D:∀e s' H',Inv X L U H' s'->E e Ze H'->W e s'):Zw (Zy X.prog X.w) X.A (call (.ref f) us) (EP X L U Q) W s:=by
 have m:Vals (vs++aL) (us++ds):=r.append hd;have R:=m.length;have P:=F.len _ _ _ _ h;refine oX<|oW (F.run _ _ _ _ #[us,[]] _ _ _ _ J (I.pQ M) (O s us I.cF 05) m h) λj s' q=>?_
 match j,q with|.error e,q=>let#[H',C,z]:=AE I q;show D e s' H' C z|.ok (.ret u),q=>show I.after q|.ok .next,q=>show gh q|.ok .brk,q=>show gh q|.ok .cont,q=>show gh q
def Pz(M:Mk X.K C f)(F:bx X.prog X.w X.K X.mg X.base (d9 X.prog X.w) κ k f fd ps sp)(Z:bj κ (k+1) X.A)(hc:Ql X.A H)(O:JO X.K fd ps ds)(hd:Vals aL ds)(I:Inv X L U H s)(r:Vals vs us) (h:∀x dx,H x=Ze->H dx=Ze->dx≠x->sp (.ref x::(vs++aL)) (upd (upd H dx<|.own x) x<|.ins C dx []) (λv H2=>v=.ag/\Q (.ref x) H2) E) (hx:∀e s' H',Inv X L U H' s'->E e Ze H'->W e s'):Zw (Zy X.prog X.w) X.A (call (.ref C) us) (EP X L U Q) W s:=by
 have z0:=s.heap.objs.size;have D:=h (s.heap.objs.size+1) s.heap.objs.size (I.au.fresh<|hb _) (I.au.fresh<|Zk _)<|Z1<|ZX _;have j:=Inv.made (C:=C) I;have R:Vals (bB.ref (s.heap.objs.size+1)::(vs++aL)) (hE (s.heap.objs.size+1)::(us++ds)):=.cons rfl (r.append hd);have P:=R.length;have J:=F.len _ _ _ _ D;have hl:(hE (s.heap.objs.size+1)::us++ds).length=ps.length:=by rw[iQ];show gf (Zc (Zn P.symm)<|Zn J)<|Zc (Zn J.symm)<|Zn P
 calc oX (NW (f:=f) I.cF M.makes M.init (beq_iff_eq.mp M.fn)<|oW (F.run _ _ _ _ #[.ref (s.heap.objs.size+1)::us,[]] _ _ _ _ (Z.make C us []) ((j.pQ<|hc.mono λb o u q=>by rw[Jp<|QN q<|I.au.fresh<|hb _,Jp<|QN q<|I.au.fresh<|Zk _];show q).make C us []) (O _ (.ref (s.heap.objs.size+1)::us) j.cF hl) R D) λm s' q=>?_);match m,q with|.error e,q=>let#[H',V,z]:=AE j q;show hx e s' H' V z|.ok (.ret u),q=>let#[v,H',S,Y,ev,q3]:=j.after q;subst ev;show#[Y,#[bB.ref<|s.heap.objs.size+1,H',S,rfl,q3]]|.ok .next,q=>show gh q|.ok .brk,q=>show gh q|.ok .cont,q=>show gh q
end
structure jE where
 xs:Tw
 aZ:IH->Prop
open Classical in
def JS(aZ:IH->Prop)(g:G1)(b:S1):Tw->aA->IH->bM|[],U,h=>if aZ h then .next U h else .stuck|x::xs,U,h=>if aZ h then(match g x U h with|.next W1 h1=>(match b W1 h1 with|.next W2 J=>JS aZ g b xs W2 J|.cont W2 J=>JS aZ g b xs W2 J|.brk W2 J=>.next W2 J|.ret v J=>.ret v J|.exc n W2 J=>(match J[n]? with|some (.exc _ _)=>.exc n W2 J|_=>.stuck)|_=>.stuck)|_=>.stuck)else .stuck
abbrev I1:=aA->IH->Res jE
def cz(it:I1)(g:G1)(b:S1):S1:=λU h=>rS U (it U h) λbC h'=>JS bC.aZ g b bC.xs U h'
structure gB(V:aF)(K:W.Frag)(Y:Tu)(H₀:Hp)(bC:It)(I:jE):Prop where
 go:∀(k:Nat)(x:IV)(h:IH)(H:Hp)(Y':Tu),aU Y H₀ Y' H->Rel V K Y' h H->I.aZ h->I.xs[k]?=B x ->bC.go k H/\∀y H',bC.zU k H y H'->Rel V K Y' h H'/\aU Y' H Y' H'/\RV K Y' H' x y
 stop:∀(k:Nat)(h:IH)(H:Hp)(Y':Tu),aU Y H₀ Y' H->Rel V K Y' h H->I.aZ h->I.xs.length<=k->bC.stop k H
def Rel.get{K:W.Frag}(R:Rel V K Y h H){i:Nat}(e:h[i]?=B o)(ha:Y[i]?=B a):RO V K Y H a o:=by let#[b,j,r]:=R.at_ i o e;rw[ha]at j;cases j;show r
def Gh(V:aF)(X:Cx)(tg:Expr)(L:aQ)(Y':Tu)(I:jE)(itv:Zo)(s2:Zx)(H':Hp):Prop:=∃(it:Z4)(fp:Tu)(tn:Nat->aM->Prop)(bC:It),itv=.ref it/\Turn X.prog X.w X.K tg bC fp it tn/\tn 0 s2.heap/\(∀b∈fp,aB X L H' b)/\gB V X.K Y' H' bC I
def jf(V:aF)(X:Cx)(tg iter:Expr)(m:I1):Prop:=∀(L:aQ)(s:Zx)(U:L2.St)(H:Hp)(Y:Tu)(bF:aA)(h:IH)(Q:aH)(E:aH),az V X L Y bF h U H s ->(match m bF h with|.ok I h'=>∀itv s' H' Y',az V X L Y' bF h' U H' s'->aU Y H Y' H'->Gh V X tg L Y' I itv s' H'->Q itv s'|.exc n h'=>∀pl a s' H' Y',az V X (L++pl) Y' bF h' U H' s'->aU Y H Y' H'->Y'[n]?=B a->E (.ref a) s'|.stuck=>False) ->
  Zw (Zy X.prog X.w) X.A (a0 iter X.env) (λv s1=>Zw (Zy X.prog X.w) X.A (ke v) Q E s1) E s
section
variable{V:aF}{X:Cx}
theorem mY(h:Zw M A t Q (λ_ _=>False) s):Zw M A t Q E s:=c6 h (λ_ _ x=>x) λ_ _ z=>z.elim
theorem az.pins{L:aQ}(N:az V X (L++pl) Y bF h U H s):az V X L Y bF h U H s:=#[N.inv.ig,N.rel,N.st]
def PA(hc:X.calm=Zi)(hst:X.stack=X.env::X.outer)(hf:X.env.frame=B X.env.locals)(Z:jf V X tg iter mi)(hg:je V X tg g)(O:jD V X body mb)
  (hs:∀x,si iter X.env x=pure x:=by intro _;rfl):cD V X (.For tg iter body [] pos) (cz mi g mb):=by
 intro L s U H Y bF h Q E N K;calc wpAny_For (Z L s U H Y bF h _ E N ?_) hs;unfold cz at K;cases e0:mi bF h with|exc n h'=>rw[e0]at K;show λpl a s' F Y' N' n' q=>K pl a s' U F Y' N' n' q s'<|.inl rfl|stuck=>rw[e0]at K;show K|ok I h'=>
  rw[e0]at K;intro itv s2 H2 U2 N2 n2 R;let#[it,fp,tn,bC,e,T,st2,f2,OK]:=R;subst e;have stat:∀{F:Hp},(∀b∈fp,F b=Ze)->∀b∈fp,aB X L F b:=λhn b O=>#[hn b O,(f2 b O).2]
  have K2:=JC.mono (r:=JS I.aZ g mb I.xs bF h') K n2;refine codeAny_forLoop_any (λn s'=>∃k J Uk hk U' F,az V X L J Uk hk U' F s'/\aU U2 H2 J F/\tn k s'.heap/\(∀b∈fp,F b=Ze)/\n=I.xs.length-k/\k<=I.xs.length/\JC V X L J F (JS I.aZ g mb (I.xs.drop k) Uk hk) Q E) ?_ I.xs.length
   #[0,U2,bF,h',U,H2,N2,.refl,st2,λb O=>(f2 b O).1,03,ZF _,by simpa using K2]
  rintro n s3 ⟨k,J,Uk,hk,W3,H3,N3,n3,st3,fr3,rfl,hkl,j⟩;by_cases hlt:k<I.xs.length
  ·-- a turn
   have hd:=pb hlt;rw[hd]at j;unfold JS at j;split at j
   .rename_i hck;let#[go,yl]:=OK.go k I.xs[k] hk H3 J n3 N3.rel hck<|Zd hlt;refine mY<|rT (T.item X rfl rfl rfl hc k L s3 W3 H3 (λ_ _=>False) N3.inv (stat fr3) st3 go) λr s4 ⟨u,hr,h4⟩=>?_
    subst hr;refine mY<|rT h4 λ_ s5 ⟨x,H5,I5,r5,y5,st5,fr5⟩=>?_
    let#[R5,n5,q5]:=yl x H5 y5;have I5':=I5.pinned (stat fr5)<|T.obj _ _ st5;have N5:az V X (L++QO fp s5.heap) J Uk hk W3 H5 s5:=#[I5',R5,N3.st.mono n5];cases eg:g I.xs[k] Uk hk with
    |next Ug hgg=>
     rw[eg]at j;dsimp only at j;calc mY<|hg _ s5 W3 H5 J Uk hk _ u (λ_ s6=>Zw (Zy X.prog X.w) X.A (execs body X.env) _ _ s6) (λ_ _=>False) N5 #[x,r5,q5] ?_;rw[eg];intro s6 W6 H6 U6 N6 n6;calc O _ s6 W6 H6 U6 Ug hgg _ _ N6 ?_;have again:∀{U7:L2.St}{W:Hp}{P:Zx}{D:aA}{h7:IH}{S:Tu},az V X (L++QO fp s5.heap) S D h7 U7 W P->aU U6 H6 S W->JC V X L J H3 (JS I.aZ g mb (I.xs.drop<|k+1) D h7) Q E ->
       ∃m,m<I.xs.length-k/\∃k J Uk hk U' F,az V X L J Uk hk U' F P/\aU U2 H2 J F/\tn k P.heap/\(∀b∈fp,F b=Ze)/\m=I.xs.length-k/\k<=I.xs.length/\JC V X L J F (JS I.aZ g mb (I.xs.drop k) Uk hk) Q E:=
      λ{U7 W P D h7 S} M n7 K7=>by have nn:=(n5.trans n6).trans n7;calc#[I.xs.length-(k+1),sH _ _ 06,k+1,S,D,h7,U7,W,M.pins,n3.trans nn,T.keep _ _ _ st5 λb O o e=>(M.inv.pin (b,o)<|Zr _<|Zr _<|Yz O e).1,λb O=>?_,rfl,hlt,K7.mono nn];let#[o,e,d]:=T.obj _ _ st5 b O;show(M.inv.pin (b,o)<|Zr _<|Zr _<|Yz O e).2.1
     cases eb:mb Ug hgg with
     |next D h7=>rw[eb]at j;show λP U7 W S M n7=>again M n7 j
     |cont D h7=>rw[eb]at j;show λP U7 W S M n7=>again M n7 j
     |brk D h7=>rw[eb]at j;show λP U7 W S M n7=>j P U7 W S M.pins<|(n5.trans n6).trans n7
     |ret v h7=>rw[eb]at j;show λu P D U7 W S M n7 r=>j u P D U7 W S M.pins ((n5.trans n6).trans n7) r
     |exc n D h7=>
      rw[eb]at j;dsimp only at j;cases hj:h7[n]? with|none=>rw[hj]at j;show(j).elim|some ob=>
       cases ob with
       |exc c fs=>
        rw[hj]at j;intro pl a P U7 W S M n7 q s8 fl;let#[C,tv,d,fe,hC,ha,ht]:=M.rel.get hj q;have back:∀h8,d8 X.env.locals (eV X.stack) a P.heap h8->cameBackBy (Zy X.prog X.w) X.A X.env E (.ref a) {P with heap:=h8}:=λh8 n8=>
         Ge hf n8 λh9 n9=>j (QO fp s5.heap++pl) a P U7 W S (by simp_all) ((n5.trans n6).trans n7) q _<|.inr #[h9,rfl,n9]
        rcases fl with rfl|⟨h8,rfl,n8⟩
        .show AB M.inv hst hf ha ht back
        .show AD hf n8<|back h8 n8
       |_=>rw[hj]at j;show(j).elim
     |stuck=>rw[eb]at j;show(j).elim
    |_=>rw[eg]at j;show(j).elim
   .show(j).elim
  .have hke:I.xs.drop k=[]:=yP<|ZO hlt;rw[hke]at j;unfold JS at j;split at j
   .rename_i hck;have stop:=OK.stop k hk H3 J n3 N3.rel hck<|ZO hlt;refine mY<|rT (T.done X rfl rfl rfl hc k L s3 W3 H3 (λ_ _=>False) N3.inv (stat fr3) st3 stop) λr s4 ⟨hr,I4⟩=>?_
    subst hr;show su<|j s4 W3 H3 J #[I4,N3.rel,N3.st] .refl
   .show(j).elim
noncomputable def iA:IV->IH->Res jE
 |.ref i,h=>match h[i]? with
  |some (.lst xs)=>.ok #[xs,λh'=>h'[i]?=B (.lst xs)] h
  |_=>.stuck
 |.bX xs,h=>.ok #[xs,λ_=>True] h
 |.tup xs,h=>.ok #[xs,λ_=>True] h
 |_,_=>.stuck
def kU(e:E1):I1:=λU h=>(e U h).bind iA
variable{tg:Expr}
def PB{i:Nat}(ha:Y[i]?=B a):gB V X.K Y H₀ (tq X.K a) #[xs,λh'=>h'[i]?=B (.lst xs)]:=by
 refine#[λk x h H L E R j I=>?_,λk h H L E R j I=>?_]
 .let#[m,C,F]:=R.get j<|E.at ha;let#[v,J,M]:=F.get I;calc#[#[m,v,bU.of C,J],λy O D=>?_];let#[rfl,D]:=D;have:=D m<|bU.of C;rw[J]at this;cases this;show#[R,.refl,M]
 .let#[m,C,F]:=R.get j<|E.at ha;show#[m,bU.of C,by rw[F.length];show I]
def PC(sa:pU X.K H₀ a vs)(E:aw X.K Y H₀ xs vs):gB V X.K Y H₀ (tq X.K a) #[xs,λ_=>True]:=by
 refine#[λk x h H I j R m D=>?_,λk h H I j R m D=>?_]
 .let#[v,F,J]:=E.get D;have sq:=(j.ext.Am sa).sq;calc#[#[vs,v,sq,F],λy L C=>?_];let#[rfl,C]:=C;have:=C vs sq;rw[F]at this;cases this;show#[R,.refl,RV.mono j _ _ J]
 .show#[vs,(j.ext.Am sa).sq,by rw[E.length];show D]
def PD(sa:d4 X.K H₀ a vs)(E:aw X.K Y H₀ xs vs):gB V X.K Y H₀ (zV X.K a) #[xs,λ_=>True]:=by
 refine#[λk x h H I j R m D=>?_,λk h H I j R m D=>?_]
 .let#[v,F,J]:=E.get D;have sq:=j.ext.tE sa;calc#[#[vs,v,sq,F],λy L C=>?_];let#[rfl,C]:=C;have:=C vs sq;rw[F]at this;cases this;show#[R,.refl,RV.mono j _ _ J]
 .show#[vs,j.ext.tE sa,by rw[E.length];show D]
def AF(hl:ah V X l ml):jf V X tg l (kU ml):=by
 intro L s U H Y R h Q E N K;calc hl L s U H Y R h _ E N ?_;unfold kU at K;cases J:ml R h with|exc n S=>rw[J]at K;show K|stuck=>rw[J]at K;show K|ok v S=>
  rw[J]at K;intro u m I M j n1 r1;let#[w,C,q]:=r1;have fresh:∀b∈[m.heap.objs.size],aB X L I b:=λb O=>by
   have e:b=m.heap.objs.size:=by simpa using O
   subst e;show j.inv.df (Zk _)<|j.inv.au.fresh<|Zk _
  cases v with
  |ref i=>
   let#[a,D,ha]:=q;subst D;cases C;cases Z:S[i]? with|none=>simp![Res.bind,iA,Z]at K|some o=>cases o with|lst xs=>simp![Res.bind,iA,Z]at K;let#[vs,D,r1]:=j.at Z ha;let#[F,rv,p,W]:=j.inv.list<|bU.of D;calc nA p.isList<|K _ _ I M #[j.inv.kept λb o e=>Zg _ e,j.rel,j.st] n1 ?_;show#[m.heap.objs.size,[m.heap.objs.size],_,tq X.K a,rfl,Ff a _,#[_,Zt _ rfl,rfl,rfl],fresh,PB ha]|_=>simp![Res.bind,iA,Z]at K
  |bX xs=>let#[a,vs,D,sa,P]:=q;subst D;cases C;let#[F,rv,p,W]:=j.inv.list sa.sq;calc nA p.isList<|K _ _ I M #[j.inv.kept λb o e=>Zg _ e,j.rel,j.st] n1 ?_;show#[m.heap.objs.size,[m.heap.objs.size],_,tq X.K a,rfl,Ff a _,#[_,Zt _ rfl,rfl,rfl],fresh,PC sa P]
  |tup xs=>let#[a,vs,D,sa,P]:=q;subst D;cases C;let#[F,rv,p,W]:=j.inv.tuple sa;calc uw (p)<|K _ _ I M #[j.inv.kept λb o e=>Zg _ e,j.rel,j.st] n1 ?_;show#[m.heap.objs.size,[m.heap.objs.size],_,zV X.K a,rfl,Nv a _,#[_,Zt _ rfl,rfl,rfl],fresh,PD sa P]
  |_=>simp![Res.bind,iA]at K
noncomputable def aN (lo Z:Int):Tw:=(ZK (Z-lo).toNat).map λk=>.int<|lo+(k:Nat)
def JX:Tw->IH->Res jE|[.int j],h=>if -(2^62)<=j/\j<2^62 then .ok #[aN 0 j,λ_=>True] h else .stuck|_,_=>.stuck
def VB:Tw->IH->Res jE|[.int i,.int j],h=>if -(2^62)<=i/\i<2^62/\ -(2^62)<=j/\j<2^62 then .ok #[aN i j,λ_=>True] h else .stuck|_,_=>.stuck
def PF(m:¬ ∃i j,vs=[.int i,.int j]):VB vs h=.stuck:=by
 unfold VB;split
 .show absurd #[_,_,rfl] m
 .rfl
def cT(f:Tw->IH->Res jE)(a:A1):I1:=λU h=>(a U h).bind f
def PG{lo Z:Int}:gB V X.K Y H₀ (vO lo (Z-lo).toNat) #[aN lo Z,λ_=>True]:=by
 refine#[λk x h H E D R m j=>?_,λk h H E D R m j=>?_]
 .have C:k<(Z-lo).toNat:=by have:=(Zu.mp j).1;simpa[aN]using this
  calc#[C,λy I F=>?_];let#[rfl,rfl]:=F;simp![aN,Z5,u7 C]at j;cases j;show#[R,.refl,rfl]
 .have:(aN lo Z).length=(Z-lo).toNat:=by simp[aN]
  rw[<-this];show j
def Gi{lo Z:Int}(N:az V X L Y bF h U H s)
  (h1: -(2^62)<=lo)(J:lo<2^62)(h3: -(2^62)<=Z)(I:Z<2^62)
  (K:∀j s' H' Y',az V X L Y' bF h U H' s'->aU Y H Y' H'->Gh V X tg L Y' #[aN lo Z,λ_=>True] j s' H'->Q j s'):
  Zw (Zy X.prog X.w) X.A (ke<|.ref s.heap.objs.size) Q E {s with heap:=s.heap.push {cls:=.type "range",data:=.fields (ba [.int lo t,.int Z u,.int 1 v])},toks:=tk}:=by
 have:=Nx (X:=X) (tg:=tg) (E:=E) (R:=λm H'=>m=vO lo (Z-lo).toNat/\H'=H) (t:=t) (u:=u) (v:=v) (tk:=tk) N.inv h1 J h3 I #[rfl,rfl];refine c6 this (λj s' D=>?_) λ_ _ z=>z
 let#[it,fp,F,m,H',e,C,T,st,f,rfl,rfl]:=D;show K j s' _ Y #[C,N.rel,N.st] .refl #[it,fp,F,_,e,T,st,f,PG]
def PH(W:Gl X "range")(hm:X.mg "range"=Ze)(ha:dG V X [a] ma)(hs:ZH [a] X.env=[(Zl,a0 a X.env)]:=by rfl):jf V X tg (.Call (.Name "range" p) [a] [] pos) (cT JX ma):=by
 intro L s U H Y D h Q E N K;calc Call_<|Qj N.inv W hm boot_range<|om ?_ hs rfl;calc ha pos L s U H Y D h _ E N ?_;unfold cT at K;cases C:ma D h with|exc n J=>rw[C]at K;show K|stuck=>rw[C]at K;show K|ok vs J=>
  rw[C]at K;intro us s1 H1 U1 M n1 r1;let#[xs,rv,qs]:=r1;match vs,K with
  |[.int j],K=>
   let#[w,r,e1,q,Z]:=qs;have P:r=[]:=Z;subst e1 P;have e3:w=.int j:=q;subst e3;cases rv with|cons r S=>
    cases S;let#[t,rfl]:=r;simp![Res.bind,JX]at K;by_cases O: -(2^62)<=j/\j<2^62
    .rw[if_pos O]at K;show call_range_1<|Gi M (og _) (og _) O.1 O.2 λm F I Y' N' n' R=>K m F I Y' N' (n1.trans n') R
    .lia
  |[],K=>show Zf K
  |.ag::_,K=>show Zf K
  |.bl _::_,K=>show Zf K
  |.str _::_,K=>show Zf K
  |.tup _::_,K=>show Zf K
  |.bX _::_,K=>show Zf K
  |.ref _::_,K=>show Zf K
  |.int _::_::_,K=>show Zf K
def PJ(hg:Gl X "range")(hm:X.mg "range"=Ze)(ha:dG V X [a,b] ma)(hs:ZH [a,b] X.env=[(Zl,a0 a X.env),(Zl,a0 b X.env)]:=by rfl)(m:ZH [b] X.env=[(Zl,a0 b X.env)]:=by rfl):jf V X tg (.Call (.Name "range" p) [a,b] [] pos) (cT VB ma):=by
 intro L s U H Y M h Q E N K;calc Call_ (Qj N.inv hg hm boot_range<|om ?_ (by rw[hs,m])<|by rw[m];rfl);calc ha pos L s U H Y M h _ E N ?_;unfold cT at K;cases D:ma M h with|exc n Z=>rw[D]at K;show K|stuck=>rw[D]at K;show K|ok vs Z=>
  rw[D]at K;intro us s1 H1 U1 N1 n1 r1;let#[xs,rv,qs]:=r1;by_cases P:∃i j,vs=[.int i,.int j]
  .let#[i,j,rfl]:=P;let#[w,r,e1,q,w',I,J,q',q2]:=qs;have e2:I=[]:=q2;subst e1 J e2;have e3:w=.int i:=q;have e4:w'=.int j:=q';subst e3 e4;cases rv with|cons r F=>
    cases F with|cons I F=>
     cases F;let#[t,rfl]:=r;let#[t',rfl]:=I;simp![Res.bind,VB]at K;by_cases O: -(2^62)<=i/\i<2^62/\ -(2^62)<=j/\j<2^62
     .rw[if_pos O]at K;show call_range_2<|Gi N1 O.1 O.2.1 O.2.2.1 O.2.2.2 λC S W Y' N' n' R=>K C S W Y' N' (n1.trans n') R
     .rw[if_neg O]at K;show K.elim
  .simp only[Res.bind,PF P]at K
end
end L3
namespace L3
open PySem PySem.Spec PySem.Calls PyProof.Rows L2
section
variable{prog:ZU}{w:bq}{A:bP}{E:aH}{s:Zx}{K:W.Frag}{x D:Z4}{ox:Obj}
open PySem.W PySem.Builtin PySem.Builtin.ObjectAttr PySem.Builtin.Getset_descriptor in
def PK{tp:Zo}(X:K.In s.heap)(hx:s.heap.get? x=B ox)(hcl:ox.cls=.ref D)(hm:mroIn K D (.type "object")=B Zi)(k:R (.ok<|.ret<|.ref D) s):iN (Zy prog w) A (.call (.builtin "getset_descriptor.__get__") #[[.builtin "object.__class__",.ref x,tp],[]]) R s:=by
 let#[hh,g,d,t,os]:=s;have L0:Looks (Zy prog w) hh (lP<|.ref x) (.ref D):=hcl▸(Looks.ld hx).andThen .now;have L5:=looks_mroIn (M:=Zy prog w) X hm;have sl:=KF.slot_gs;calc qJ sl.plain KF.entry_gs<|sl.check _ _ _ _ _ _ _ _ KF.type_class (KF.args_gs _ _ _) ?_;unfold dz.«getset_descriptor.__get__»;unfold descrGet;rw[dga_obj];apply Zb;apply Zj;unfold descrGetter descrCheckInstance;unfold descrNameAndClass isInstance;simp![KF.owner_class];repeat lk
 have quiet:=vG (id:="object.__class__") #[[.ref x],[]]<|by decide +kernel
 calc#[quiet,iK KF.entry_class ?_];unfold dz.«object.__class__»;unfold shownTypeOf;repeat lk
 show k
def PL(X:K.In s.heap)(m:s.heap.get? x=B ox)(j:ox.cls=.ref D)(I:W.findIn K (.ref D) "__class__"=B (B<|.builtin "object.__class__"))(hm:W.mroIn K D (.type "object")=B Zi) (O:Q (.done<|.ret<|.ref D) s):Zw (Zy prog w) A (dz.«object.__getattribute__» #[[.ref x,.str "__class__" tk],[]]) Q E s:=by
 let#[J,g,d,t,os]:=s;have C:W.Looks (Zy prog w) J (lP<|.ref x) (.ref D):=j▸(W.Looks.ld m).andThen .now;have H:=W.looks_findIn (M:=Zy prog w) X I;have R:=F.typeOf_object_class;have L:=F.slot_gs_get.lookup;have P:=F.slot_gs_set.lookup;repeat (any_goals (first|assumption|with_reducible calc C.at ?_|with_reducible calc H.at ?_|wp_step))
 calc PK X m j hm ?_;repeat (any_goals (first|assumption|wp_step))
def Gj(X:K.In s.heap)(L:s.heap.get? x=B ox)(j:ox.cls=.ref D)(O:W.mroIn K D (.type "BaseException")=B Zi)(H:Q () s):Zw M A (checkBuiltinCall "BaseException.__getattribute__" #[[.ref x,v],[]]) Q E s:=by
 let#[I,g,d,t,os]:=s;have C:W.Looks M I (lP<|.ref x) (.ref D):=j▸(W.Looks.ld L).andThen .now;have m:=W.looks_mroIn (M:=M) X O;have P:builtinKind "BaseException.__getattribute__"=B .slot:=by decide +kernel
 have J:splitId "BaseException.__getattribute__"=B ("BaseException","__getattribute__"):=by decide +kernel
 have R:=F.args_bexc_ga (.ref x) v;simp![checkBuiltinCall,J];calc Zb ?_;unfold isInstance;repeat (first|with_reducible calc C.at ?_|with_reducible calc m.at ?_|wp_step)
 show H
def PM(X:K.In s.heap)(m:s.heap.get? x=B ox)(j:ox.cls=.ref D)(L:W.findIn K (.ref D) "__getattribute__"=B (B<|.builtin "BaseException.__getattribute__"))(O:W.mroIn K D (.type "BaseException")=B Zi)(hn:W.findIn K (.ref D) "__getattr__"=B Ze) (J:W.findIn K (.ref D) "__class__"=B (B<|.builtin "object.__class__"))(hm:W.mroIn K D (.type "object")=B Zi)(S:Q (.ref D) s):Zw (Zy prog w) A (getAttrBy (.ref x) (.str "__class__" tk) Zl) Q E s:=by
 let#[P,g,d,t,os]:=s;have H:W.Looks (Zy prog w) P (lP<|.ref x) (.ref D):=j▸(W.Looks.ld m).andThen .now;have C:=W.looks_findIn (M:=Zy prog w) X L;have I:=W.looks_findIn (M:=Zy prog w) X hn;have U:=F.attr_ValueError.ga.bind<|.ref x;have R:(sX "BaseException.__getattribute__"==sX "object.__getattribute__")=Zl:=by decide +kernel
 repeat (any_goals (first|assumption|with_reducible calc H.at ?_|with_reducible calc C.at ?_|with_reducible calc I.at ?_|wp_step))
 calc qJ F.attr_ValueError.ga.plain F.entry_bexc_ga<|Gj X m j O<|PL X m j J hm ?_;repeat (any_goals (first|assumption|wp_step))
def PN(X:K.In s.heap)(H:s.heap.get? x=B ox)(j:ox.cls=.ref D)(F:W.findIn K (.ref D) "__getattribute__"=B (B<|.builtin "BaseException.__getattribute__"))(O:W.mroIn K D (.type "BaseException")=B Zi)(hn:W.findIn K (.ref D) "__getattr__"=B Ze) (C:W.findIn K (.ref D) "__class__"=B (B<|.builtin "object.__class__"))(hm:W.mroIn K D (.type "object")=B Zi)(m:Q (B<|.ref D) {s with toks:=s.toks+1}):Zw (Zy prog w) A (getAttr? (.ref x) "__class__") Q E s:=by let#[I,g,d,t,os]:=s;unfold getAttr? getAttrBy?;calc Zb<|wpAny_mkText<|Zb<|nD<|PM X H j F O hn C hm ?_;show Zj m
end
structure gF(K:W.Frag)(C:Z4):Prop where
 ga:W.findIn K (.ref C) "__getattribute__"=B (B<|.builtin "BaseException.__getattribute__")
 mb:W.mroIn K C (.type "BaseException")=B Zi
 gn:W.findIn K (.ref C) "__getattr__"=B Ze
 ca:W.findIn K (.ref C) "__class__"=B (B<|.builtin "object.__class__")
 mo:W.mroIn K C (.type "object")=B Zi
 hd:W.hasDictIn K C=Zi
def gF.at_{K:W.Frag}(e:gF K C):∃c d cd sl,K.lookup C=B #[c,d,.cls cd,sl]:=by
 let#[cd,j,_]:=W.any_some e.hd;unfold W.clsIn at j;split at j;case h_2=>cases j
 rename_i c d m sl D;show#[c,d,m,sl,D]
theorem Gk{K:W.Frag}{x D:Z4}(e:gF K D):W.KitX K (.ref x) (.ref D) (λh=>∃ox,h.get? x=B ox/\ox.cls=.ref D) where
 ty:=λ_ _ _ ⟨ox,E,C⟩=>C▸(W.Looks.ld E).andThen .now
 it:=λ_ _ X _=>by let#[c,d,cd,F,m]:=e.at_;intro Q L M J kp q;unfold isType;unfold loadHead;show Zb<|yG (kp _ _<|X D _ m)<|Zj q
 ne:=λh P O H n F X j=>by let#[c,d,cd,I,m]:=e.at_;rw[rC];intro q;cases (Value.ref.inj<|beq_iff_eq.mp q);have z:=(X D _ m).symm.trans j;cases z
 ca:=λX ⟨ox,E,C⟩ k=>PN X E C e.ga e.mb e.gn e.ca e.mo k
end L3
namespace L3
open PySem PySem.Spec PyProof.Rows L2
noncomputable def XG (n:Nat)(vs:Tw):aA:=vs.map B++fF (n-vs.length) Ze
noncomputable def bM.fin (r:bM):Res IV:=match r with|.next _ h'=>.ok .ag h'|.ret v h'=>.ok v h'|.exc n _ h'=>(match h'[n]? with|some (.exc _ _)=>.exc n h'|_=>.stuck)|_=>.stuck
noncomputable def AG (n:Nat)(m:S1):Tw->IH->Res IV:=λvs h=>(m (XG n vs) h).fin
def i2(V:aF)(K:W.Frag)(ps:Tk)(f:Tw->IH->Res IV):Sp:=λvs H Q E=>
 vs.length=ps.length/\∃Y h ivs,Rel V K Y h H/\aw K Y H ivs vs /\ match f ivs h with|.ok v h'=>∀x H' Y',Rel V K Y' h' H'->aU Y H Y' H'->RV K Y' H' v x->Q x H'|.exc n h'=>∀a H' Y',Rel V K Y' h' H'->aU Y H Y' H'->Y'[n]?=B a->E (.ref a) Ze H'|.stuck=>False
def aw.start{K:W.Frag}(r:aw K Y H ivs vs):jR K Y H (XG N.length ivs) (L2.start N vs):=by
 have D:=r.length;calc#[by simp[XG,L2.start,D],λj v e=>?_];unfold XG at e;unfold L2.start;by_cases m:j<ivs.length
 .rw[ZE (by simpa using m),Z5]at e;rw[ZE (by simp;show Zc m<|Zn D.symm),Z5];cases C:ivs[j]? with|none=>rw[C]at e;cases e|some w=>rw[C]at e;cases e;let#[u,E,q]:=r.get C;show#[u,by rw[E];rfl,q]
 .rw[ZN (by simpa using m),uY]at e;split at e<;>cases e
theorem AH:∀{l:List α}{i:Nat}{x:α},l[i]?=B x->l.set i x=l|[],_,_,e=>by simp at e|a::l,0,x,e=>by cases e;rfl|a::l,i+1,x,e=>by change a::l.set i x=a::l;rw[AH (l:=l) e]
def QU{K:W.Frag}{i:Nat}(R:Rel V K Y h H)(e:h[i]?=B o)(q:Y[i]?=B a):RO V K Y H a o:=by let#[b,j,r]:=R.at_ i o e;rw[q]at j;cases j;show r
structure pY(K:W.Frag)(x qual:Str)(st:dZ)(f:Z4)(fd:gY)(dV:Zo):Prop where
 ex:∃(oc:Zo)(od:Td)(kV doc pm:Zo)(an:Td)(cdv ct:Zo)(osl:Wc),fd=W.fnOf x qual (Q8 st) (Qi st) (JH st) dV kV doc pm an cdv ct/\K.lookup f=B #[oc,od,.func fd,osl]/\W.codeIn K cdv qual=Zi
 kp:W.keepIn K (.ref f)=Zi
section
variable{P:ZU}{w:bq}{K:W.Frag}{mg:Str->Tc}{base:aM}{V:aF}
def pY.fn{st:dZ}(F:pY K x qual st f fd dV)(S:c8 N ps<|JH st)
  (hbody:∀(cdv:Zo)(A:bP)(outer:Tl)(s:Zx)(H:Hp)(E:XK),W.codeIn K cdv qual=Zi->bj κ k (A.deeper<|lZ qual (JH st) s.heap.objs.size f cdv)->jD V (jd (d9 P w) P w K mg base N qual (JH st) f cdv A outer s H E).mQ (Qi st) m)(hn:N.length=n:=by rfl):
  bx P w K mg base (d9 P w) κ (k+1) f fd ps (i2 V K ps<|AG n m):=by
 subst hn;let#[oc,od,kV,doc,pm,an,cdv,ct,osl,rfl,lk,hcd]:=F.ex;refine FC lk hcd S (λvs H Q E h=>h.1) λA outer s H vs Q E hr hsp=>?_
 let#[hl,Y,h,ivs,R,rv,O]:=hsp;refine#[λD U H=>∃Y bF h,Rel V K Y h H/\jR K Y H bF U/\match m bF h with|.next Ui' h'=>∀U' M X,Rel V K X h' M->jR K X M Ui' U'->aU Y H X M->D.nx U' M|.ret v h'=>∀x M X,Rel V K X h' M->aU Y H X M->RV K X M v x->D.rt x M|.exc n _ h'=>(∃c fs,h'[n]?=B (.exc c fs))/\∀a M X,Rel V K X h' M->aU Y H X M->X[n]?=B a->E (.ref a) Ze M|_=>False,λL s' U' M D I ht=>?_,Y,XG N.length ivs,h,R,rv.start,?_]
 .let#[Y,bF,h,R,rs,hm]:=ht;refine c6 (hbody cdv A outer s H E hcd hr L s' U' M Y bF h (SP _ L D) _ #[I.aT _,R,rs] ?_) (λ_ _ z=>z) λ_ _ z=>z
  cases e:m bF h with
  |next W2 J=>rw[e]at hm;show λs3 W3 H3 U3 N3 n3=>#[W3,H3,N3.inv.aG,hm W3 H3 U3 N3.rel N3.st n3]
  |ret v J=>rw[e]at hm;show λu s3 U3i W3 H3 U3 N3 n3 ⟨z,rz,q⟩=>#[z,W3,H3,N3.inv.aG,rz,hm z H3 U3 N3.rel n3 q]
  |exc j W2 J=>
   rw[e]at hm;let#[#[c,fs,hj],hm]:=hm;intro pl a s3 W3 H3 U3 N3 n3 Z s4 fl;have I3:=N3.inv.aG;let#[C,tv,d,fe,hC,ha,ht]:=QU N3.rel hj Z;refine Px I3 fl rfl rfl ha ht λT oT h' p=>?_
   have nl:s.heap.get? s.heap.objs.size=Ze:=vi<|Zk _;let#[R4,n4]:=N3.rel.grow (o:=.bh oT<|.own 0) p.new;have ha4:upd H3 T (.bh oT<|.own 0) a=B (cy a C tv d):=by rw[Jp<|ZP p.ne];show ha
   let#[R5,n5]:=R4.write Z ha4 (by rw[ha4];trivial) (o:=cy a C (.ref T) d) (io:=.exc c fs) #[C,.ref T,d,fe.mono p.un.aO,hC,Jx,.inr #[T,oT,_,rfl,by rw[Jp p.ne,Jx],p.fld.choose_spec]];rw[AH hj]at R5;show#[_,I3.os,I3.bare,Un.tail I3.base p.un nl,p.au,hm a _ U3 R5 ((n3.trans n4).trans n5) Z]
  |_=>rw[e]at hm;show hm.elim
 .unfold AG bM.fin at O;cases e:m (XG N.length ivs) h with
  |next W2 J=>rw[e]at O;show λW3 H3 U3 R3 _ n3=>O .ag H3 U3 R3 n3 rfl
  |ret v J=>rw[e]at O;show O
  |exc j W2 J=>
   rw[e]at O;dsimp only at O;cases q:J[j]? with|none=>rw[q]at O;show O.elim|some o=>cases o with|exc c fs=>rw[q]at O;show#[#[c,fs,q],O]|_=>rw[q]at O;show O.elim
  |_=>rw[e]at O;show O.elim
end
noncomputable def Res.nx {α:Type}:Res α->Res α|.ok a h=>.ok a h|_=>.stuck
def Ji(f:Tw->IH->Res IV)(aL:Tw)(a:A1):E1:=λU h=>(a U h).bind λvs h1=>f (vs++aL) h1
def JV(c:Str)(f:Tw->IH->Res IV)(aL:Tw)(a:A1):E1:=λU h=>(a U h).bind λvs h1=>(f (.ref h1.length::(vs++aL))<|h1++[.ins c []]).bind λr J=>match r with|.ag=>.ok (.ref h1.length) J|_=>.stuck
def v8(m:Str)(disp:Str->Option ((Tw->IH->Res IV)×Tw))(o:E1)(a:A1):E1:=λU h=>(o U h).bind λv h1=>match v with|.ref i=>(match h1[i]? with|some (.ins c fs)=>(match disp c,fs.lookup m with|some (f,aL),Ze=>(a U h1).bind λvs J=>f (.ref i::(vs++aL)) J|_,_=>.stuck)|_=>.stuck)|_=>.stuck
section
variable{V:aF}{X:Cx}{k:Nat}{fa C:Z4}{fd:gY}{ps:Tk}{f:Tw->IH->Res IV}{aL:Tw}{ds:Tv}{x m:Str}{p pos apos:Pos}{e o:Expr}{es:Te}{mo:E1}{ma:A1}
theorem ir.vals{K:W.Frag}(r:ir K Y H xs us):∃vs,Vals vs us/\aw K Y H xs vs:=r
def Y4(F:bx X.prog X.w X.K X.mg X.base (d9 X.prog X.w) κ k fa fd ps<|i2 V X.K ps f)(R:bj κ k X.A)(hc:Ql X.A H)(O:JO X.K fd ps ds) (hd:∃vs,Vals vs ds/\∀Y H,aw X.K Y H aL vs)(P:us.length+ds.length=ps.length)(N:az V X L Y bF h U H s)(r:ir X.K Y H xs us)(K:Kont V X RU L Y bF U H (f (xs++aL) h) Q E):Zw (Zy X.prog X.w) X.A (call (.ref fa) us) Q E s:=by
 let#[vs,M,q]:=r;let#[dv,rd,W]:=hd;have S:=M.length;have hl2:=rd.length;refine c6 (Py (Q:=λz m=>∀u j,Inv X L U m j->RelV z u->Q u j) (E:=λv _ m=>∀j,Inv X L U m j->E v j) F R hc O rd N.inv M #[by rw[ZB];lia,Y,h,xs++aL,N.rel,q.append<|W Y H,?_] λ_ j _ C z=>z j C) (λu j ⟨z,m,C,r',k'⟩=>k' u j C r') λ_ _ z=>z
 cases e:f (xs++aL) h with|ok v h'=>rw[e]at K;show λz m J I D qz u j C ru=>K u j m J #[C,I,N.st.mono D] D #[z,ru,qz]|exc n h'=>rw[e]at K;show λa m J I D Z j C=>K [] a j m J #[by simpa using C,I,N.st.mono D] D Z|stuck=>rw[e]at K;show K
def PO(F:bx X.prog X.w X.K X.mg X.base (d9 X.prog X.w) κ k fa fd ps<|i2 V X.K ps f)(P:Roo κ k X)(hg:Gl X x)(hm:X.mg x=B (.ref fa))(Z:W.keepIn X.K (.ref fa)=Zi)(O:JO X.K fd ps ds)(hd:∃vs,Vals vs ds/\∀Y H,aw X.K Y H aL vs) (ha:dG V X (e::es) ma)(m:∀U h xs h',ma U h=.ok xs h'->xs.length+ds.length=ps.length)(M:(x==("__debug__":Str))=Zl:=by decide)(he:ZH (e::es) X.env=(Zl,a0 e X.env)::ZH es X.env:=by rfl)(D:(dY pos<|ZH es X.env).any (·.1)=Zl:=by rfl):ah V X (.Call (.Name x p) (e::es) [] pos) (Ji f aL ma):=by
 intro L s U H Y I h Q E N K;calc hV<|Vu N.inv hg hm ?_ M;calc W.callWith_K (h₀:=X.base) N.inv.ok.mod.pL Z ?_ he D;have j:=K;unfold Ji at j;calc ha pos L s U H Y I h _ E N ?_;cases C:ma I h with|exc n h'=>rw[C]at j;show j|stuck=>rw[C]at j;show j|ok xs h'=>
  rw[C]at j;intro us s1 H1 U1 J n1 R;have hl:xs.length=us.length:=by let#[vs,S,q]:=R;rw[<-S.length,q.length]
  show#[J.inv.cF,Y4 (us:=us) F P.r (J.inv.cN P.c) O hd (by have:=m I h xs h' C;lia) J R<|Kont.mono (r:=(f (xs++aL) h')) j n1]
def PQ(F:bx X.prog X.w X.K X.mg X.base (d9 X.prog X.w) κ k fa fd ps<|i2 V X.K ps f)(C:Roo κ k X)(D:Gl X x)(hm:X.mg x=B (.ref fa))(I:W.keepIn X.K (.ref fa)=Zi)(O:JO X.K fd ps ds)(hd:∃vs,Vals vs ds/\∀Y H,aw X.K Y H aL vs) (j:ds.length=ps.length)(m:(x==("__debug__":Str))=Zl:=by decide):ah V X (.Call (.Name x p) [] [] pos) (Ji f aL Jc):=by intro L s U H Y J h Q E N K;calc hV<|Vu N.inv D hm ?_ m;show W.callWith_K0 N.inv.cF I (Y4 (xs:=[]) F C.r (N.inv.cN C.c) O hd (by simpa using j) N .nil K)
def Gm(M:Mk X.K C fa)(F:bx X.prog X.w X.K X.mg X.base (d9 X.prog X.w) κ k fa fd ps<|i2 V X.K ps f)(hC:V c=B C)(hr:bj κ (k+1) X.A)(hc:Ql X.A H)(O:JO X.K fd ps ds) (hd:∃vs,Vals vs ds/\∀Y H,aw X.K Y H aL vs)(hlen:us.length+ds.length+1=ps.length)(N:az V X L Y bF h U H s)(r:ir X.K Y H xs us) (K:Kont V X RU L Y bF U H ((f (.ref h.length::(xs++aL))<|h++[.ins c []]).bind λr J=>match r with|.ag=>.ok (.ref h.length) J|_=>.stuck) Q E):Zw (Zy X.prog X.w) X.A (call (.ref C) us) Q E s:=by
 let#[vs,rv,q]:=r;let#[dv,rd,qd]:=hd;have hl1:=rv.length;have hl2:=rd.length;refine c6 (Pz (Q:=λz D=>∀u j,Inv X L U D j->RelV z u->Q u j) (E:=λv _ D=>∀j,Inv X L U D j->E v j) M F hr hc O rd N.inv rv (λx W hx hdx hne=>#[by rw[iP,ZB];lia,?_]) λ_ j _ I z=>z j I) (λu j ⟨z,D,I,r',k'⟩=>k' u j I r') λ_ _ z=>z
 -- the new instance in the reading's heap
 let#[R1,n1]:=N.rel.grow (o:=.own x) hdx;have S:upd H W (.own x) x=Ze:=by rw[Jp<|ZP hne];show hx
 let#[R2,n2]:=R1.alloc (o:=.ins C W []) (io:=.ins c []) S #[C,W,[],hC,Jx,rfl];have m:=n1.trans n2;have R:(Y++[x])[h.length]?=B x:=by rw[<-N.rel.len,ZN<|Zk _];simp
 calc#[Y++[x],h++[.ins c []],.ref h.length::(xs++aL),R2,#[_,_,rfl,#[x,rfl,R],(aw.mono m _ _ q).append<|qd _ _],?_];cases e:f (.ref h.length::(xs++aL)) (h++[.ins c []])with
 |ok v h'=>rw[e]at K;intro z D Y' R' P qz;cases v with|ag=>have ez:z=.ag:=qz;subst ez;show#[rfl,λu j I ru=>K u j D Y' #[I,R',N.st.mono<|m.trans P] (m.trans P) #[.ref x,ru,x,rfl,P.at R]]|_=>show Zf K
 |exc n h'=>rw[e]at K;show λa D Y' R' P Z j I=>K [] a j D Y' #[by simpa using I,R',N.st.mono<|m.trans P] (m.trans P) Z
 |stuck=>rw[e]at K;show Zf K
def PR(M:Mk X.K C fa)(F:bx X.prog X.w X.K X.mg X.base (d9 X.prog X.w) κ k fa fd ps<|i2 V X.K ps f)(hC:V c=B C)(Z:Roo κ (k+1) X)(hg:Gl X x)(hm:X.mg x=B (.ref C))(O:JO X.K fd ps ds)(hd:∃vs,Vals vs ds/\∀Y H,aw X.K Y H aL vs) (ha:dG V X (e::es) ma)(m:∀U h xs h',ma U h=.ok xs h'->xs.length+ds.length+1=ps.length)(S:(x==("__debug__":Str))=Zl:=by decide)(he:ZH (e::es) X.env=(Zl,a0 e X.env)::ZH es X.env:=by rfl)(I:(dY pos<|ZH es X.env).any (·.1)=Zl:=by rfl):ah V X (.Call (.Name x p) (e::es) [] pos) (JV c f aL ma):=by
 intro L s U H Y P h Q E N K;calc hV<|Vu N.inv hg hm ?_ S;calc W.callWith_K (h₀:=X.base) N.inv.ok.mod.pL M.kp ?_ he I;have j:=K;unfold JV at j;calc ha pos L s U H Y P h _ E N ?_;cases D:ma P h with|exc n h'=>rw[D]at j;show j|stuck=>rw[D]at j;show j|ok xs h'=>
  rw[D]at j;intro us s1 H1 U1 R n1 r1;have hl:xs.length=us.length:=by let#[vs,rv,q]:=r1;rw[<-rv.length,q.length]
  show#[R.inv.cF,Gm (us:=us) M F hC Z.r (R.inv.cN Z.c) O hd (by have:=m P h xs h' D;lia) R r1<|Kont.mono (r:=(f (IV.ref h'.length::(xs++aL))<|h'++[.ins c []]).bind λr J=>match r with|IV.ag=>Res.ok (IV.ref h'.length) J|_=>Res.stuck) j n1]
def PS(M:Mk X.K C fa)(F:bx X.prog X.w X.K X.mg X.base (d9 X.prog X.w) κ k fa fd ps<|i2 V X.K ps f)(I:V c=B C)(D:Roo κ (k+1) X)(J:Gl X x)(hm:X.mg x=B (.ref C))(O:JO X.K fd ps ds)(hd:∃vs,Vals vs ds/\∀Y H,aw X.K Y H aL vs) (j:ds.length+1=ps.length)(m:(x==("__debug__":Str))=Zl:=by decide):ah V X (.Call (.Name x p) [] [] pos) (JV c f aL Jc):=by intro L s U H Y P h Q E N K;calc hV<|Vu N.inv J hm ?_ m;show W.callWith_K0 N.inv.cF M.kp (Gm (xs:=[]) M F I D.r (N.inv.cN D.c) O hd (by simpa using j) N .nil K)
def AI(V:aF)(X:Cx)(m:Str)(n:Nat)(disp:Str->Option ((Tw->IH->Res IV)×Tw)):Prop:=∀c f aL,disp c=B (f,aL)->∃(C fa:Z4)(fd:gY)(κ:Bool)(k:Nat)(ps:Tk)(ds:Tv),V c=B C/\kM X.K C/\Meth X.K C m fa/\bx X.prog X.w X.K X.mg X.base (d9 X.prog X.w) κ k fa fd ps (i2 V X.K ps f)/\Roo κ k X/\JO X.K fd ps ds/\(∃vs,Vals vs ds/\∀Y H,aw X.K Y H aL vs)/\n+ds.length+1=ps.length
def PU(ho:ah V X o mo)(hd:AI V X m n disp)(ha:dG V X (e::es) ma)(J:∀U h xs h',ma U h=.ok xs h'->xs.length=n) (hst:ZH (e::es) X.env=(Zl,a0 e X.env)::ZH es X.env:=by rfl)(hpl:(dY pos<|ZH es X.env).any (·.1)=Zl:=by rfl) (ht:a0 (.Call (.Attribute o m apos) (e::es) [] pos) X.env=(do
   let ov<-a0 o X.env
   nL apos.atName
   let (f,first)<-jt [ov] (oZ ov m pl)
   sD pos f first (dY pos<|ZH (e::es) X.env) (nJ pos<|nE [] X.env)):=by rfl):
  ah V X (.Call (.Attribute o m apos) (e::es) [] pos) (v8 m disp mo ma):=by
 intro L s U H Y bF h Q E N K;calc W.methodCall_KW (pl:=pl) (ho.run N K λv S u s1 H1 U1 P n1 r1 j=>?_) ht;cases v with
 |ref i=>
  let#[w,rw',a,e1,Z]:=r1;subst e1;cases rw';dsimp only at j;cases hh:S[i]? with|none=>rw[hh]at j;show Zf j|some ob=>
   cases ob with
   |ins c fs=>
    rw[hh]at j;dsimp only at j;cases D:disp c with|none=>rw[D]at j;show Zf j|some fd1=>
     let#[f,aL]:=fd1;cases R:fs.lookup m with|some z=>rw[D,R]at j;show Zf j|none=>
      rw[D,R]at j;dsimp only at j;let#[C,fa,fd,κ,k,ps,ds,hC,cl,hm,F,hr,O,hdv,hn]:=hd c f aL D;let#[C',dx,vs,I,hH,rp]:=P.at hh Z;rw[hC]at I;cases I;calc Fs P.inv hH cl hm ((cq.lookup rp).2 R) ?_;calc W.callWith_K (first:=[.ref a]) (h₀:=X.base) P.inv.ok.mod.pL hm.kp ?_ hst hpl;calc ha pos L s1 U H1 U1 bF S _ E P ?_;cases M:ma bF S with|exc n h'=>rw[M]at j;show j|stuck=>rw[M]at j;show j|ok xs h'=>
       rw[M]at j;intro us s2 H2 U2 N2 n2 r2;have R:xs.length=us.length:=by let#[vs,rv,q]:=r2;rw[<-rv.length,q.length]
       have hl2:=J bF S xs h' M;calc#[N2.inv.cF,Y4 (us:=.ref a::us) (xs:=.ref i::xs) F hr.r (N2.inv.cN hr.c) O hdv (by rw[iP];lia) N2 (.cons #[.ref a,rfl,a,rfl,n2.at Z] r2) ?_];show Kont.mono (r:=(f (.ref i::(xs++aL)) h')) j n2
   |_=>rw[hh]at j;show Zf j
 |_=>show Zf j
def PV(ho:ah V X o mo)(hd:AI V X m 0 disp) (ht:a0 (.Call (.Attribute o m apos) [] [] pos) X.env=(do
   let ov<-a0 o X.env
   nL apos.atName
   let (f,first)<-jt [ov] (oZ ov m pl)
   sD pos f first (dY pos<|ZH [] X.env) (nJ pos<|nE [] X.env)):=by rfl):
  ah V X (.Call (.Attribute o m apos) [] [] pos) (v8 m disp mo Jc):=by
 intro L s U H Y bF h Q E N K;calc W.methodCall_KW (pl:=pl) (ho.run N K λv h1 u s1 H1 U1 I n1 r1 j=>?_) ht;cases v with
 |ref i=>
  let#[w,R,a,e1,Z]:=r1;subst e1;cases R;dsimp only at j;cases M:h1[i]? with|none=>rw[M]at j;show Zf j|some ob=>
   cases ob with
   |ins c fs=>
    rw[M]at j;dsimp only at j;cases D:disp c with|none=>rw[D]at j;show Zf j|some P=>let#[f,aL]:=P;cases hl:fs.lookup m with|some z=>rw[D,hl]at j;show Zf j|none=>rw[D,hl]at j;dsimp only at j;let#[C,fa,fd,κ,k,ps,ds,hC,cl,hm,F,hr,O,S,hn]:=hd c f aL D;let#[C',dx,vs,J,hH,rp]:=I.at M Z;rw[hC]at J;cases J;calc Fs I.inv hH cl hm ((cq.lookup rp).2 hl) ?_;show W.callWith_K0 (first:=[.ref a]) I.inv.cF hm.kp (Y4 (us:=[.ref a]) (xs:=[.ref i]) F hr.r (I.inv.cN hr.c) O S (by rw[iP,List.length_nil];(rw[nO];show gf (Zn hn)<|Zn hn.symm)) I (.cons #[.ref a,rfl,a,rfl,Z] .nil) j)
   |_=>rw[M]at j;show Zf j
 |_=>show Zf j
def Jk(f:Str)(o:E1):E1:=λU h=>(o U h).bind λv h1=>match v with|.ref i=>(match h1[i]? with|some (.ins _ fs)=>(match fs.lookup f with|some x=>.ok x h1|none=>.stuck)|_=>.stuck)|_=>.stuck
def XX(V:aF)(K:W.Frag)(f:Str):Prop:=∀c C,V c=B C->kM K C/\Vf K C f
def PY(ho:ah V X o mo)(hf:XX V X.K fl)(O:qN o fl X.env (a0 o X.env)=a0 o X.env:=by rfl):ah V X (.Attribute o fl pos) (Jk fl mo):=by
 intro L s U H Y bF h Q E N K;refine Fu O<|ho.run N K λv h1 u s1 W P m n1 r1 j=>?_
 cases v with
 |ref i=>
  let#[w,F,a,e1,Z]:=r1;subst e1;cases F;dsimp only at j;cases D:h1[i]? with|none=>rw[D]at j;show(j).elim|some J=>
   cases J with
   |ins c fs=>rw[D]at j;dsimp only at j;cases I:fs.lookup fl with|none=>rw[I]at j;show(j).elim|some z=>rw[I]at j;let#[C,dx,vs,hC,hH,M]:=m.at D Z;let#[cl,na]:=hf c C hC;let#[y,R,q]:=(cq.lookup M).1 z I;show Fq m.inv hH cl na R λu' S I2 ru=>j u' S W P #[I2,m.rel,m.st] .refl #[y,ru,q]
   |_=>rw[D]at j;show(j).elim
 |_=>show(j).elim
noncomputable def bG (f:Str)(v:IV):Wo->Wo|[]=>[(f,v)]|(g,x)::r=>if g=f then(g,v)::r else(g,x)::bG f v r
theorem cq.put{K:W.Frag}(q:RV K Y H v y):∀{fs:Wo}{vs:Wu},cq K Y H fs vs->cq K Y H (bG fl v fs) (cI fl y vs)
 |[],_,h=>by have e:=h;subst e;show#[y,[],rfl,q,rfl]
 |(g,x)::r,_,h=>by
  let#[w,m,e,C,t]:=h;subst e;change cq K Y H (if g=fl then(g,v)::r else(g,x)::bG fl v r) (if g=fl then(g,y)::m else(g,w)::cI fl y m);by_cases j:g=fl
  .rw[if_pos j,if_pos j];show#[y,m,rfl,q,t]
  .rw[if_neg j,if_neg j];show#[w,_,rfl,C,cq.put q t]
def JJ(f:Str)(o e:E1):S1:=λU h=>rS U (e U h) λv h1=>rS U (o U h1) λov J=>match ov with
 |.ref i=>(match J[i]? with
  |some (.ins c fs)=>if fs.length<1000 then .next U (J.set i<|.ins c<|bG f v fs)else .stuck
  |_=>.stuck)
 |_=>.stuck
def PZ(ho:ah V X o mo)(hv:ah V X value mv)(hf:XX V X.K fl)(hs:nH value (B<|.Attribute o fl pos') pos.line X.env=pure Zl:=by rfl):cD V X (.Assign [.Attribute o fl pos'] value pos) (JJ fl mo mv):=by
 intro L s U H Y bF h Q E N K;calc Ew (cQ hv N K λv h1 u s1 H1 U1 N1 n1 r1 K1=>cQ ho N1 K1 λov J w s2 P O F n2 r2 j=>?_) hs;cases ov with
 |ref i=>
  let#[w,M,a,e1,Z]:=r2;subst e1;cases M;dsimp only at j;cases I:J[i]? with|none=>rw[I]at j;show(j).elim|some ob=>
   cases ob with
   |ins c fs=>
    rw[I]at j;dsimp only at j;split at j
    .rename_i hz;let#[C,S,vs,W,m,R]:=F.at I Z;let#[cl,na]:=hf c C W;let#[y,ry,q]:=r1;refine Ft F.inv m cl na (by rw[R.length];show hz) ry λs3 I3=>?_
     have D:aU O P O (upd P a<|.ins C S<|cI fl y vs):=#[#[[],03],Ext.cJ m<|by rw[m];show fJ];let#[R3,_]:=F.rel.write (io:=.ins c<|bG fl v fs) Z m (by rw[m];show fJ) #[C,S,_,W,Jx,cq.put (RV.mono (n2.trans D) _ _ q)<|cq.mono D _ _ R];show j s3 U _ O #[I3,R3,F.st.mono D] D
    .show(j).elim
   |_=>rw[I]at j;show(j).elim
 |_=>show(j).elim
end
section
variable{V:aF}{X:Cx}{a b c:Expr}{ma mb mc:E1}{pos:Pos}
def Jh:IV->IV->IH->Res IV
 |.ref i,.int k,h=>match h[i]? with
  |some (.lst xs)=>(match bW xs k with
   |some v=>.ok v h
   |none=>.stuck)
  |_=>.stuck
 |.bX xs,.int k,h=>match bW xs k with
  |some v=>.ok v h
  |none=>.stuck
 |.tup xs,.int k,h=>match bW xs k with
  |some v=>.ok v h
  |none=>.stuck
 |.str x,.int k,h=>if x.length<=sizeLine then(match bW x.cps.toList k with
  |some c=>.ok (.str ⟨#[c]⟩) h
  |none=>.stuck)else .stuck
 |_,_,_=>.stuck
def v9{K:W.Frag}(r:aw K Y H xs vs)(e:bW xs k=B v):∃u,bW vs k=B u/\RV K Y H v u:=by unfold bW at e ⊢;rw[r.length];cases q:jP xs.length k with|none=>rw[q]at e;cases e|some j=>rw[q]at e;show r.get e
def wb(V:aF)(X:Cx)(g:IV->IV->IH->Res IV):Prop:=∀(value slice:Expr)(L:aQ)(s:Zx)(U:L2.St)(H:Hp)(Y:Tu)(bF:aA)(h:IH)(x y:IV)(v u:Zo)(Q:aH)(E:aH),az V X L Y bF h U H s->RU X.K Y H x v->RU X.K Y H y u ->Kont V X RU L Y bF U H (g x y h) Q E->uL slice Zl v u=operate [v,u] (lN v u)->Zw (Zy X.prog X.w) X.A (vt value slice v u) Q E s
theorem wc(p:oA (X.aT E) r)(I:Inv X L U H s)(m:RelV x v)(C:RelV y u) (k:r x y H λz H'=>∀u s',Inv X L U H' s'->RelV z u->Q u s')(hs:uL slice Zl v u=operate [v,u] (lN v u)):Zw (Zy X.prog X.w) X.A (vt value slice v u) Q E s:=c6 (p value slice L s U H x y v u _ (I.aT E) m C k hs) (λu s' ⟨_,_,j,r,q⟩=>q u s' j.aG r) λ_ _ z=>z
def AJ:wb V X Jh:=by
 intro R P L s U H Y bF h x y v u Q E N D C K O;let#[xv,D,M]:=D;let#[yv,C,W]:=C;cases y with
 |int k=>
  have e2:=W;subst e2;cases x with
  |ref i=>
   let#[a,m,ha]:=M;subst m;dsimp only[Jh]at K;cases Z:h[i]? with|none=>rw[Z]at K;show(K).elim|some ob=>
    rw[Z]at K;cases ob with
    |lst xs=>dsimp only at K;cases j:bW xs k with|none=>rw[j]at K;show(K).elim|some z=>rw[j]at K;let#[I,m,r1]:=N.at Z ha;let#[w,J,F]:=v9 r1 j;show wc (FI) N.inv D C #[a,I,k,w,rfl,rfl,bU.of m,J,aC N K F] O
    |_=>show(K).elim
  |bX xs=>let#[a,I,m,sa,S]:=M;subst m;dsimp only[Jh]at K;cases j:bW xs k with|none=>rw[j]at K;show(K).elim|some z=>rw[j]at K;let#[w,J,F]:=v9 S j;show wc (FI) N.inv D C #[a,I,k,w,rfl,rfl,sa.sq,J,aC N K F] O
  |tup xs=>let#[a,I,m,sa,S]:=M;subst m;dsimp only[Jh]at K;cases j:bW xs k with|none=>rw[j]at K;show(K).elim|some z=>rw[j]at K;let#[w,J,F]:=v9 S j;show wc (Og) N.inv D C #[a,I,k,w,rfl,rfl,sa,J,aC N K F] O
  |str x=>
   have m:=M;subst m;dsimp only[Jh]at K;split at K
   .rename_i hz;cases j:bW x.cps.toList k with|none=>rw[j]at K;show(K).elim|some z=>rw[j]at K;show wc (Oh) N.inv D C #[x,k,z,rfl,rfl,hz,j,aC N K rfl] O
   .show(K).elim
  |_=>show(K).elim
 |_=>cases x<;>show(K).elim
theorem AK(W:wb V X g)(ha:ah V X a ma)(O:ah V X b mb)(hs:FH b:=by intro _ _;rfl):ah V X (.Subscript a b pos) (Je g ma mb):=λL s U H Y D h Q E N K=>
 Subscript_ (ha.run N K λx Z u s1 H1 U1 P n1 R F=>O.run P F λy J w S j C m n2 M I=>W a b L S U j C D J x y u w Q E m (R.mono n2) M I<|hs _ _)
abbrev O1:=aA->IH->Res (Wz)
def P0:pV (Wz) Zo:=λ_ _ _ o u=>kg u o
def tI(V:aF)(X:Cx)(e:Wv)(m:O1):Prop:=PX V X P0 (evalPart e X.env) m
noncomputable def Xg:O1:=λ_ h=>.ok Ze h
def Qp(e:E1):O1:=λU h=>(e U h).bind λv h1=>match v with|.int i=>.ok (B i) h1|_=>.stuck
def P1:tI V X Ze Xg:=by intro L s U H Y j h Q E N K;show Zj<|K _ s H Y N .refl .none
def P2(ha:ah V X a ma):tI V X (B a) (Qp ma):=by
 intro L s U H Y M h Q E N K;refine ha.run N K λx O u F J C D n1 I m=>?_
 cases x with|int i=>let#[w,j,q]:=I;have e:=q;subst e;let#[t,rfl]:=j;show m _ F J C D .refl<|.int i t|_=>show(m).elim
def dg{α:Type}(xs:List α)(lo Z:Wz):List α:=(xs.drop<|HT.bV xs.length 0 lo).take<|HT.bV xs.length xs.length Z-HT.bV xs.length 0 lo
def kW:IV->Wz->Wz->IH->Res IV
 |.ref i,lo,Z,h=>match h[i]? with
  |some (.lst xs)=>.ok (.ref h.length)<|h++[.lst<|dg xs lo Z]
  |_=>.stuck
 |.bX xs,lo,Z,h=>.ok (.ref h.length)<|h++[.lst<|dg xs lo Z]
 |.tup xs,lo,Z,h=>.ok (.tup<|dg xs lo Z) h
 |_,_,_,_=>.stuck
def aw.cut{K:W.Frag}(r:aw K Y H xs vs)(lo Z):aw K Y H (dg xs lo Z) (jO vs lo Z):=by unfold dg jO;rw[r.length];show(r.drop _).take _
def kn(f:IV->Wz->Wz->IH->Res IV)(e:E1)(lo Z:O1):E1:=λU h=>(e U h).bind λx h1=>(lo U h1).bind λl J=>(Z U J).bind λu h3=>f x l u h3
def we(V:aF)(X:Cx)(g:IV->Wz->Wz->IH->Res IV):Prop:=∀(L:aQ)(s:Zx)(U:L2.St)(H:Hp)(Y:Tu)(bF:aA)(h:IH)(x:IV)(v vl vu:Zo)(lo Z:Wz)(sl:Z4)(Q:aH)(E:aH),az V X L Y bF h U H s->RU X.K Y H x v->s.heap.IsSliceOf sl vl vu .none->kg vl lo->kg vu Z ->Kont V X RU L Y bF U H (g x lo Z h) Q E->∃T id,uP (.type T) "__getitem__"=pure (B<|.builtin id)/\s.TypeIs v T/\Zw (Zy X.prog X.w) X.A (lN v<|.ref sl) Q E s
def Gn{lo Z:Wz}(p:rV (X.aT E) r)(I:Inv X L U H s)(C:RelV x v) (hs:s.heap.IsSliceOf sl vl vu .none)(pl:kg vl lo)(m:kg vu Z)(k:r x lo Z H λz H'=>∀u s',Inv X L U H' s'->RelV z u->Q u s'):∃T id,uP (.type T) "__getitem__"=pure (B<|.builtin id)/\s.TypeIs v T/\Zw (Zy X.prog X.w) X.A (lN v<|.ref sl) Q E s:=by let#[T,id,F,J,D]:=p L s U H x v vl vu lo Z sl _ (I.aT E) C hs pl m k;show#[T,id,F,J,c6 D (λu s' ⟨_,_,j,r,q⟩=>q u s' j.aG r) λ_ _ z=>z]
def P4{lo Z:Wv}(hr:we V X g)(he:ah V X a ma)(hl:tI V X lo ml)(S:tI V X Z mh):ah V X (.Subscript a (.Slice lo Z Ze p2) pos) (kn g ma ml mh):=by
 intro L s U H Y I h Q E N K;refine Subscript_<|he.run N K λx h1 v s1 H1 U1 O n1 r1 K1=>?_
 refine wpAny_Slice<|PX.run hl O K1 λl J m s2 H2 U2 N2 n2 pl K2=>PX.run S N2 K2 λu h3 C j F U3 D M W P=>?_
 calc Zj ?_;have I4:Inv X L U F {j with heap:=j.heap.push {cls:=.type "slice",data:=.fields (ba [m,C,.none])} }:=D.inv.kept λb ob q=>Zg _ q
 let#[T,id,hT,ht,R]:=hr L {j with heap:=j.heap.push {cls:=.type "slice",data:=.fields (ba [m,C,.none])} } U F U3 I h3 x v m C l u j.heap.objs.size Q E #[I4,D.rel,D.st] ((r1.mono n2).mono M) (Heap.IsSliceOf.new ..) pl W P;show tail_any ht hT R<|rfl
def bt(f:Tw->IH->Res IV)(a:A1):E1:=λU h=>(a U h).bind f
variable{es:Te}{mr:A1}{x:Str}{p:Pos}{id T:String}{g:Tw->IH->Res IV}
theorem VA(W:Q2 V X (.builtin id) g)(Z:Gl X x)(hm:X.mg x=Ze)(hv:ka x=B (.builtin id))(ha:dG V X (a::es) mr)(hn:x≠"__name__":=by decide)(m:(x==("__debug__":Str))=Zl:=by decide) (O:ZH (a::es) X.env=(Zl,a0 a X.env)::ZH es X.env:=by rfl)(j:(dY pos<|ZH es X.env).any (·.1)=Zl:=by rfl):ah V X (.Call (.Name x p) (a::es) [] pos) (bt g mr):=λL s U H Y C h Q E N K=>
 hV (Qj N.inv Z hm hv (sW ((ha pos).run N K λxs I F P S J M n1 R D=>W L P U S J C I xs F Q E M R D) O j) hn m)
theorem Gp(W:Q2 V X (.type T) g)(Z:Gl X x)(hm:X.mg x=Ze)(hv:ka x=B (.type T))(ha:dG V X (a::es) mr)(hn:x≠"__name__":=by decide)(m:(x==("__debug__":Str))=Zl:=by decide) (O:ZH (a::es) X.env=(Zl,a0 a X.env)::ZH es X.env:=by rfl)(j:(dY pos<|ZH es X.env).any (·.1)=Zl:=by rfl):ah V X (.Call (.Name x p) (a::es) [] pos) (bt g mr):=λL s U H Y C h Q E N K=>
 hV (Qj N.inv Z hm hv (om ((ha pos).run N K λxs I F P S J M n1 R D=>W L P U S J C I xs F Q E M R D) O j) hn m)
def bu(f:IV->IH->Res IV):Tw->IH->Res IV|[x],h=>f x h|_,_=>.stuck
def mj(f:IV->IV->IH->Res IV):Tw->IH->Res IV|[x,y],h=>f x y h|_,_=>.stuck
def aw.bQ{K:W.Frag}{x:IV}(r:aw K Y H [x] vs):∃v,vs=[v]/\RV K Y H x v:=by let#[v,C,e,q,m]:=r;have j:=m;subst j;show#[v,e,q]
def aw.jg{K:W.Frag}{x y:IV}(r:aw K Y H [x,y] vs):∃v w,vs=[v,w]/\RV K Y H x v/\RV K Y H y w:=by let#[v,D,e,q,C]:=r;let#[w,m,j]:=C.bQ;subst m;show#[v,w,e,q,j]
def V6(D:∀(L:aQ)(s:Zx)(U:L2.St)(H:Hp)(Y:Tu)(bF:aA)(h:IH)(x:IV)(j:bB)(u:Zo)(Q E:aH),az V X L Y bF h U H s->RelV j u->RV X.K Y H x j ->Kont V X RU L Y bF U H (f x h) Q E->Zw (Zy X.prog X.w) X.A (call fv [u]) Q E s):Q2 V X fv (bu f):=by intro L s U H Y bF h xs I Q E N r K;let#[J,C,q]:=r;match xs,K with|[x],K=>let#[v,e,m]:=q.bQ;subst e;let#[u,rfl,F]:=Qz C;show D L s U H Y bF h x v u Q E N F m K|[],K=>show(K).elim|_::_::_,K=>show(K).elim
noncomputable def bH:IV->IH->Res IV
 |.str x,h=>if x.length<=sizeLine then .ok (.int x.length) h else .stuck
 |.tup xs,h=>.ok (.int xs.length) h
 |.bX xs,h=>.ok (.int xs.length) h
 |.ref i,h=>match h[i]? with
  |some (.lst xs)=>.ok (.int xs.length) h
  |_=>.stuck
 |_,_=>.stuck
theorem P5:Q2 V X (.builtin "len") (bu bH):=V6 λL s U H Y O h x P u Q E N D C K=>by
 cases x with
 |str y=>
  have e:=C;subst e;dsimp only[bH]at K;split at K
  .rename_i I;show Va (vR) N.inv (.cons D .nil) #[_,_,rfl,#[I,rfl],aC N K rfl]
  .show(K).elim
 |tup xs=>let#[a,m,j,sa,F]:=C;subst j;show Va (vR) N.inv (.cons D .nil) #[_,xs.length,rfl,.inr #[m,sa,F.length.symm],aC N K rfl]
 |bX xs=>let#[a,m,j,sa,F]:=C;subst j;show Va (vR) N.inv (.cons D .nil) #[_,xs.length,rfl,.inl #[m,sa.sq,F.length.symm],aC N K rfl]
 |ref i=>
  let#[a,j,ha]:=C;subst j;dsimp only[bH]at K;cases Z:h[i]? with|none=>rw[Z]at K;show(K).elim|some J=>rw[Z]at K;cases J with|lst xs=>let#[m,j,M]:=N.at Z ha;show Va (vR) N.inv (.cons D .nil) #[_,xs.length,rfl,.inl #[m,bU.of j,M.length.symm],aC N K rfl]|_=>show(K).elim
 |_=>show(K).elim
end
def mZ(n:Nat)(m:A1):Prop:=∀U h xs h',m U h=.ok xs h'->xs.length=n
theorem P6:mZ 0 Jc:=λ_ _ xs _ e=>by cases e;rfl
theorem P7(E:mZ n r):mZ (n+1) (Jb e r):=λU h xs F q=>by
 unfold Jb at q;cases C:e U h with
 |ok x m=>rw[C]at q;change (r U m).bind (λxs J=>.ok (x::xs) J)=_ at q;cases j:r U m with|ok D J=>rw[j]at q;cases q;rw[iP,E U m D _ j]|exc n J=>rw[j]at q;cases q|stuck=>rw[j]at q;cases q
 |exc n m=>rw[C]at q;cases q
 |stuck=>rw[C]at q;cases q
def XF(K:W.Frag)(x:Str)(f:Tw->IH->Res IV):Sp:=λvs H Q E=>∀V,i2 V K [x] f vs H Q E
theorem P8{K:W.Frag}(F:bx P w K mg base (d9 P w) κ k fa fd [x]<|i2 V K [x] f):bx P w K mg base (d9 P w) κ k fa fd [x] (XF K x f):=F.imp λ_ _ _ _ h=>h V
noncomputable def toD (h:IH):Nat->IV->Option lQ
 |0=>λv=>match v with
  |.ag=>B .none
  |.bl b=>B<|.bool b
  |.int i=>B<|.int i
  |.str x=>B<|.str x
  |_=>Ze
 |n+1=>λv=>match v with
  |.ag=>B .none
  |.bl b=>B<|.bool b
  |.int i=>B<|.int i
  |.str x=>B<|.str x
  |.tup xs=>(xs.mapM<|toD h n).map .tuple
  |.bX xs=>(xs.mapM<|toD h n).map .list
  |.ref i=>match h[i]? with
   |some (.lst xs)=>(xs.mapM<|toD h n).map .list
   |_=>Ze
section
variable{V:aF}{X:Cx}
theorem wg(N:az V X L Y bF h U H s) (D:∀(v:IV)(d:lQ)(x:bB)(u:Zo),toD h n v=B d->RV X.K Y H v x->RelV x u->∃as,Reads s.heap u d as):∀(xs:Tw)(ds:List lQ)(vs:Uc)(us:Tv),xs.mapM (toD h n)=B ds->aw X.K Y H xs vs->Vals vs us->∃as,ReadsAll s.heap us ds as
 |[],ds,vs,us,e,q,r=>by have C:=q;subst C;cases r;simp at e;subst e;show#[_,.nil]
 |x::xs,ds,vs,us,e,q,r=>by
  let#[v,F,C,q1,E]:=q;subst C;cases r with
  |cons I P=>
   rw[pq]at e;cases j:toD h n x with
   |none=>rw[j]at e;cases e
   |some d=>
    rw[j]at e;cases m:xs.mapM (toD h n)with
    |none=>rw[m]at e;cases e
    |some M=>rw[m]at e;cases e;let#[as,O]:=D x d v _ j q1 I;let#[bs,J]:=wg N D xs M F _ m E P;show#[_,.cons O J]
def Vk(N:az V X L Y bF h U H s):∀(n:Nat)(v:IV)(d:lQ)(x:bB)(u:Zo),toD h n v=B d->RV X.K Y H v x->RelV x u->∃as,Reads s.heap u d as:=by
 have j:∀(v:IV)(d:lQ)(x:bB)(u:Zo),toD h 0 v=B d->RV X.K Y H v x->RelV x u->∃as,Reads s.heap u d as:=by
  intro v d x u e q r;cases v with
  |ag=>cases e;have C:x=.ag:=q;subst C;cases r;show#[_,.none]
  |bl b=>cases e;have C:x=.bl b:=q;subst C;cases r;show#[_,.bool b]
  |int i=>cases e;have C:x=.int i:=q;subst C;let#[t,rfl]:=r;show#[_,.int i t]
  |str z=>cases e;have C:x=.str z:=q;subst C;let#[t,rfl]:=r;show#[_,.str z t]
  |_=>cases e
 intro n;induction n with
 |zero=>show j
 |succ n Q=>
  intro v d x u e q r;cases v with
  |ag=>show j .ag d x u e q r
  |bl b=>show j (.bl b) d x u e q r
  |int i=>show j (.int i) d x u e q r
  |str z=>show j (.str z) d x u e q r
  |tup xs=>let#[a,J,C,sa,R]:=q;subst C;cases r;let#[ds,E,rfl]:=Z6.mp<|e;let#[D,I,#[o,O,P,m,hd],S]:=N.inv.tuple sa;let#[as,M]:=wg N Q xs ds J D E R I;show#[_,.tuple O P hd M]
  |bX xs=>let#[a,J,C,sa,R]:=q;subst C;cases r;let#[ds,E,rfl]:=Z6.mp<|e;let#[D,I,#[o,m,O,P,_,hd],S]:=N.inv.list sa.sq;let#[as,M]:=wg N Q xs ds J D E R I;show#[_,.list O P hd M]
  |ref i=>
   let#[a,C,ha]:=q;subst C;cases r;have F:(match h[i]? with|some (.lst xs)=>(xs.mapM<|toD h n).map vw|_=>Ze)=B d:=e;cases Z:h[i]? with
   |none=>rw[Z]at F;cases F
   |some W=>
    rw[Z]at F;cases W with
    |lst xs=>let#[ds,E,rfl]:=Z6.mp F;let#[J,C,r1]:=N.at Z ha;let#[D,I,#[o,m,O,P,_,hd],S]:=N.inv.list<|bU.of C;let#[as,M]:=wg N Q xs ds J D E r1 I;show#[_,.list O P hd M]
    |_=>cases F
theorem wh(D:∀v d,f v=B d->d.depth<=n):∀(xs:Tw)(ds:List lQ),xs.mapM f=B ds->PyData.depthAll ds<=n
 |[],ds,e=>by simp at e;subst e;show ZF _
 |x::xs,ds,e=>by
  rw[pq]at e;cases j:f x with
  |none=>rw[j]at e;cases e
  |some d=>
   rw[j]at e;cases m:xs.mapM f with
   |none=>rw[m]at e;cases e
   |some C=>rw[m]at e;cases e;have E:=D x d j;have J:=wh D xs C m;change max d.depth (PyData.depthAll C)<=n;show Nat.max_le.mpr #[E,J]
def wi:∀(n:Nat)(v:IV)(d:lQ),toD h n v=B d->d.depth<=n:=by
 intro n;induction n with
 |zero=>intro v d e;cases v<;>cases e<;>show Zk _
 |succ n C=>
  intro v d e;cases v with
  |ag=>cases e;show ZF _
  |bl b=>cases e;show ZF _
  |int i=>cases e;show ZF _
  |str z=>cases e;show ZF _
  |tup xs=>let#[ds,j,rfl]:=Z6.mp<|e;show uW<|wh C xs ds j
  |bX xs=>let#[ds,j,rfl]:=Z6.mp<|e;show uW<|wh C xs ds j
  |ref i=>
   have m:(match h[i]? with|some (.lst xs)=>(xs.mapM<|toD h n).map vw|_=>Ze)=B d:=e;cases Z:h[i]? with
   |none=>rw[Z]at m;cases m
   |some D=>
    rw[Z]at m;cases D with
    |lst xs=>let#[ds,j,rfl]:=Z6.mp m;show uW<|wh C xs ds j
    |_=>cases m
noncomputable def VG:IV->IV->Ww|.ag,.ag=>B Zi|.int i,.int j=>B<|decide (i=j)|.str i,.str j=>B<|decide (i=j)|.bl i,.bl j=>B<|decide (i=j)|_,_=>Ze
noncomputable def QG (x y:IV)(h:IH):Ww:=match toD h 6 x,toD h 6 y with|some a,B b=>if a.canLay0=Zi/\b.canLay0=Zi then B (h2 a b)else Ze|_,_=>Ze
noncomputable def kX (x y:IV)(h:IH):Res IV:=match VG x y with|some b=>.ok (.bl b) h|none=>match QG x y h with|some b=>.ok (.bl b) h|none=>.stuck
noncomputable def kY (x y:IV)(h:IH):Res IV:=match VG x y with|some b=>.ok (.bl (!b)) h|none=>match QG x y h with|some b=>.ok (.bl (!b)) h|none=>.stuck
def Gq(e:QG x y h=B b):∃m j,toD h 6 x=B m/\toD h 6 y=B j/\m.canLay0=Zi/\j.canLay0=Zi/\b=h2 m j:=by
 unfold QG at e;cases C:toD h 6 x with|none=>rw[C]at e;cases e|some m=>
  cases D:toD h 6 y with|none=>rw[C,D]at e;cases e|some j=>
   rw[C,D]at e;dsimp only at e;split at e
   .lia
   .cases e
def Gr{K:W.Frag}(e:VG x y=B b)(m:RV K Y H x xv)(C:RV K Y H y yv):pO xv yv=Zi/\decide (xv=yv)=b:=by
 cases x with
 |ag=>cases y with|ag=>cases e;cases (m);cases (C);show#[rfl,rfl]|_=>cases e
 |int i=>cases y with|int j=>cases e;cases (m);cases (C);show#[rfl,03]|_=>cases e
 |str i=>cases y with|str j=>cases e;cases (m);cases (C);show#[rfl,03]|_=>cases e
 |bl i=>cases y with|bl j=>cases e;cases (m);cases (C);show#[rfl,03]|_=>cases e
 |_=>cases y<;>cases e
def AL(hu:X.A.units+64<ky):dt V X (dU .Eq) kX:=by
 intro L s U H Y bF h x y v u Q E N m j K;let#[xv,m,F]:=m;let#[W,j,I]:=j;unfold kX at K;cases C:VG x y with|some b=>rw[C]at K;let#[h1,J]:=Gr C F I;show Qg (NH) N.inv m j #[h1,by rw[J];show aC N K rfl]|none=>rw[C]at K;cases D:QG x y h with|none=>rw[D]at K;show(K).elim|some b=>rw[D]at K;let#[M,Z,O,S,c1,P,rfl]:=Gq D;let#[as,r1]:=Vk N 6 x M xv v O F m;let#[bs,R]:=Vk N 6 y Z W u S I j;have d1:=wi 6 x M O;show PySem.SeqAt.compareEq_reads r1 R c1 P 05<|aC N K rfl _ s N.inv rfl
def AM(hu:X.A.units+64<ky):dt V X (dU .NotEq) kY:=by
 intro L s U H Y bF h x y v u Q E N m j K;let#[xv,m,F]:=m;let#[W,j,I]:=j;unfold kY at K;cases C:VG x y with|some b=>rw[C]at K;let#[h1,J]:=Gr C F I;show Qg (NI) N.inv m j #[h1,by rw[J];show aC N K rfl]|none=>rw[C]at K;cases D:QG x y h with|none=>rw[D]at K;show(K).elim|some b=>rw[D]at K;let#[M,Z,O,S,c1,P,rfl]:=Gq D;let#[as,r1]:=Vk N 6 x M xv v O F m;let#[bs,R]:=Vk N 6 y Z W u S I j;have d1:=wi 6 x M O;show PySem.SeqAt.compareNe_reads r1 R c1 P 05<|aC N K rfl _ s N.inv rfl
def pZ(x c:IV)(h:IH):Ww:=match toD h 6 c,toD h 6 x with|some (.list ds),B d=>if iW ds=Zi/\d.canLay0=Zi then B (ds.any λy=>h2 y d)else Ze|some (.tuple ds),B d=>if iW ds=Zi/\d.canLay0=Zi then B (ds.any λy=>h2 y d)else Ze|_,_=>Ze
noncomputable def oE (x c:IV)(h:IH):Res IV:=match pZ x c h with|some b=>.ok (.bl b) h|none=>.stuck
def AN(x c:IV)(h:IH):Res IV:=match pZ x c h with|some b=>.ok (.bl (!b)) h|none=>.stuck
def Gu(e:pZ x c h=B b):∃ds d,(toD h 6 c=B (.list ds)\/toD h 6 c=B (.tuple ds))/\toD h 6 x=B d/\iW ds=Zi/\d.canLay0=Zi/\b=ds.any λy=>h2 y d:=by
 unfold pZ at e;cases m:toD h 6 c with|none=>rw[m]at e;cases e|some D=>
  cases C:toD h 6 x with|none=>rw[m,C]at e;cases D<;>cases e|some d=>
   rw[m,C]at e;cases D with
   |list ds=>
    dsimp only at e;split at e
    .rename_i j;cases e;show#[ds,d,.inl rfl,rfl,j.1,j.2,rfl]
    .cases e
   |tuple ds=>
    dsimp only at e;split at e
    .rename_i j;cases e;show#[ds,d,.inr rfl,rfl,j.1,j.2,rfl]
    .cases e
   |_=>cases e
def tJ(hu:X.A.units+64<ky):dt V X (dU .In) oE:=by
 intro L s U H Y bF h x y v u Q E N D j K;let#[W,D,R]:=D;let#[O,j,F]:=j;unfold oE at K;cases m:pZ x y h with|none=>rw[m]at K;show Zf K|some b=>
  rw[m]at K;let#[ds,d,Z,M,P,I,rfl]:=Gu m;let#[bs,J]:=Vk N 6 x d W v M R D;have d2:=wi 6 x d M;rcases Z with e1|e1
  .let#[S,C]:=Vk N 6 y _ O u e1 F j;show PySem.SeqAt.in_list_reads C J P I 05<|aC N K rfl _ s N.inv rfl
  .let#[S,C]:=Vk N 6 y _ O u e1 F j;show PySem.SeqAt.in_tuple_reads C J P I 05<|aC N K rfl _ s N.inv rfl
def P9(hu:X.A.units+64<ky):dt V X (dU .NotIn) AN:=by
 intro L s U H Y bF h x y v u Q E N D j K;let#[W,D,R]:=D;let#[O,j,F]:=j;unfold AN at K;cases m:pZ x y h with|none=>rw[m]at K;show Zf K|some b=>
  rw[m]at K;let#[ds,d,Z,M,P,I,rfl]:=Gu m;let#[bs,J]:=Vk N 6 x d W v M R D;have d2:=wi 6 x d M;rcases Z with e1|e1
  .let#[S,C]:=Vk N 6 y _ O u e1 F j;show PySem.SeqAt.notIn_list_reads C J P I 05<|aC N K rfl _ s N.inv rfl
  .let#[S,C]:=Vk N 6 y _ O u e1 F j;show PySem.SeqAt.notIn_tuple_reads C J P I 05<|aC N K rfl _ s N.inv rfl
noncomputable def tK:IV->IV->Ww|.ag,.ag=>B Zi|.bl a,.bl b=>B<|a==b|.bl _,.ag=>B Zl|.int _,.ag=>B Zl|.str _,.ag=>B Zl|.tup _,.ag=>B Zl|.bX _,.ag=>B Zl|.ref _,.ag=>B Zl|.ag,.bl _=>B Zl|.int _,.bl _=>B Zl|.str _,.bl _=>B Zl|.tup _,.bl _=>B Zl|.bX _,.bl _=>B Zl|.ref _,.bl _=>B Zl|_,_=>Ze
noncomputable def oF (x y:IV)(h:IH):Res IV:=match tK x y with|some b=>.ok (.bl b) h|none=>.stuck
noncomputable def VV (x y:IV)(h:IH):Res IV:=match tK x y with|some b=>.ok (.bl (!b)) h|none=>.stuck
def Gv{K:W.Frag}(e:tK x y=B b)(j:RU K Y H x v)(D:RU K Y H y u):plainIs v u=Zi/\(v==u)=b:=by
 let#[C,j,m]:=j;let#[I,D,F]:=D;cases y with
 |ag=>cases (show I=.ag from F);cases D;cases x with|ag=>cases e;cases (show C=.ag from m);cases j;show#[rfl,rfl]|bl c=>cases e;cases (show C=.bl c from m);cases j;show#[rfl,rfl]|int c=>cases e;cases (show C=.int c from m);let#[t,rfl]:=j;show#[rfl,rfl]|str c=>cases e;cases (show C=.str c from m);let#[t,rfl]:=j;show#[rfl,rfl]|tup c=>cases e;let#[a,E,rfl,_]:=m;cases j;show#[rfl,rfl]|bX c=>cases e;let#[a,E,rfl,_]:=m;cases j;show#[rfl,rfl]|ref c=>cases e;let#[a,rfl,_]:=m;cases j;show#[rfl,rfl]
 |bl d=>cases (show I=.bl d from F);cases D;cases x with|ag=>cases e;cases (show C=.ag from m);cases j;show#[rfl,rfl]|bl c=>cases e;cases (show C=.bl c from m);cases j;cases c<;>cases d<;>show#[rfl,rfl]|int c=>cases e;cases (show C=.int c from m);let#[t,rfl]:=j;show#[rfl,rfl]|str c=>cases e;cases (show C=.str c from m);let#[t,rfl]:=j;show#[rfl,rfl]|tup c=>cases e;let#[a,E,rfl,_]:=m;cases j;show#[rfl,rfl]|bX c=>cases e;let#[a,E,rfl,_]:=m;cases j;show#[rfl,rfl]|ref c=>cases e;let#[a,rfl,_]:=m;cases j;show#[rfl,rfl]
 |_=>cases x<;>cases e
def AO:dt V X (dU .Is) oF:=by intro L s U H Y F h x y v u Q E N D C K;unfold oF at K;cases j:tK x y with|none=>rw[j]at K;show(K).elim|some b=>rw[j]at K;let#[m,J]:=Gv j D C;show wpAny_is_plain m<|by rw[J];show aC N K rfl _ s N.inv rfl
def Ra:dt V X (dU .IsNot) VV:=by intro L s U H Y F h x y v u Q E N D C K;unfold VV at K;cases j:tK x y with|none=>rw[j]at K;show(K).elim|some b=>rw[j]at K;let#[m,J]:=Gv j D C;show wpAny_isNot_plain m<|by rw[J];show aC N K rfl _ s N.inv rfl
inductive Ty where|ag|bl|int|str|lst|tup|aY|ins (c:Str)|exc (c:Str)
noncomputable def iB:IV->IH->Option Ty|.ag,_=>B .ag|.bl _,_=>B .bl|.int _,_=>B .int|.str _,_=>B .str|.tup _,_=>B .tup|.bX _,_=>B .lst|.ref i,h=>match h[i]? with|some (.lst _)=>B .lst|some (.aY _)=>B .aY|some (.ins c _)=>B<|.ins c|some (.exc c _)=>B<|.exc c|some (.iZ c _)=>B<|.exc c|_=>Ze
structure kZ(K:W.Frag)(C:Z4):Prop where
 cl:kM K C
 ha:W.findIn K (.ref C) "__class__"=B (B<|.builtin "object.__class__")
 hn:W.specialIn K (.builtin "object.__class__") "__get__"=B (B<|.builtin "getset_descriptor.__get__")
 Fv:W.takesIn K (.builtin "object.__class__")=B Zi
 hm:W.mroIn K C (.type "object")=B Zi
structure fP(V:aF)(K:W.Frag)(c:Zo)(ans:Ty->Ww):Prop where
 ag:∀b,ans .ag=B b->W.kitOne K (.type "NoneType") c=B b
 bl:∀b,ans .bl=B b->W.kitOne K (.type "bool") c=B b
 int:∀b,ans .int=B b->W.kitOne K (.type "int") c=B b
 str:∀b,ans .str=B b->W.kitOne K (.type "str") c=B b
 lst:∀b,ans .lst=B b->W.kitOne K (.type "list") c=B b
 tup:∀b,ans .tup=B b->W.kitOne K (.type "tuple") c=B b
 aY:∀b,ans .aY=B b->W.kitOne K (.type "dict") c=B b
 ins:∀k C b,ans (.ins k)=B b->V k=B C->kZ K C/\W.kitOne K (.ref C) c=B b
 exc:∀k C b,ans (.exc k)=B b->W.nsIn K Z2 k=B (B<|.ref C)->gF K C/\W.kitOne K (.ref C) c=B b
def dC(ans:Ty->Ww)(e:E1):E1:=λU h=>(e U h).bind λv h1=>match (iB v h1).bind ans with|some b=>.ok (.bl b) h1|none=>.stuck
def Rb(N:az V X L Y bF h U H s)(D:RU X.K Y H x u)(bE:fP V X.K c ans) (e:(iB x h).bind ans=B b)(j:∀tk,Q (.bool b) {s with toks:=tk}):Zw (Zy X.prog X.w) A (call (.builtin "isinstance") [u,c]) Q E s:=by
 let#[xv,D,F]:=D;cases x with|ag=>cases (F);cases D;show W.kia_one W.kitx_none N.inv.cF fJ (bE.ag b e) (λz=>nomatch z) j|bl i=>cases (F);cases D;show W.kia_one W.kitx_bool N.inv.cF fJ (bE.bl b e) (λz=>nomatch z) j|int i=>cases (F);let#[t,rfl]:=D;show W.kia_one W.kitx_int N.inv.cF fJ (bE.int b e) (λz=>nomatch z) j|str i=>cases (F);let#[t,rfl]:=D;show W.kia_one W.kitx_str N.inv.cF fJ (bE.str b e) (λz=>nomatch z) j|tup xs=>let#[a,M,rfl,sa,_]:=F;cases D;let#[R,rv,#[o,P,hc,m,hd],hz]:=N.inv.tuple sa;show W.kia_one W.kitx_tuple N.inv.cF #[o,P,hc] (bE.tup b e) (λz=>nomatch z) j|bX xs=>let#[a,M,rfl,sa,_]:=F;cases D;let#[R,rv,#[o,m,P,hc,_,hd],hz]:=N.inv.list sa.sq;show W.kia_one W.kitx_list N.inv.cF #[o,P,hc] (bE.lst b e) (λz=>nomatch z) j|ref i=>
  let#[a,rfl,ha]:=F;cases D;cases Z:h[i]? with|none=>simp[iB,Z]at e|some ob=>cases ob with|lst xs=>simp![iB,Z]at e;let#[M,e1,r1]:=N.at Z ha;let#[R,rv,#[o,m,P,hc,_,hd],hz]:=N.inv.list<|bU.of e1;show W.kia_one W.kitx_list N.inv.cF #[o,P,hc] (bE.lst b e) (λz=>nomatch z) j|aY kvs=>simp![iB,Z]at e;let#[M,e1,r1]:=N.at Z ha;let#[_,_,ws,_,p]:=(N.inv.au a _ e1);let#[o,es,ep,h1,J,_]:=p;show W.kia_one W.kitx_dict N.inv.cF #[o,h1,J.1] (bE.aY b e) (λz=>nomatch z) j|ins c fs=>simp![iB,Z]at e;let#[C,dx,M,O,S,rp]:=N.at Z ha;let#[I,hk]:=bE.ins c C b e O;let#[mA,Ob,_]:=vS N.inv.au S;let#[od,bC,_]:=Ob.look;show W.kia_one (W.kitx_own (I.cl.get _) I.cl.hd I.ha I.hn I.Fv I.hm) N.inv.cF bC hk (λz=>nomatch z) j|exc c fs=>simp![iB,Z]at e;let#[C,tv,d,_,O,S,_]:=N.at Z ha;let#[I,hk]:=bE.exc c C b e O;let#[oe,M,e1,e2,_]:=cy.get N.inv.au S;show W.kia_one (Gk I) N.inv.cF #[oe,e1,e2] hk (λz=>nomatch z) j|iZ c fs=>simp![iB,Z]at e;let#[C,oe,u,M,_,O,S,e2,_]:=N.at Z ha;let#[I,hk]:=bE.exc c C b e O;show W.kia_one (Gk I) N.inv.cF #[oe,(N.inv.au a _ S).1,e2] hk (λz=>nomatch z) j|tab q=>simp[iB,Z]at e
variable{a cx:Expr}{ma:E1}{pos p:Pos}
def k6(X:Cx)(cx:Expr)(c:Zo):Prop:=∀(L:aQ)(U:L2.St)(H:Hp)(s:Zx)(Q E:aH),Inv X L U H s->Q c s->Zw (Zy X.prog X.w) X.A (a0 cx X.env) Q E s
theorem Xu(m:Gl X x)(hm:X.mg x=Ze)(C:ka x=B c)(hn:x≠"__name__":=by decide)(j:(x==("__debug__":Str))=Zl:=by decide):k6 X (.Name x p) c:=λ_ _ _ _ _ _ I q=>Qj I m hm C q hn j
theorem Gx(m:Gl X x)(hm:X.mg x=B c)(j:(x==("__debug__":Str))=Zl:=by decide):k6 X (.Name x p) c:=λ_ _ _ _ _ _ I q=>Vu I m hm q j
def Rc(S:k6 X cx c)(bE:fP V X.K c ans)(ha:ah V X a ma)(W:Gl X "isinstance")(hm:X.mg "isinstance"=Ze)(Z:ka "isinstance"=B (.builtin "isinstance"):=by rfl) (F:ZH [a,cx] X.env=(Zl,a0 a X.env)::ZH [cx] X.env:=by rfl)(D:ZH [cx] X.env=(Zl,a0 cx X.env)::ZH [] X.env:=by rfl)(C:(dY pos<|ZH [cx] X.env).any (·.1)=Zl:=by rfl):ah V X (.Call (.Name "isinstance" p) [a,cx] [] pos) (dC ans ma):=by
 intro L s U H Y bF h Q E N K;calc hV<|Qj N.inv W hm Z ?_ 01 01;calc sW ?_ F C;rw[F];refine zz<|ha.run N K λx M u P I O j n1 R m=>?_
 rw[D];calc zz<|S L U I P _ E j.inv ?_;calc Calls.spliced_nil ?_;cases e:(iB x M).bind ans with|none=>rw[e]at m;show(m).elim|some b=>rw[e]at m;show Rb j R bE e λJ=>m _ _ I O #[j.inv.tok J,j.rel,j.st] .refl #[.bl b,rfl,rfl]
def AP:Ty->Ww|.int=>B Zi|.bl=>B Zi|.ins _=>Ze|.exc _=>Ze|_=>B Zl
def AQ:Ty->Ww|.bl=>B Zi|.ins _=>Ze|.exc _=>Ze|_=>B Zl
def AR:Ty->Ww|.str=>B Zi|.ins _=>Ze|.exc _=>Ze|_=>B Zl
def XY:Ty->Ww|.lst=>B Zi|.ins _=>Ze|.exc _=>Ze|_=>B Zl
def AS:Ty->Ww|.tup=>B Zi|.ins _=>Ze|.exc _=>Ze|_=>B Zl
def Rf{K:W.Frag}:fP V K (.type "bool") AQ:=by calc#[?_,?_,?_,?_,?_,?_,?_,(λk C b e=>by cases e),(λk C b e=>by cases e)]<;>(intro b e;cases e;first|rfl|with_unfolding_all rfl|kernel_rfl)
def Rg{K:W.Frag}:fP V K (.type "str") AR:=by calc#[?_,?_,?_,?_,?_,?_,?_,(λk C b e=>by cases e),(λk C b e=>by cases e)]<;>(intro b e;cases e;first|rfl|with_unfolding_all rfl|kernel_rfl)
def Rh{K:W.Frag}:fP V K (.type "list") XY:=by calc#[?_,?_,?_,?_,?_,?_,?_,(λk C b e=>by cases e),(λk C b e=>by cases e)]<;>(intro b e;cases e;first|rfl|with_unfolding_all rfl|kernel_rfl)
def Ri{K:W.Frag}:fP V K (.type "tuple") AS:=by calc#[?_,?_,?_,?_,?_,?_,?_,(λk C b e=>by cases e),(λk C b e=>by cases e)]<;>(intro b e;cases e;first|rfl|with_unfolding_all rfl|kernel_rfl)
def Rj{K:W.Frag}:fP V K (.type "int") AP:=by calc#[?_,?_,?_,?_,?_,?_,?_,(λk C b e=>by cases e),(λk C b e=>by cases e)]<;>(intro b e;cases e;first|rfl|with_unfolding_all rfl|kernel_rfl)
end
noncomputable def b0 (cells:Wq):Wj->Wq->Wq|[],acc=>acc|(n,k)::r,acc=>b0 cells r (if (k==jz)=Zi then(match cells.lookup n with|some c=>(n,c)::acc|none=>acc)else acc)
def Rk(names)(acc)(h:∀x∈names,x.2=.free->∃c,env.cells.lookup x.1=B c):
  (forIn names acc (λ(x:Str×nB)(r:Wq)=>if (x.2==jz)=Zi then(do let c<-cellOf env x.1;pure (l8 ((x.1,c)::r)))else pure (l8 r)):Sem<|Wq)=pure (b0 env.cells names acc):=by
 induction names generalizing acc with|nil=>rfl|cons x r H=>
  let#[n,k]:=x;have j:=λa=>H a λy E=>h y<|Zm _ E
  rw[List.forIn_cons];by_cases m:(k==jz)=Zi
  .have C:k=.free:=by cases k<;>first|rfl|show absurd m 01
   let#[c,D]:=h (n,k) Z7 C;have F:cellOf env n=pure c:=by unfold cellOf;rw[D]
   simp![m,if_true,F,pure_bind];rw[j];simp![b0,m,if_true,D]
  .simp only[m,lT,if_false,pure_bind];rw[j];simp![b0,m,lT,if_false]
def wk(h:∀x∈scope.names,x.2=.free->∃c,env.cells.lookup x.1=B c):oY scope env=pure (b0 env.cells scope.names []):=by have e:=Rk scope.names [] h;have j:oY scope env=((forIn scope.names [] (λ(x:Str×nB)(r:Wq)=>if (x.2==jz)=Zi then(do let c<-cellOf env x.1;pure (l8 ((x.1,c)::r)))else pure (l8 r)):Sem<|Wq)>>=λs=>pure s):=rfl;rw[j,e];rfl
theorem AU:∀(names:Wj)(acc:Wq),(∀x c,acc.lookup x=B c->cells.lookup x=B c)->∀x c,(b0 cells names acc).lookup x=B c->cells.lookup x=B c
 |[],_,h,x,c,e=>h x c e
 |(n,k)::r,acc,h,x,c,e=>by
  calc AU r _ ?_ x c e;intro y d q;split at q
  .cases j:cells.lookup n with
   |none=>rw[j]at q;show h y d q
   |some a=>
    rw[j]at q;simp![i4]at q;cases O:y==n with
    |true=>rw[O]at q;cases q;rw[beq_iff_eq.mp O];show j
    |false=>rw[O]at q;show h y d q
  .show h y d q
theorem Gy:∀(names:Wj)(acc:Wq)(x:Str),(acc.lookup x).isSome=Zi->((b0 cells names acc).lookup x).isSome=Zi
 |[],_,_,h=>h
 |(n,k)::r,acc,x,h=>by
  calc Gy r _ x ?_;split
  .cases j:cells.lookup n with
   |none=>show h
   |some a=>
    simp![i4];cases O:x==n with
    |true=>rfl
    |false=>show h
  .show h
theorem Yf:∀(names:Wj)(acc:Wq)(x:Str)(c:Z4),(x,jz)∈names->cells.lookup x=B c->((b0 cells names acc).lookup x).isSome=Zi
 |[],_,_,_,h,_=>by simp at h
 |(n,k)::r,acc,x,c,h,hc=>by
  rcases ZA.mp h with e|e
  .let#[rfl,rfl]:=Prod.mk.inj e;calc Gy r _ _ ?_;simp[hc]
  .show Yf r _ x c e hc
theorem AV{env:Env}:∀{names:Wj}{x:Str}{k:nB},(names.map λ(n,k)=>if (k==jz&&env.scope.kind==.function&&env.kindOf n==B .cell)then(n,vB)else(n,k)).lookup x=B k ->∃k0,names.lookup x=B k0/\(k,k0)∈([(k0,k0),(.cell,.free)]:List<|nB×nB)
 |[],_,_,h=>by simp at h
 |(n,k1)::r,x,k,h=>by
  have E:=@AV env r x k;have j:rB x ((if (k1==jz&&env.scope.kind==.function&&env.kindOf n==B .cell)=Zi then(n,vB)else(n,k1))::_)=B k:=h;cases C:x==n with
  |true=>
   calc#[k1,by simp[i4,C],?_];by_cases D:(k1==jz&&env.scope.kind==.function&&env.kindOf n==B .cell)=Zi
   .simp_all
   .rw[if_neg D]at j;simp![i4,C]at j;cases j;simp
  |false=>
   have J:rB x (r.map λ(n,k)=>if (k==jz&&env.scope.kind==.function&&env.kindOf n==B .cell)then(n,vB)else(n,k))=B k:=by
    by_cases D:(k1==jz&&env.scope.kind==.function&&env.kindOf n==B .cell)=Zi
    .rw[if_pos D]at j;simpa only[i4,C]using j
    .rw[if_neg D]at j;simpa only[i4,C]using j
   let#[k0,e,m]:=E J;show#[k0,by simp![i4,C];show e,m]
theorem Gz{env:Env}:∀{names:Wj}{x:Str},names.lookup x=B .free ->∃k,(names.map λ(n,k)=>if (k==jz&&env.scope.kind==.function&&env.kindOf n==B .cell)then(n,vB)else(n,k)).lookup x=B k/\(k=.cell\/k=.free)
 |[],_,h=>by simp at h
 |(n,k1)::r,x,h=>by
  have C:=@Gz env r x;cases j:x==n with
  |true=>
   simp![i4,j]at h;cases h;by_cases m:(jz==jz&&env.scope.kind==.function&&env.kindOf n==B .cell)=Zi
   .show#[.cell,by rw[ZW];dsimp only;rw[if_pos m];simp![i4,j],.inl rfl]
   .show#[.free,by rw[ZW];dsimp only;rw[if_neg m];simp![i4,j],.inr rfl]
  |false=>
   simp![i4,j]at h;let#[k,e,q]:=C h;calc#[k,?_,q];rw[ZW];dsimp only;by_cases m:(k1==jz&&env.scope.kind==.function&&env.kindOf n==B .cell)=Zi
   .rw[if_pos m];simp![i4,j];show e
   .rw[if_neg m];simp![i4,j];show e
def fB(X:Cx)(N':Tk)(scope:eL)(C:Z4)(s:Zx)(H:Hp)(fp:Tu):Cx:={X with N:=N',s₀:=s,H₀:=H,env:=compEnvC scope (b0 X.env.cells scope.names []) C X.env,outer:=X.stack,ex:=fp,fn:=λ_=>Zl,pn:=[]}
noncomputable def QF (N0 loc caps:Tk)(js:Tq)(sc₀ scope:eL):Bool:=decide (scope.kind=.function)&&decide (sc₀.kind=.function)&&scope.names.all (λx=>!(x.2==.cell))&&scope.names.all (λx=>!(x.2==.local)||decide (scope.names.lookup x.1=B .local)) && scope.names.all (λx=>!(x.2==.free)||decide (sc₀.names.lookup x.1=B .cell)||decide (sc₀.names.lookup x.1=B .free)) && scope.names.all (λx=>!(decide (scope.names.lookup x.1=B .free))||(x.2==.free)) && (js.zip caps).all (λp=>decide (N0[p.1]?=B p.2)&&decide (scope.names.lookup p.2=B .free))&&decide (js.length=caps.length)&&decide (loc++caps).Nodup && loc.all (λn=>decide (scope.names.lookup n=B .local))
open Classical in
def JR(aZ:IH->Prop)(g:G1)(t:T1)(e:E1)(i0:Nat):Tw->aA->IH->Res IV|[],_,h=>if aZ h then .ok (.ref i0) h else .stuck|x::xs,U,h=>if aZ h then(match g x U h with|.next W1 h1=>(match t W1 h1 with|.ok Zi J=>(match e W1 J with|.ok v h3=>(match h3[i0]? with|some (.lst acc)=>if acc.length<sizeLine then JR aZ g t e i0 xs W1 (h3.set i0<|.lst<|acc++[v])else .stuck|_=>.stuck)|_=>.stuck)|.ok Zl J=>JR aZ g t e i0 xs W1 J|_=>.stuck)|_=>.stuck)else .stuck
noncomputable def stC (nloc:Nat)(js:Tq)(U:aA):aA:=fF nloc Ze++js.map λj=>(U[j]?).join
def Jv(it:I1)(nloc:Nat)(js:Tq)(g:G1)(t:T1)(e:E1):E1:=λU h=>(it U h).bind λbC h1=>JR bC.aZ g t e h1.length bC.xs (stC nloc js U)<|h1++[.lst []]
def Rm(I:Nat->Zx->Prop) (C:∀n s,I n s->Zw (Zy prog w) A (dX it) (λr s₁=>match r with
   |none=>R (.ok .next) s₁
   |some v=>Zw (Zy prog w) A (uA target it v) (λ_ s₁'=>Zw (Zy prog w) A (lO target env v) (λ_ s₂=>
     Zw (Zy prog w) A (forIn ifs Zi λc r=>if r=Zi then do let ok<-nN c env (a0 c env);pure (l8 ok)else pure (l8 r)) (λok s₃=>
      if ok=Zi then Zw (Zy prog w) A (a0 elt env) (λx s₄=>
       Zw (Zy prog w) A (call (.builtin "list.append") [acc,x]) (λ_ s₅=>∃m,m<n/\I m s₅) (λ_ _=>False) s₄) (λ_ _=>False) s₃
      else ∃m,m<n/\I m s₃) (λ_ _=>False) s₂) (λ_ _=>False) s₁') (λ_ _=>False) s₁) (λ_ _=>False) s)
  (n) (h:I n s):iN (Zy prog w) A (.compLoop (.ListComp elt [#[target,iter,ifs,0]] scope pos) 0 it acc env) R s:=by
 calc codeAny_loop rfl I (λn s D=>?_) n h;calc wpAny_noted<|mY ?_;rw[compTurn_list];refine Zb<|jI<|Zb<|c6 (C n s D) (λr s₁ h₁=>?_) λ_ _ j=>j
 cases r with
 |none=>show Zj h₁
 |some v=>
  refine Zb<|c6 h₁ (λ_ s₁' h₁'=>?_) λ_ _ j=>j
  refine Zb<|c6 h₁' (λ_ s₂ h₂=>Zb<|c6 h₂ (λok s₃ h₃=>?_) λ_ _ j=>j) λ_ _ j=>j
  cases ok with
  |false=>show Zj #[rfl,h₃]
  |true=>show Zb<|Zb<|c6 h₃ (λx s₄ h₄=>Zb<|c6 h₄ (λ_ s₅ h₅=>Zj<|Zj #[rfl,h₅]) λ_ _ j=>j) λ_ _ j=>j
def k7(V:aF)(X:Cx)(ifs:Te)(m:T1):Prop:=PX V X RB (forIn ifs Zi λc r=>if r=Zi then do let ok<-nN c X.env (a0 c X.env);pure (l8 ok)else pure (l8 r)) m
noncomputable def J7:T1:=λ_ h=>.ok Zi h
theorem GA:k7 V X [] J7:=λ_ s _ H Y _ _ _ _ N K=>wpAny_tests_nil<|K Zi s H Y N .refl rfl
theorem GB(C:gz V X c m):k7 V X [c] m:=λL s U H Y j h Q E N K=>wpAny_tests_one<|C L s U H Y j h Q E N K
def Vp(V:aF)(X:Cx)(use:Option<|Zo->Sem Unit)(L:aQ)(Y:Tu)(bF:aA)(U:L2.St)(H:Hp)(r:Res IV)(Q E:aH):Prop:=match r with|.ok v h'=>∀D C m s' H' Y',az V X L Y' bF h' U H' s'->aU Y H Y' H'->RU X.K Y' H' v (.ref D)->s'.heap.Ns C m->aB X L H' C->compPost (Zy X.prog X.w) X.A E use Q (.ref D) C (.ok .next) s'|.exc n h'=>∀pl a s' H' Y',az V X (L++pl) Y' bF h' U H' s'->aU Y H Y' H'->Y'[n]?=B a->E (.ref a) s'|.stuck=>False
def Vp.mono(k:Vp V X use L Y bF U H r Q E)(n:aU Y H Y' H'):Vp V X use L Y' bF U H' r Q E:=by cases r with|ok v J=>show λD C m j F I N n2 q=>k D C m j F I N (n.trans n2) q|exc m J=>show λpl a j F I N n2 q=>k pl a j F I N (n.trans n2) q|stuck=>show k
def p5(A:bP)(H:Hp):Prop:=∃a oe u vs,A.handled=B (.ref a)/\H a=B (.bh oe u)/\oe.data=.fields vs/\vs[2]?=B .none
theorem p5.mono(x:Ext H H')(w:p5 A H):p5 A H':=let ⟨a,C,u,F,E,j,m,D⟩:=w;#[a,C,u,F,E,x.aO _ _ _ j,m,D]
structure tL(P:ZU)(w:bq)(C:Cx->Hp->Prop)(tg:Expr)(bC:It)(fp:Tu)(it:Z4)(tn:Nat->aM->Prop):Prop where
 obj:∀i h,tn i h->∀b∈fp,∃o,h.get? b=B o/\∀v,o.data≠.cell v
 keep:∀i h h',tn i h->(∀b∈fp,∀o,h.get? b=B o->h'.get? b=B o)->tn i h'
 item:∀(X:Cx)(i:Nat)(s:Zx)(U:L2.St)(H:Hp),C X H->Inv X [] U H s->(∀b∈fp,aB X [] H b)->tn i s.heap->bC.go i H ->Zw (Zy P w) X.A (dX<|.ref it) (λr s1=>∃u,r=B u/\Zw (Zy P w) X.A (uA tg (.ref it) u) (λ_ s2=>∃x H',Inv X [] U H' s2/\RelV x u/\bC.zU i H x H'/\tn (i+1) s2.heap/\∀b∈fp,H' b=Ze) (λ_ _=>False) s1) (λ_ _=>False) s
 done:∀(X:Cx)(i:Nat)(s:Zx)(U:L2.St)(H:Hp),C X H->Inv X [] U H s->(∀b∈fp,aB X [] H b)->tn i s.heap->bC.stop i H->Zw (Zy P w) X.A (dX<|.ref it) (λr s1=>r=Ze/\Inv X [] U H s1) (λ_ _=>False) s
 self:∀(A:bP)(i:Nat)(s:Zx)(Q:aH)(E:aH),tn i s.heap->Q (.ref it) s->Zw (Zy P w) A (ke<|.ref it) Q E s
def Rn(X0:Cx)(X:Cx)(_:Hp):Prop:=X.prog=X0.prog/\X.w=X0.w/\X.K=X0.K/\X.calm=Zi
def AW(C:Cx->Hp->Prop)(V:aF)(X:Cx)(tg:Expr)(L:aQ)(Y':Tu)(I:jE)(itv:Zo)(s2:Zx)(H':Hp):Prop:=∃(it:Z4)(fp:Tu)(tn:Nat->aM->Prop)(bC:It),itv=.ref it/\tL X.prog X.w C tg bC fp it tn/\tn 0 s2.heap/\(∀b∈fp,aB X L H' b)/\gB V X.K Y' H' bC I
def GC(C:Cx->Hp->Prop)(V:aF)(X:Cx)(tg iter:Expr)(m:I1):Prop:=∀(L:aQ)(s:Zx)(U:L2.St)(H:Hp)(Y:Tu)(bF:aA)(h:IH)(Q:aH)(E:aH),az V X L Y bF h U H s ->(match m bF h with|.ok I h'=>∀itv s' H' Y',az V X L Y' bF h' U H' s'->aU Y H Y' H'->AW C V X tg L Y' I itv s' H'->Q itv s'|.exc n h'=>∀pl a s' H' Y',az V X (L++pl) Y' bF h' U H' s'->aU Y H Y' H'->Y'[n]?=B a->E (.ref a) s'|.stuck=>False) ->
  Zw (Zy X.prog X.w) X.A (a0 iter X.env) (λv s1=>Zw (Zy X.prog X.w) X.A (ke v) Q E s1) E s
theorem jf.c(p:jf V X tg iter m):GC (Rn X) V X tg iter m:=λL s U H Y D h Q E N k=>p L s U H Y D h Q E N (by
 cases e:m D h with|exc n P=>rw[e]at k;show k|stuck=>rw[e]at k;show k|ok I P=>
  rw[e]at k;intro j F O R J M ⟨it,fp,S,W,Z,T,r⟩;refine k j F O R J M #[it,fp,S,W,Z,#[T.obj,T.keep,λC i s U H c=>?_,λC i s U H c=>?_,T.self],r]
  .show T.item C c.1 c.2.1 c.2.2.1 c.2.2.2 i [] s U H _
  .show T.done C c.1 c.2.1 c.2.2.1 c.2.2.2 i [] s U H _)
section
variable{V:aF}{X:Cx}
def GD{mt:T1}(Z:GC Cc V X tg iter mi)
  (hg:∀C s H fp,je V (fB X (loc++caps) scope C s H fp) tg g)(ht:∀C s H fp,k7 V (fB X (loc++caps) scope C s H fp) ifs mt)(he:∀C s H fp,ah V (fB X (loc++caps) scope C s H fp) elt me)
  (ok:QF N0 loc caps js sc₀ scope=Zi)(hN0:X.N=N0:=by rfl)(hsc:X.env.scope=sc₀:=by rfl)(hs:∀x,si iter X.env x=pure x:=by intro _;rfl)
  (hcc:∀C s H1 fp H',Ext H H'->Cc (fB X (loc++caps) scope C s H1 fp) H')(N:az V X L Y bF h U H s)(K:Vp V X use L Y bF U H (Jv mi loc.length js g mt me bF h) Q E):
  Zw (Zy X.prog X.w) X.A (comprehension (.ListComp elt [#[tg,iter,ifs,0]] scope pos) scope X.env ppos (newList []) Zl (a0 iter X.env) use) Q E s:=by
 simp![QF,Zs,decide_eq_true_eq,mK,nZ,kD,beq_iff_eq,beq_eq_false_iff_ne]at ok;let#[#[#[#[#[#[#[#[#[kF,kF0],kNC],kL],kFr],kFx],kJ],kLen],kNd],kLo]:=ok;have hfree:∀x∈scope.names,x.2=.free->X.env.kindOf x.1=B .cell\/X.env.kindOf x.1=B .free:=λx hx W=>by
  have e:X.env.kindOf x.1=sc₀.names.lookup x.1:=by rw[<-hsc];rfl
  rw[e];rcases kFr x hx with(z|z)|z
  .show absurd W z
  .show .inl z
  .show .inr z
 have hclos:oY scope X.env=pure (b0 X.env.cells scope.names []):=wk λx hx W=>N.inv.ok.has x.1<|hfree x hx W
 calc wpAny_comprehension_free (use:=use) (e:=.ListComp elt [#[tg,iter,ifs,0]] scope pos) rfl hs hclos kF (λx hx hl=>(kL x hx).resolve_left λz=>z hl) ?_;calc Z L s U H Y bF h _ E N ?_;unfold Jv at K;cases e0:mi bF h with|exc n h'=>rw[e0]at K;show K|stuck=>rw[e0]at K;show K|ok P h1=>
  rw[e0]at K;intro itv s1 H1 U1 N1 n1 RI;let#[it,fp,tn,bC,e,T,st1,f1,OK]:=RI;subst e
  -- the list
  calc j7 ?_;have fresh1:H1 s1.heap.objs.size=Ze:=N1.inv.au.fresh<|Zk _;have I2:Inv X L U (upd H1 s1.heap.objs.size<|.lst []) {s1 with heap:=s1.heap.push {cls:=.type "list",dict:=Ze,data:=.seq ([]:Tv).toArray} }:=
   N1.inv.laid (t':=s1.toks) (λb u e=>Zg _ e) (Zk _) #[ZF _,[],0,.nil,Zt _ rfl]
  let#[R2,n2]:=N1.rel.alloc (o:=.lst []) (io:=.lst []) fresh1 #[[],Jx,rfl];generalize hs2:({s1 with heap:=s1.heap.push {cls:=.type "list",dict:=Ze,data:=.seq ([]:Tv).toArray} }:Zx)=M at I2 ⊢;generalize hD:s1.heap.objs.size=D at *;generalize hH2:upd H1 D (.lst [])=R at *;have N2:az V X L (U1++[D]) bF (h1++[.lst []]) U R M:=#[I2,R2,N1.st.mono n2];have keep12:∀b o,s1.heap.get? b=B o->M.heap.get? b=B o:=λb o q=>by rw[<-hs2];show Zg _ q
  have st2:tn 0 M.heap:=T.keep 0 _ _ st1 λb _ o q=>keep12 b o q
  have hat:(U1++[D])[h1.length]?=B D:=by rw[<-N1.rel.len,ZN<|Zk _];simp
  have f2:∀b∈fp,aB X L R b:=λb O=>by
   calc#[?_,(f1 b O).2];let#[o,ho,_]:=T.obj 0 _ st1 b O;have:b≠D:=Z1<|by rw[<-hD];show Z0 ho
   rw[<-hH2,Jp this];show(f1 b O).1
  -- the block's own dict
  calc wpAny_newFunctionEnv (λx hx=>kNC x hx) (by intro y hy;simp at hy) (λh3 hns3 hsb3=>?_) kF;generalize hC:M.heap.objs.size=C at *;have J:∀b o,M.heap.get? b=B o->h3.get? b=B o:=λb o q=>(hsb3.2 b<|Z1<|by rw[<-hC];show Z0 q).trans<|Zg _ q
  have F:∀x c,(b0 X.env.cells scope.names []).lookup x=B c->X.env.cells.lookup x=B c:=AU _ _ (λx c q=>by simp at q)
  -- the context of the block
  have okX:(fB X (loc++caps) scope C M R fp).Ok:=by
   refine#[N.inv.ok.mod,kF,N.inv.ok.glob,N.inv.ok.blt,Zn hC,λx y c a b=>N.inv.ok.inj x y c (F x c a)<|F y c b,λx hx=>?_,λx c z=>?_,λhc=>I2.cN hc,N.inv.ok.frames,.inl rfl,λb O=>?_,λb o q=>I2.bs b o q,
    Zc N.inv.ok.jB I2.sz,λb o q O=>?_,λb O z=>?_,I2.stack,I2.dB]
   .have hx':(relabel scope X.env).names.lookup x=B .cell\/(relabel scope X.env).names.lookup x=B .free:=hx;have hfr:scope.names.lookup x=B .free:=by
     rcases hx' with z|z
     .let#[k0,e,m]:=AV z;simp![ZA,Prod.mk.injEq,iR,or_false]at m;rcases m with⟨m1,_⟩|⟨_,m2⟩
      .show absurd (kNC _<|jH e) (by rw[<-m1];intro q;show q rfl)
      .rw[m2]at e;show e
     .let#[k0,e,m]:=AV z;simp![ZA,Prod.mk.injEq,iR,or_false]at m;rcases m with⟨m1,_⟩|⟨m1,_⟩
      .rw[<-m1]at e;show e
      .cases m1
    have hm:=jH hfr;let#[c,hc']:=N.inv.ok.has x<|hfree (x,.free) hm rfl;show qI.mp<|Yf _ _ x c hm hc'
   .show absurd (show Zl=Zi from z) Zz
   .have hbD:=f2 b O;let#[o,ho,_]:=T.obj 0 _ st2 b O;show#[Z1 (by change b<C;rw[<-hC];show Z0 ho),λx c q=>hbD.2.2.2.2.1 x c<|F x c q]
   .rcases(f2 b O).2.2.2.1 with z|z
    .show N.inv.ok.ja b o q z
    .show i3 _<|ZD (Z0 q)<|Zc N.inv.ok.jB z
   .rcases ZA.mp (I2.jb b z)with e|e
    .show(f2 b O).2.1 e
    .show(f2 b O).2.2.1 e
  -- the block's state
  have lenJ:js.length=caps.length:=kLen;have stl:(stC loc.length js bF).length=(loc++caps).length:=by simp[stC,lenJ]
  have R3:Rel V X.K (U1++[D]) (h1++[.lst []]) R:=R2;have I3:Inv (fB X (loc++caps) scope C M R fp) [] (fF loc.length Ze++js.map λj=>(U[j]?).join) R {M with heap:=h3,toks:=M.toks+([]:Wn).length}:=by
   refine#[okX,rfl,I2.bare,Un.kept J,#[_,hns3,λi x v a b c=>?_],λx c q=>?_,I2.au.fresh<|Zn hC,λx c q=>I2.bT x c<|F x c q,λp hp=>absurd (show p∈([]:aQ)from hp) 03,I2.au.kept J,by change _=(loc++caps).length;simp[lenJ]]
   .have Z:loc.length<=i:=by
     refine ZO λS=>?_
     rw[ZE (by simpa using S),uY]at b;split at b<;>cases b
    obtain⟨k,rfl⟩:∃k,i=loc.length+k:=#[i-loc.length,gf (Zn (q7 Z).symm)<|kh Z<|Zk _];have a':(loc++caps)[loc.length+k]?=B x:=a;rw[ZN 00]at a';rw[ZN 03]at b;simp![Nat.add_sub_cancel_left,sP,Z5]at a' b;cases ej:js[k]? with|none=>rw[ej]at b;cases b|some j=>
     rw[ej]at b;have b':(U[j]?).join=B v:=i6 b;have hZ:U[j]?=B (B v):=by cases es:U[j]? with|none=>rw[es]at b';cases b'|some o=>rw[es]at b';rw[show o=B v from b']
     have hz:=kJ (j,x) (List.mem_iff_getElem?.mpr #[k,by rw[List.getElem?_zip_eq_some];show#[ej,a']]);let#[hx1,hx2]:=hz;let#[m,hn,hl]:=I2.loc;have W:=hfree (x,.free) (jH hx2) rfl;let#[u,ru,lk]:=hl j x v (by rw[hN0];show hx1) hZ (by rcases W with q|q;show .inr (.inl q);show .inr (.inr q));rcases lk with⟨q,_⟩|⟨q,c,hc',hcell⟩
     .rcases W with q'|q'<;>(rw[q']at q;cases q)
     .let#[kk,ek,hkk]:=Gz (env:=X.env) hx2;have hcl:=Yf (cells:=X.env.cells) scope.names [] x c (jH hx2) hc';let#[c',hc2]:=qI.mp hcl;have:=F x c' hc2;rw[hc']at this;cases this;let#[oc,hoc,hd]:=hcell;calc#[u,ru,.inr #[?_,c,hc2,oc,J _ _ hoc,hd]];rcases hkk with rfl|rfl
      .show .inl ek
      .show .inr ek
   .let#[v,o,ho,hd]:=I2.cell x c<|F x c q;show#[v,o,J _ _ ho,hd]
  have N3:az V (fB X (loc++caps) scope C M R fp) [] (U1++[D]) (stC loc.length js bF) (h1++[.lst []]) (fF loc.length Ze++js.map λj=>(U[j]?).join) R {M with heap:=h3,toks:=M.toks+([]:Wn).length}:=by
   calc#[I3,R3,by simp[stC],λi v q=>?_];unfold stC at q;have Z:loc.length<=i:=by
    refine ZO λS=>?_
    rw[ZE (by simpa using S),uY]at q;split at q<;>cases q
   rw[ZN<|by simpa using Z]at q;simp![sP,Z5]at q;cases ej:js[i-loc.length]? with|none=>rw[ej]at q;cases q|some j=>
    rw[ej]at q;have q':(bF[j]?).join=B v:=i6 q;have hZ:bF[j]?=B (B v):=by cases es:bF[j]? with|none=>rw[es]at q';cases q'|some o=>rw[es]at q';rw[show o=B v from q']
    let#[u,hu,qu]:=N2.st.at_ j v hZ;calc#[u,?_,qu];rw[ZN<|by simpa using Z];simp![sP,Z5,ej,Option.map_some,hu];rfl
  have st3:tn 0 h3:=T.keep 0 _ _ st2 λb _ o q=>J b o q
  have K2:Vp V X use L (U1++[D]) bF U R (JR P.aZ g mt me h1.length P.xs (stC loc.length js bF)<|h1++[.lst []]) Q E:=Vp.mono (r:=JR P.aZ g mt me h1.length P.xs (stC loc.length js bF)<|h1++[.lst []]) K<|n1.trans n2;have loop:iN (Zy X.prog X.w) X.A (.compLoop (.ListComp elt [#[tg,iter,ifs,0]] scope pos) 0 (.ref it) (.ref D)<|compEnvC scope (b0 X.env.cells scope.names []) C X.env) (compPost (Zy X.prog X.w) X.A E use Q (.ref D) C)
    {M with heap:=h3,toks:=M.toks+([]:Wn).length}:=by
   refine Rm (λn s'=>∃k Pk Uk W U' H',az V (fB X (loc++caps) scope C M R fp) [] Pk Uk W U' H' s'/\aU (U1++[D]) R Pk H'/\tn k s'.heap/\(∀b∈fp,H' b=Ze)/\n=P.xs.length-k/\k<=P.xs.length/\Vp V X use L Pk bF U H' (JR P.aZ g mt me h1.length (P.xs.drop k) Uk W) Q E) ?_ P.xs.length
    #[0,U1++[D],stC loc.length js bF,h1++[.lst []],_,R,N3,.refl,st3,λb O=>(f2 b O).1,03,ZF _,by simpa using K2]
   have stat:∀{H':Hp},(∀b∈fp,H' b=Ze)->∀b∈fp,aB (fB X (loc++caps) scope C M R fp) [] H' b:=λhn b O=>
    #[hn b O,(okX.rR b O).1,okX.ib b O,.inl O,(okX.rR b O).2,λp hp=>absurd (show p∈([]:aQ)from hp) 03]
   rintro n s4 ⟨k,Pk,Uk,W,U4,H4,N4,n4,st4,fr4,rfl,hkl,I⟩;by_cases S:k<P.xs.length
   .have hd:P.xs.drop k=P.xs[k]::P.xs.drop (k+1):=pb S;rw[hd]at I;unfold JR at I;split at I
    .rename_i hck;let#[go,yl]:=OK.go k P.xs[k] W H4 Pk (n2.trans n4) N4.rel hck<|Zd S;refine rT (T.item (fB X (loc++caps) scope C M R fp) k s4 U4 H4 (hcc _ _ _ _ _ (n1.trans<|n2.trans n4).ext) N4.inv (stat fr4) st4 go) λr s5 ⟨u,hr,h5⟩=>?_
     subst hr;refine rT h5 λ_ s6 ⟨x,H6,I6,r6,y6,st6,fr6⟩=>?_
     let#[R6,n6,q6]:=yl x H6 y6;have I6':=I6.pinned (stat fr6)<|T.obj _ _ st6;have N6:az V (fB X (loc++caps) scope C M R fp) ([]++QO fp s6.heap) Pk Uk W U4 H6 s6:=#[I6',R6,N4.st.mono n6];have again:∀{U7:L2.St}{H7:Hp}{s7:Zx}{U7i:aA}{h7:IH}{W7:Tu},az V (fB X (loc++caps) scope C M R fp) ([]++QO fp s6.heap) W7 U7i h7 U7 H7 s7->aU Pk H6 W7 H7->Vp V X use L Pk bF U H4 (JR P.aZ g mt me h1.length (P.xs.drop<|k+1) U7i h7) Q E ->
       ∃m,m<P.xs.length-k/\∃k Pk Uk W U' H',az V (fB X (loc++caps) scope C M R fp) [] Pk Uk W U' H' s7/\aU (U1++[D]) R Pk H'/\tn k s7.heap/\(∀b∈fp,H' b=Ze)/\m=P.xs.length-k/\k<=P.xs.length/\Vp V X use L Pk bF U H' (JR P.aZ g mt me h1.length (P.xs.drop k) Uk W) Q E:=
      λ{U7 H7 s7 U7i h7 W7} N7 n7 K7=>by have nn:aU Pk H4 W7 H7:=n6.trans n7;calc#[P.xs.length-(k+1),sH _ _ 06,k+1,W7,U7i,h7,U7,H7,N7.pins,n4.trans nn,T.keep _ _ _ st6 λb O o e=>(N7.inv.pin (b,o)<|Zr _<|Zr _<|Yz O e).1,λb O=>?_,rfl,S,K7.mono nn];let#[o,e,d]:=T.obj _ _ st6 b O;show(N7.inv.pin (b,o)<|Zr _<|Zr _<|Yz O e).2.1
     cases eg:g P.xs[k] Uk W with
     |next Ug hgg=>
      rw[eg]at I;dsimp only at I;calc hg C M R fp _ s6 U4 H6 Pk Uk W _ u (λ_ s7=>Zw (Zy X.prog X.w) X.A (forIn ifs Zi λc r=>if r=Zi then do let ok<-nN c _ (a0 c _);pure (l8 ok)else pure (l8 r)) _ _ s7) (λ_ _=>False) N6 #[x,r6,q6] ?_;rw[eg];intro s7 U7 H7 W7 N7 n7;calc ht C M R fp _ s7 U7 H7 W7 Ug hgg _ (λ_ _=>False) N7 ?_;cases et:mt Ug hgg with
      |ok c h8=>
       rw[et]at I;intro d s8 H8 U8 N8 n8 rd;have rd':d=c:=rd;subst rd';cases d with|false=>show again N8 (n7.trans n8) I|true=>
        dsimp only at I;calc he C M R fp _ s8 U7 H8 U8 Ug h8 _ (λ_ _=>False) N8 ?_;cases ee:me Ug h8 with
        |ok v h9=>
         rw[ee]at I;dsimp only at I;intro w s9 H9 U9 N9 n9 rw9;have hat9:U9[h1.length]?=B D:=(((n4.trans n6).trans n7).trans<|n8.trans n9).at hat;cases hl:h9[h1.length]? with|none=>rw[hl]at I;show Zf I|some ob=>
          rw[hl]at I;cases ob with
          |lst acc=>
           dsimp only at I;split at I
           .rename_i hz;let#[vs,eD,rD]:=N9.at hl hat9;let#[wv,rw9,qw]:=rw9;have ap:=FR (X:=(fB X (loc++caps) scope C M R fp).aT λ_ _=>False) ([]++QO fp s6.heap) s9 U7 H9 (.ref D) [wv] (.ref D) [w] (λ_ H'=>H'=upd H9 D (.lst<|vs++[wv])) (N9.inv.aT _) rfl (.cons rw9 .nil) #[D,vs,wv,rfl,rfl,eD,by rw[rD.length];show hz,rfl];refine c6 ap (λ_ s10 hq=>?_) λ_ _ z=>z
            let#[z,H10,I10,_,rfl]:=hq;have n10:aU U9 H9 U9 (upd H9 D<|.lst<|vs++[wv]):=#[#[[],03],Ext.cJ eD<|by rw[eD];show fJ];let#[R10,_]:=N9.rel.write (o:=.lst<|vs++[wv]) (io:=.lst<|acc++[v]) hat9 eD (by rw[eD];show fJ) #[_,Jx,(aw.mono n10 _ _ rD).append<|aw.one<|RV.mono n10 _ _ qw];show again #[I10.aG,R10,N9.st.mono n10] (((n7.trans n8).trans n9).trans n10) I
           .show Zf I
          |_=>show Zf I
        |_=>rw[ee]at I;show Zf I
      |_=>rw[et]at I;show Zf I
     |_=>rw[eg]at I;show Zf I
    .show Zf I
   .have hke:P.xs.drop k=[]:=yP<|ZO S;rw[hke]at I;unfold JR at I;split at I
    .rename_i hck;have stop:=OK.stop k W H4 Pk (n2.trans n4) N4.rel hck<|ZO S;refine rT (T.done (fB X (loc++caps) scope C M R fp) k s4 U4 H4 (hcc _ _ _ _ _ (n1.trans<|n2.trans n4).ext) N4.inv (stat fr4) st4 stop) λr s5 ⟨hr,I5⟩=>?_
     subst hr;let#[m,hnm,_]:=I5.loc
     -- back to the def's own frame
     have hos:s5.os=M.os:=I5.os;let#[hp5,g5,d5,t5,os5]:=s5;obtain rfl:os5=M.os:=hos;have J5:Inv X L U H4 {M with heap:=hp5,gens:=g5,drawn:=d5,toks:=t5}:=I2.call (ch:=fp) I5.base I5.au I5.bare λb O=>#[(f2 b O).2.2.2.1,(f2 b O).2.1,(f2 b O).2.2.2.2.1,(f2 b O).2.2.2.2.2]
     have fC:aB X L H4 C:=I2.df (Zn hC) I5.free;show I D C m _ H4 Pk #[J5,N4.rel,(N2.st.mono n4)] .refl #[.ref D,rfl,D,rfl,n4.at hat] hnm fC
    .show Zf I
  show codeAny_compStart_list loop<|T.self X.A 0 _ _ _ st3 loop
theorem az.oG{L:aQ}(N:az V X L Y bF h U H s)(j:aB X L H C)(m:jx C s.heap h'):az V X L Y bF h U H {s with heap:=h'}:=
 #[N.inv.turned (λb o O q=>(m.2 b O).trans q) j.1 j.2.1 j.2.2.2.1 j.2.2.2.2.1 j.2.2.2.2.2,N.rel,N.st]
def GF{M:T1}(hc:X.calm=Zi)(Z:jf V X tg iter mi) (hg:∀C s H fp,je V (fB X (loc++caps) scope C s H fp) tg g)(ht:∀C s H fp,k7 V (fB X (loc++caps) scope C s H fp) ifs M)(he:∀C s H fp,ah V (fB X (loc++caps) scope C s H fp) elt me) (ok:QF N0 loc caps js sc₀ scope=Zi)(F:X.N=N0:=by rfl)(j:X.env.scope=sc₀:=by rfl)(hs:∀x,si iter X.env x=pure x:=by intro _;rfl):ah V X (.ListComp elt [#[tg,iter,ifs,0]] scope pos) (Jv mi loc.length js g M me):=by intro L s U H Y P h Q E N K;calc GD Z.c hg ht he ok F j hs (λ_ _ _ _ _ _=>#[rfl,rfl,rfl,hc]) N ?_;cases I:Jv mi loc.length js g M me P h with|exc n h'=>rw[I]at K;show K|stuck=>rw[I]at K;show K|ok v h'=>rw[I]at K;show λD C m s' W Y' R S r O fC=>#[m,O,λJ sb=>K _ _ W Y' (R.oG fC sb) S r]
def GG{mt:T1}(hc:X.calm=Zi)(Z:jf V X tg iter mi) (hg:∀C s H fp,je V (fB X (loc++caps) scope C s H fp) tg g)(ht:∀C s H fp,k7 V (fB X (loc++caps) scope C s H fp) ifs mt)(he:∀C s H fp,ah V (fB X (loc++caps) scope C s H fp) elt me) (ok:QF N0 loc caps js sc₀ scope=Zi)(hN0:X.N=N0:=by rfl)(hsc:X.env.scope=sc₀:=by rfl)(hs:∀x,si iter X.env x=pure x) (hN:X.N.Nodup)(hix:X.N[i]?=B x)(hlx:Loc X.env.scope x)(hf:X.fn x=Zi\/X.env.scope.names.lookup x=B .local) (hsw:nH (.ListComp elt [#[tg,iter,ifs,0]] scope pos) (B<|.Name x pos2) pos3.line X.env=pure Zi):cD V X (.Assign [.Name x pos2] (.ListComp elt [#[tg,iter,ifs,0]] scope pos) pos3) (Jj i<|Jv mi loc.length js g mt me):=by
 intro L s U H Y bF h Q E N K;rw[exec_Assign_Name_used _ _ _ _ hsw];calc Zb<|jI<|Zb ?_;calc Zb ?_;calc GD Z.c hg ht he ok hN0 hsc hs (λ_ _ _ _ _ _=>#[rfl,rfl,rfl,hc]) N ?_;unfold Jj at K;cases e0:Jv mi loc.length js g mt me bF h with|exc n h'=>rw[e0]at K;show λpl a F I S P n' q=>K pl a F U I S P n' q F<|.inl rfl|stuck=>rw[e0]at K;show K|ok v h'=>
  rw[e0]at K;intro D C m F I S P n' r hns fC;let#[w,rw',q]:=r;let#[W,es,ep,M,R,j]:=id hns;have hp:Inv X (L++QO [C] F.heap) U I F:=P.inv.pinned (λb O=>(show b=C by simpa using O)▸fC) (λb O=>by
   have e:b=C:=by simpa using O
   subst e;show#[W,M,λv z=>by rw[R]at z;cases z])
  calc wpAny_assign_Name<|YA hp hN hix hlx rw' (λs2 I2=>?_) hf;have hC2:=(I2.pin (C,W)<|Zr _<|Zr _<|Yz 03 M).1;calc#[m,#[W,es,ep,hC2,R,j],λJ sb=>Zj ?_];have N2:az V X L S (bF.set i<|B v) h' (U.set i<|B w) I s2:=#[I2.ig,P.rel,P.st.set i q];show Zj<|K _ _ I S (N2.oG fC sb) n'
noncomputable def VH (x:Str):Tw:=x.cps.toList.map λc=>.str ⟨#[c]⟩
def wm(x:Str):It:=#[λi _=>i<x.cps.size,λi H y H'=>H'=H/\∃c,x.cps[i]?=B c/\y=.str ⟨#[c]⟩,λi _=>x.cps.size<=i]
theorem GH{P:ZU}{w:bq}{K:W.Frag}{tg:Expr}{x:Str}{t:Tok}(it:Z4)(F:["enumerate","zip","dict_itemiterator","dict_reverseitemiterator","odict_iterator","itertools.zip_longest","itertools.pairwise"].contains ty=Zl) (Wi:∀(A:bP)(E:aH)(s:Zx)(i c:Nat)(Q:Tc->Zx->Prop),s.heap.IsStrIter it ty x t i->x.cps[i]?=B c->(∀h',h'.IsStrIter it ty x t (i+1)->jx it s.heap h'->Q (B<|.str ⟨#[c]⟩ s.toks) {s with heap:=h',toks:=s.toks+1})->Zw (Zy P w) A (dX<|.ref it) Q E s) (We:∀(A:bP)(E:aH)(s:Zx)(i:Nat)(Q:Tc->Zx->Prop),aE A s.heap->s.heap.IsStrIter it ty x t i->x.cps[i]?=Ze->(∀h',eQ it s.heap h'->Q Ze {s with heap:=h'})->Zw (Zy P w) A (dX<|.ref it) Q E s) (Ws:∀(A:bP)(E:aH)(s:Zx)(i:Nat)(Q:aH),s.heap.IsStrIter it ty x t i->Q (.ref it) s->Zw (Zy P w) A (ke<|.ref it) Q E s):Turn P w K tg (wm x) [it] it (λi h=>h.IsStrIter it ty x t i) where
 mem:=03
 obj:=λi h st b O=>by
  have e:b=it:=by simpa using O
  subst e;let#[o,e,c,d]:=st;show#[o,e,λv z=>by rw[d]at z;cases z]
 keep:=λi h h' st k=>by let#[o,e,r]:=st;show#[o,k it 03 o e,r]
 item:=by
  intro X hP hw M hc i L s U H E I D st j;subst hP hw M;let#[R,V,f2,Y,S,J]:=D it 03;have j:i<x.cps.size:=j;have m:=lX j;refine Wi X.A _ s i _ _ st m λh' C sb=>?_
  have I1:Inv X L U H {s with heap:=h',toks:=s.toks+1}:=I.turned (λb o O e=>(sb.2 b O).trans e) R V Y S J;let#[o,e,c1,d1]:=id C;show#[_,rfl,vN (s:={s with heap:=h',toks:=s.toks+1}) e c1 d1 F #[.str ⟨#[_]⟩,H,I1,#[_,rfl],#[rfl,_,m,rfl],C,λb O=>(D b O).1]]
 done:=by
  intro X hP hw M hc i L s U H E I D st j;subst hP hw M;let#[R,V,f2,Y,S,J]:=D it 03;have Z:x.cps.size<=i:=j;have hx:x.cps[i]?=Ze:=by simp[Z]
  show We X.A _ s i _ (I.cw hc) st hx λh' eb=>#[rfl,I.turned (t':=s.toks) (λb o O e=>eb b o O e) R V Y S J]
 self:=λA i s Q E st h=>Ws A E s i Q st h
def wq:IV->IH->Res jE|.str x,h=>.ok #[VH x,λ_=>True] h|_,_=>.stuck
def p6(e:E1):I1:=λU h=>(e U h).bind wq
def GI:gB V X.K Y H₀ (wm x) #[VH x,λ_=>True]:=by
 refine#[λk v h H D C R m j=>?_,λk h H D C R m j=>?_]
 .have I:k<x.cps.size:=by have:=(Zu.mp j).1;simpa[VH]using this
  calc#[I,λy J F=>?_];let#[rfl,c,E,rfl]:=F;simp![VH,Z5,vq,E]at j;cases j;show#[R,.refl,rfl]
 .have:(VH x).length=x.cps.size:=by simp[VH]
  change x.cps.size<=k;rw[<-this];show j
def Ro(hl:ah V X l ml):jf V X tg l (p6 ml):=by
 intro L s U H Y R h Q E N K;calc hl L s U H Y R h _ E N ?_;unfold p6 at K;cases J:ml R h with|exc n W=>rw[J]at K;show K|stuck=>rw[J]at K;show K|ok v W=>
  rw[J]at K;intro u m M S j n1 Z;let#[w,I,q]:=Z;have fresh:∀b∈[m.heap.objs.size],aB X L M b:=λb O=>by
   have e:b=m.heap.objs.size:=by simpa using O
   subst e;show j.inv.df (Zk _)<|j.inv.au.fresh<|Zk _
  cases v with
  |str x=>have e1:w=.str x:=q;subst e1;let#[t,rfl]:=I;simp![Res.bind,wq]at K;cases ha:x.cps.all (· < 128)with|true=>calc wpAny_pyIter_ascii ha<|K _ _ M S #[j.inv.kept (t':=m.toks) λb o e=>Zg _ e,j.rel,j.st] n1 ?_;show#[m.heap.objs.size,[m.heap.objs.size],_,wm x,rfl,GH (ty:="str_ascii_iterator") (t:=t) _ 01 (λA E s i c Q st D C=>wpAny_pyNext_ascii_item st D C) (λA E s i Q P st D C=>M4 P st D C) λA E s i Q st F=>wpAny_pyIter_striter_ascii st F,#[_,Zt _ rfl,rfl,rfl],fresh,GI]|false=>calc wpAny_pyIter_wide ha<|K _ _ M S #[j.inv.kept (t':=m.toks) λb o e=>Zg _ e,j.rel,j.st] n1 ?_;show#[m.heap.objs.size,[m.heap.objs.size],_,wm x,rfl,GH (ty:="str_iterator") (t:=t) _ 01 (λA E s i c Q st D C=>wpAny_pyNext_wide_item st D C) (λA E s i Q P st D C=>M5 P st D C) λA E s i Q st F=>wpAny_pyIter_striter_wide st F,#[_,Zt _ rfl,rfl,rfl],fresh,GI]
  |_=>simp![Res.bind,wq]at K
def AX(K:W.Frag)(a:Z4):It:=#[λi H=>∃xs x,bU K H a xs/\xs[i]?=B x,λi H y H'=>∃p x,H p=Ze/\y=.ref p/\H'=upd H p (.tup [.int (i:Int),x])/\∀xs,bU K H a xs->xs[i]?=B x,λi H=>∃xs,bU K H a xs/\xs.length<=i]
def GJ(I:Inv X L U H s)(M:aB X L H e)(F:aB X L H it)(le:e<s.heap.objs.size)(R:it<s.heap.objs.size)(k2:∀b o,b≠e->b≠it->s.heap.get? b=B o->J.get? b=B o)(t2:J.get? s.heap.objs.size=B {cls:=.type "tuple",data:=.seq (ba [.int i tk,y])})(V:RelV x y):
  Inv X L U (upd H s.heap.objs.size<|.tup [.int (i:Int),x]) {s with heap:=J,toks:=t'}/\∀b∈[e,it],upd H s.heap.objs.size (.tup [.int (i:Int),x]) b=Ze:=by
 have hn:H s.heap.objs.size=Ze:=I.au.fresh<|Zk _;have j:∀b u,H b=B u->b≠s.heap.objs.size:=λb u q=>QN q hn
 have D:∀b o,b∉[e,it]->s.heap.get? b=B o->J.get? b=B o:=λb o C=>k2 b o (λz=>C<|by simp[z]) (λz=>C<|by simp[z])
 have E:∀b∈[e,it],aB X L H b/\b<s.heap.objs.size:=λb O=>by
  simp![ZA,iR,or_false]at O;rcases O with rfl|rfl
  .show#[M,le]
  .show#[F,R]
 refine#[I.step (g':=s.gens) (d':=s.drawn) (ch:=[e,it]) (λb O=>?_) (λb o _ _ C q _=>D b o C q) (λb o _ _ C q _=>#[o.slots,D b o C q]) (λb o _ q n=>?_)
  (λb o C q=>#[o,D b o C q]) (λb xs q=>by rw[Jp<|j b _ q];show q) (λb o u q=>by rw[Jp<|j b _ q];show q) (λb ps q=>#[#[],by rw[Jp<|j b _ q,q];simp]) (λm hm=>?_) (λb u q=>?_) I.bare,λb O=>?_]
 .have f:=(E b O).1;show#[f.2.2.2.1,f.2.1,f.2.2.2.2.1,f.2.2.2.2.2]
 .rw[Jp<|Z1<|Z0 q];show n
 .let#[o,Q,P,S,r]:=hm;show#[o,Q,P,k2 _ o (ZP M.2.1) (ZP F.2.1) S,r]
 .by_cases O:b=s.heap.objs.size
  .subst O;rw[Jx]at q;cases q;show#[by change 2<=sizeLine;decide,[.int i tk,y],.cons #[_,rfl]<|.cons V .nil,#[_,t2,rfl,_,rfl]]
  .rw[Jp O]at q;refine(I.au b u q).eS (λc v C r=>D c v (λz=>?_) r) (λc q=>by rw[Jp<|j c _ q];show q) λc W q=>by rw[Jp<|j c _ q];show q
   have:=(E c z).1.1;rcases C with rfl|w
   .rw[this]at q;cases q
   .rw[this]at w;cases w
 .rw[Jp<|Z1 (E b O).2];show(E b O).1.1
theorem Rp{P:ZU}{w:bq}{K:W.Frag}{es:Te}{k:Nat}{p:Pos}(a it e:Z4)(F:e≠it):Turn P w K (.Tuple es k p) (AX K a) [e,it] e (λi h=>(∃j,IsEnum h e it (i:Int) j)/\h.IsListIter it a i) where
 mem:=03
 obj:=λi h st b O=>by
  let#[#[j,m],o,e1,c,d]:=st;simp![ZA,iR,or_false]at O;rcases O with rfl|rfl
  .show#[_,m,λv z=>by have z':Data.fields _=sZ v:=z;cases z']
  .show#[o,e1,λv z=>by rw[d]at z;cases z]
 keep:=λi h h' st k=>#[let ⟨j,m⟩:=st.1;#[j,k e 03 _ m],st.2.at λo e=>k it 03 o e]
 item:=by
  intro X hP hw hK hc i L s U H E I R st Y;subst hP hw hK;let#[#[j,m],C]:=st;let#[xs,x,M,Q]:=Y;let#[its,Z,pl,hz]:=I.list M;let#[u,hu,ru]:=Z.get Q;have fe:=R e 03;have fi:=R it 03;refine wpAny_pyNext_enum_item m C pl.isList (x:=u) (by simpa using hu) F λh' V D ht hsz kk=>?_
  calc#[_,rfl,Ey V λJ he2 sb=>?_];have m3:=Z0 m;let#[oi,S,_]:=id C;let#[o,q,r]:=D;let#[I1,f1]:=GJ (t':=s.toks+1) I fe fi m3 (Z0 S) (λb o h1 h3 q=>(sb.2 b h1).trans<|kk b o h1 h3 q) ((sb.2 _<|d0 m3).trans ht) ru;show#[.ref s.heap.objs.size,_,I1,rfl,#[s.heap.objs.size,x,I.au.fresh<|Zk _,rfl,rfl,λys hy=>by rw[I.ic hy M];show Q],#[#[_,he2],o,(sb.2 it<|ZP F).trans q,r],f1]
 done:=by intro X hP hw hK hc i L s U H E I R st Y;subst hP hw hK;let#[#[j,m],C]:=st;let#[xs,M,Q]:=Y;let#[its,Z,p,hz]:=I.list M;let#[f0,f1,f2,f3,f4,f5]:=R it 03;have hl:=Z.length;show M6 (I.cw hc) m C p.isList (by simp;show Zc (Zn hl.symm) Q) λh' eb=>#[rfl,I.turned (t':=s.toks) (λb o O e=>eb b o O e) f0 f1 f3 f4 f5]
 self:=λ_ _ _ _ _ st h=>let ⟨_,m⟩:=st.1;ux m h
noncomputable def Qm (n:Nat):Tw->Tw|[]=>[]|x::xs=>.tup [.int n,x]::Qm (n+1) xs
theorem Yq:∀(xs:Tw)(n k:Nat),(Qm n xs)[k]?=(xs[k]?).map λx=>.tup [.int ((n+k:Nat):Int),x]|[],_,_=>by simp[Qm]|x::xs,n,0=>by simp[Qm]|x::xs,n,k+1=>by simp![Qm,List.getElem?_cons_succ];rw[Yq xs (n+1) k];have:n+1+k=n+(k+1):=nO _ _ _;rw[this]
theorem VZ:∀(xs:Tw)(n:Nat),(Qm n xs).length=xs.length|[],_=>rfl|_::xs,n=>by simp[Qm,VZ xs]
def Vr:Tw->IH->Res jE
 |[.ref i],h=>match h[i]? with
  |some (.lst xs)=>.ok #[Qm 0 xs,λh'=>h'[i]?=B (.lst xs)] h
  |_=>.stuck
 |_,_=>.stuck
def Rq{i:Nat}(ha:Y[i]?=B a):gB V X.K Y H₀ (AX X.K a) #[Qm 0 xs,λh'=>h'[i]?=B (.lst xs)]:=by
 refine#[λk v h H S I R j M=>?_,λk h H S I R j M=>?_]
 .let#[D,C,J]:=R.get j<|I.at ha;have m:=M;rw[Yq]at m;let#[x,E,rfl]:=Z6.mp m;let#[u,P,U]:=J.get E;calc#[#[D,u,bU.of C,P],λy W L=>?_];let#[p,Z,F,rfl,rfl,L]:=L;have:=L D<|bU.of C;rw[P]at this;cases this;let#[Q,O]:=R.grow F;calc#[Q,O,p,_,rfl,d4.of Jx,#[_,_,rfl,?_,_,_,rfl,RV.mono O _ _ U,rfl]];change bB.int (k:Int)=bB.int ((0+k:Nat):Int);simp
 .let#[D,C,J]:=R.get j<|I.at ha;show#[D,bU.of C,by rw[J.length,<-VZ xs 0];show M]
def Rr(hg:Gl X "enumerate")(hm:X.mg "enumerate"=Ze)(ha:dG V X [a] ma)(hs:ZH [a] X.env=[(Zl,a0 a X.env)]:=by rfl):jf V X (.Tuple es kt pt) (.Call (.Name "enumerate" p) [a] [] pos) (cT Vr ma):=by
 intro L s U H Y F h Q E N K;calc Call_<|Qj N.inv hg hm boot_enumerate<|om ?_ hs rfl;calc ha pos L s U H Y F h _ E N ?_;unfold cT at K;cases C:ma F h with|exc n I=>rw[C]at K;show K|stuck=>rw[C]at K;show K|ok vs I=>
  rw[C]at K;intro us m H1 W j n1 r1;let#[xs,rv,qs]:=r1;cases vs with|nil=>show(K).elim|cons x t=>
   cases x with
   |ref i=>
    cases t with|cons _ _=>show(K).elim|nil=>
     let#[w,e1,q]:=qs.bQ;subst e1;let#[b,e3,O]:=q;subst e3;let#[u,rfl,R]:=Qz rv;cases R;cases Z:I[i]? with|none=>simp![Res.bind,Vr,Z]at K|some S=>
      cases S with
      |lst ys=>
       simp![Res.bind,Vr,Z]at K;let#[ws,eH,rH]:=j.at Z O;let#[z,its,n,r,hl,eo]:=j.inv.gp eH;refine call_enumerate_1 eo λJ M D hsz kp=>?_
       calc ux M<|K _ _ H1 W #[j.inv.kept kp,j.rel,j.st] n1 ?_;calc#[m.heap.objs.size+1,[m.heap.objs.size+1,m.heap.objs.size],_,AX X.K b,rfl,Rp b m.heap.objs.size (m.heap.objs.size+1)<|d0<|ZX _,#[#[_,M],D],λc P=>?_,Rq O];simp at P;rcases P with rfl|rfl
       .show j.inv.df (hb _)<|j.inv.au.fresh<|hb _
       .show j.inv.df (Zk _)<|j.inv.au.fresh<|Zk _
      |_=>simp![Res.bind,Vr,Z]at K
   |_=>show(K).elim
end
noncomputable def wu:IV->IH->Res jE|.str x,h=>wq (.str x) h|v,h=>iA v h
def Ju(e:E1):I1:=λU h=>(e U h).bind wu
def wx(hl:ah V X l ml):jf V X tg l (Ju ml):=by
 intro L s U H Y j h Q E N K;cases m:ml j h with
 |ok v C=>cases v with|str x=>show Ro hl L s U H Y j h Q E N<|by unfold p6;unfold Ju at K;rw[m]at K ⊢;show K|_=>show AF (tg:=tg) hl L s U H Y j h Q E N<|by unfold kU;unfold Ju at K;rw[m]at K ⊢;show K
 |exc n C=>show AF (tg:=tg) hl L s U H Y j h Q E N<|by unfold kU;unfold Ju at K;rw[m]at K ⊢;show K
 |stuck=>show AF (tg:=tg) hl L s U H Y j h Q E N<|by unfold kU;unfold Ju at K;rw[m]at K ⊢;show K
section
variable{V:aF}{X:Cx}
def Rt{lo Z:Wz}(j:IsTup s.heap t items)(hs:s.heap.IsSliceOf sl vl vu .none)(pl:kg vl lo)(I:kg vu Z) (M:HT.bV items.size 0 lo=0/\HT.bV items.size items.size Z=items.size->Q (.ref t) s) (h:¬(HT.bV items.size 0 lo=0/\HT.bV items.size items.size Z=items.size)->Q (.ref s.heap.objs.size) {s with heap:=s.heap.push {cls:=.type "tuple",data:=.seq ((items.toList.drop<|HT.bV items.size 0 lo).take<|HT.bV items.size items.size Z-HT.bV items.size 0 lo).toArray} }) (hsz:items.size<=sizeLine):Zw (Zy prog w) A (lN (.ref t)<|.ref sl) Q E s:=by
 have C:sizeOk (.seq ((items.toList.drop<|HT.bV items.size 0 lo).take<|HT.bV items.size items.size Z-HT.bV items.size 0 lo).toArray):=by change(ba _).size<=sizeLine;rw[ZI,kz,rq,iV];show Zc (Zc (rh _ _)<|nQ _ _) hsz
 have O:HT.bV items.size items.size Z<=items.size:=HT.pS _ _ (Zk _) Z;let#[os,F,D,L]:=id hs;have J:s.TypeIs (.ref sl) "slice":=#[os,F,D];unfold lN;try with_reducible refine ZT ?_
 first|refine Zb (Zj ?_)|skip
 calc Zb<|wpAny_sequenceKey j.typeIs 01 ?_;calc Zb (mE (name:=ZG "__getitem__") j.typeIs ET (j8 ET j.typeIs entry_tuple_getitem ?_<|args_tuple_getitem _ _));change Zw _ _ (Builtin.Tuple.tupleItemsOf (.ref t)>>=_) _ _ s;calc Zb<|tupleItemsOf_ j ?_;calc Zb<|sv J ?_;rw[if_pos 01];calc Zb<|HT.dM hs pl I ?_;have H:((((HT.bV items.size 0 lo:Nat):Int)==0&&(1:Int)==1&&(HT.bV items.size items.size Z-HT.bV items.size 0 lo)==items.size)=Zi)↔(HT.bV items.size 0 lo=0/\HT.bV items.size items.size Z=items.size):=by rw[Zs,Zs,beq_iff_eq,beq_iff_eq,beq_iff_eq];lia
 change Zw _ _ (if (((HT.bV items.size 0 lo:Nat):Int)==0&&(1:Int)==1&&(HT.bV items.size items.size Z-HT.bV items.size 0 lo)==items.size)=Zi then _ else _) _ _ s;by_cases c:HT.bV items.size 0 lo=0/\HT.bV items.size items.size Z=items.size
 .rw[if_pos<|H.mpr c];calc Zb<|Zb<|sv j.typeIs<|Zj ?_;rw[if_pos 01];show Zb<|jK<|Zj #[_,rfl,Zj<|M c]
 .rw[if_neg λz=>c<|H.mp z,HT.kO];have h:=h c;first
   |show Zb (m:=vD _) (j7 (Zj #[_,rfl,Zj h]) C)
   |show Zb (m:=vD _) (j7 (Zb (Zj (Zj #[_,rfl,Zj h]))) C)
   |show Zb (Zb (m:=vD _) (j7 (Zj (Zj #[_,rfl,Zj h])) C))
   |show Zb (Zb (m:=vD _) (j7 (Zj #[_,rfl,Zj h]) C))
def tM:we V X kW:=by
 intro L s U H Y bF h x v vl vu m Z sl Q E N J O pl P K;let#[xv,J,M]:=J;cases x with
 |ref i=>
  let#[a,D,ha]:=M;subst D;dsimp only[kW]at K;cases C:h[i]? with|none=>rw[C]at K;show Zf K|some ob=>rw[C]at K;cases ob with|lst xs=>let#[j,D,r1]:=N.at C ha;show Gn (FJ (X:=X.aT E)) N.inv J O pl P #[a,j,rfl,bU.of D,λp F=>eY N K p F #[_,Jx,aw.new F<|r1.cut m Z]]|_=>show Zf K
 |bX xs=>let#[a,j,D,sa,I]:=M;subst D;show Gn (FJ (X:=X.aT E)) N.inv J O pl P #[a,j,rfl,sa.sq,λp F=>eY N K p F #[_,Jx,aw.new F<|I.cut m Z]]
 |tup xs=>
  let#[a,j,D,sa,I]:=M;subst D;cases J;let#[S,r,ht,hz]:=N.inv.tuple sa;have R:S.toArray.size=j.length:=by rw[ZI];show r.length.symm
  have K:Kont V X RU L Y bF U H (.ok (.tup<|dg xs m Z) h) Q E:=K;refine#["tuple",_,PyProof.Rows.slot_tuple_getitem.lookup,ht.typeIs,Rt ht O pl P (λW=>?_) (λ_=>?_)<|by rw[R];show hz]
  .rw[R,I.length]at W;have e:dg xs m Z=xs:=by unfold dg;rw[W.1,W.2];show nR<|Zk _
   rw[e]at K;show aC N K #[a,j,rfl,sa,I] _ _ N.inv rfl
  .rw[R];calc mW N K _ (N.inv.au.fresh<|Zk _) (I.cut m Z) _ _ (N.inv.laid (t':=s.toks) (o:=.tup<|jO j m Z) (λb ob q=>Zg _ q) (Zk _) ?_) rfl;show#[Zc (FF j m Z) hz,_,(r.drop<|HT.bV j.length 0 m).take<|HT.bV j.length j.length Z-HT.bV j.length 0 m,IsTup.new _ _]
 |_=>show Zf K
def gG:IV->IH->Res IV
 |.ref i,h=>match h[i]? with
  |some (.lst xs)=>.ok (.ref h.length)<|h++[.lst xs.reverse]
  |_=>.stuck
 |.bX xs,h=>.ok (.ref h.length)<|h++[.lst xs.reverse]
 |_,_=>.stuck
def Ru(xs:Tv):uR xs.toArray Ze Ze (B (-1))=xs.reverse.toArray:=by
 have O:mF Ze Ze (B (-1)) xs.toArray.size=((xs.length:Int)-1,-1,-1):=by simp[mF]
 have j:sliceRange ((xs.length:Int)-1) (-1) (-1)=(ZK xs.length).map λk=>xs.length-1-k:=by
  unfold sliceRange;have C:(if (-1:Int)>0 then(if (xs.length:Int)-1< -1 then((-1)-((xs.length:Int)-1)+(-1)-1)/(-1)else 0)else(if (xs.length:Int)-1> -1 then((xs.length:Int)-1-(-1)-(-1)-1)/(-(-1))else 0))=(xs.length:Int):=by
   rw[if_neg 01];by_cases h:(xs.length:Int)-1> -1
   .rw[if_pos h];simp
   .rw[if_neg h];omega
  simp![C,jN];refine rn λk D=>?_
  have:=fx.mp D;omega
 unfold uR;rw[O];dsimp only;rw[j];congr 1;rw[List.filterMap_map];have e:∀(n:Nat),n<=xs.length->(ZK n).filterMap ((λi=>xs.toArray[i]?)∘λk=>xs.length-1-k)=xs.reverse.take n:=by
  intro n;induction n with|zero=>intro _;simp|succ n m=>
   intro hn;rw[yZ,List.filterMap_append,m 00,List.take_add_one];congr 1;have E:xs.length-1-n<xs.length:=00;have J:n<xs.reverse.length:=by simp;omega
   simp![u6,List.filterMap_nil,Function.comp,u3,Zd E,Zd J,yR,Option.toList_some]
 rw[e xs.length<|Zk _];show nR 03
def Rv{a st:Expr}{ma ms:E1}{p2 pos:Pos}(ha:ah V X a ma)(hst:ah V X st ms)(hm:∀U h,ms U h=.ok (.int (-1)) h:=by intro _ _;rfl):ah V X (.Subscript a (.Slice Ze Ze (B st) p2) pos) (dH gG ma):=by
 intro L s U H Y S h Q E N K;refine Subscript_<|ha.run N K λx I v s1 H1 U1 N1 n1 r1 K1=>?_
 calc wpAny_Slice ?_;rw[evalPart_none];calc Zj<|Zj ?_;rw[evalPart_some];calc hst L s1 U H1 U1 S I _ E N1 ?_;rw[hm];intro uv j F U3 P n3 r3;let#[w,W,q]:=r3;cases (show w=.int (-1)from q);let#[t,rfl]:=W;have m:=Kont.mono (r:=gG x I) K1 n3;have r1':=r1.mono n3;have M:Inv X L U F {j with heap:=j.heap.push {cls:=.type "slice",data:=.fields (ba [.none,.none,.int (-1) t])} }:=P.inv.kept (t':=j.toks) λb R q=>Zg _ q
 have go:∀(b:Z4)(D:Tw)(C:Uc),bU X.K F b C->aw X.K U3 F D C->v=.ref b->Kont V X RU L U3 S U F (.ok (.ref I.length)<|I++[.lst D.reverse]) Q E ->Zw (Zy X.prog X.w) X.A (vt a (.Slice Ze Ze (B st) p2) v<|.ref j.heap.objs.size) Q E {j with heap:=j.heap.push {cls:=.type "slice",data:=.fields (ba [.none,.none,.int (-1) t])} }:=by
  intro b D C sq J ev K4;subst ev;let#[its,r,ht,hz]:=M.list sq;have hlen:=r.length;refine tail_any (ops:=[.ref b,.ref j.heap.objs.size]) ht.isList.typeIs slot_list_getitem.lookup (Ez ht.isList (Heap.IsSliceOf.new ..) .none .none (.int (-1) t) 01 ?_<|by rw[ZI];omega)<|by with_unfolding_all rfl
  rw[Ru];have fr:F (j.heap.push {cls:=.type "slice",data:=.fields (ba [.none,.none,.int (-1) t])}).objs.size=Ze:=M.au.fresh<|Zk _;have N4:az V X L U3 S I U F {j with heap:=j.heap.push {cls:=.type "slice",data:=.fields (ba [.none,.none,.int (-1) t])} }:=#[M,P.rel,P.st];show eY N4 K4 _ fr #[_,Jx,aw.new fr J.rev] _ _ (M.laid (t':=j.toks) (o:=.lst C.reverse) (λb R q=>Zg _ q) (Zk _) #[by rw[jw];show hz,its.reverse,0,r.reverse,Zt _ rfl]) rfl
 let#[xv,rx,qx]:=r1';cases x with
 |ref i=>
  let#[b,rfl,O]:=qx;cases rx;dsimp only[gG]at m;cases Z:I[i]? with|none=>rw[Z]at m;show Zf m|some R=>rw[Z]at m;cases R with|lst D=>let#[C,e1,J]:=P.at Z O;show go b D C (bU.of e1) J rfl m|_=>show Zf m
 |bX D=>let#[b,C,rfl,sa,J]:=qx;cases rx;show go b D C sa.sq J rfl m
 |_=>show Zf m
noncomputable def QM:IV->IH->Res IV
 |.ref i,h=>match h[i]? with
  |some (.lst xs)=>.ok (.ref h.length)<|h++[.lst xs]
  |_=>.stuck
 |.bX xs,h=>.ok (.ref h.length)<|h++[.lst xs]
 |.tup xs,h=>.ok (.ref h.length)<|h++[.lst xs]
 |_,_=>.stuck
theorem Rw:Q2 V X (.type "list") (bu QM):=V6 λL s U H Y O h x P u Q E N F D K=>by
 cases x with
 |ref i=>
  let#[a,m,ha]:=D;subst m;dsimp only[QM]at K;cases Z:h[i]? with|none=>rw[Z]at K;show(K).elim|some J=>rw[Z]at K;cases J with|lst xs=>let#[C,m,M]:=N.at Z ha;show Va (Ae) N.inv (.cons F .nil) #[a,C,rfl,.inl<|bU.of m,λp j=>eY N K p j #[_,Jx,aw.new j M]]|_=>show(K).elim
 |bX xs=>let#[a,C,m,sa,I]:=D;subst m;show Va (Ae) N.inv (.cons F .nil) #[a,C,rfl,.inl sa.sq,λp j=>eY N K p j #[_,Jx,aw.new j I]]
 |tup xs=>let#[a,C,m,sa,I]:=D;subst m;show Va (Ae) N.inv (.cons F .nil) #[a,C,rfl,.inr sa,λp j=>eY N K p j #[_,Jx,aw.new j I]]
 |_=>show(K).elim
noncomputable def VM:IV->IH->Res IV
 |.ref i,h=>match h[i]? with
  |some (.lst xs)=>.ok (.tup xs) h
  |_=>.stuck
 |.tup xs,h=>.ok (.tup xs) h
 |_,_=>.stuck
theorem Rx:Q2 V X (.type "tuple") (bu VM):=V6 λL s U H Y O h x P u Q E N F m K=>by
 cases x with
 |ref i=>
  let#[a,j,ha]:=m;subst j;dsimp only[VM]at K;cases Z:h[i]? with|none=>rw[Z]at K;show(K).elim|some I=>rw[Z]at K;cases I with|lst xs=>let#[D,j,M]:=N.at Z ha;show Va (FK) N.inv (.cons F .nil) #[a,D,rfl,.inl #[bU.of j,λp J=>mW N K p J M]]|_=>show(K).elim
 |tup xs=>have C:=m;let#[a,D,j,sa,R]:=m;subst j;show Va (FK) N.inv (.cons F .nil) #[a,D,rfl,.inr #[sa,aC N K C]]
 |_=>show(K).elim
noncomputable def Xs:Tw->Option (List Bool)|[]=>B []|.bl b::r=>(Xs r).map (b:: ·)|_::_=>Ze
noncomputable def allI:IV->IH->Res IV
 |.ref i,h=>match h[i]? with
  |some (.lst xs)=>(match Xs xs with
   |some bs=>.ok (.bl<|bs.all id) h
   |none=>.stuck)
  |_=>.stuck
 |_,_=>.stuck
theorem GK{K:W.Frag}:∀{xs:Tw}{bs:List Bool}{vs:Uc}{us:Tv},Xs xs=B bs->aw K Y H xs vs->Vals vs us->us=bs.map rM
 |[],bs,vs,us,e,q,r=>by cases e;have j:=q;subst j;cases r;rfl
 |x::xs,bs,vs,us,e,q,r=>by
  let#[v,I,j,q1,m]:=q;subst j;cases r with
  |cons D E=>
   cases x with
   |bl b=>let#[F,C,rfl]:=Z6.mp<|e;cases (q1);cases D;rw[GK C m E];rfl
   |_=>cases e
def Ry(bs:List Bool):((ZK bs.length).all λi=>bs.getD i Zi)=bs.all id:=by
 induction bs with
 |nil=>rfl
 |cons b r j=>
  rw[iP,List.range_succ_eq_map,fG,List.all_map];have e:((ZK r.length).all<|(λi=>(b::r).getD i Zi)∘Nat.succ)=(ZK r.length).all λi=>r.getD i Zi:=by congr 1
  rw[e,j];rfl
theorem Rz(hh:X.A.handled=Ze):Q2 V X (.builtin "all") (bu allI):=V6 λL s U H Y bF h x xv u Q E N ru I K=>by
 cases x with
 |ref i=>
  let#[a,D,ha]:=I;subst D;cases ru;dsimp only[allI]at K;cases Z:h[i]? with|none=>rw[Z]at K;show(K).elim|some P=>
   rw[Z]at K;cases P with
   |lst xs=>
    dsimp only at K;cases O:Xs xs with|none=>rw[O]at K;show(K).elim|some bs=>
     rw[O]at K;let#[vs,D,r1]:=N.at Z ha;let#[W,R,pl,hz]:=N.inv.list<|bU.of D;have J:=GK O r1 R;subst J;calc call_all_walk<|nA pl.isList ?_;have j:a<s.heap.objs.size:=by let#[o,_,C,_]:=pl;show Z0 C
     have ne:=Z1 j;refine#[s.heap.objs.size,_,_,_,_,_,λi=>bs.getD i Zi,rfl,Walks.list (A:=X.A.in1) hh s.heap.objs.size a ne (bs.map rM).toArray,#[#[_,Zt _ rfl,rfl,rfl],?_],?_,λh' tk S=>?_]
     .let#[o,n,C,hc,_,hd]:=pl;show#[o,Zg _ C,hc,n,hd]
     .intro i v s' Q' E' F M;simp![u3,Z5]at F;let#[b,m,rfl]:=Z6.mp F;calc oU ?_;have:bs.getD i Zi=b:=by simp[m]
      rw[<-this];show M
     .rw[show(bs.map rM).toArray.size=bs.length by simp,Ry];have I1:Inv X L U H {s with heap:=s.heap.push {cls:=.type "list_iterator",data:=.fields (ba [.ref a,.int 0 0])} }:=N.inv.kept λb o e=>Zg _ e
      have f:=N.inv.df (Zk _)<|N.inv.au.fresh<|Zk _;show aC N K rfl _ _ (I1.turned (λb o O e=>S b o (by simpa using O) e) f.1 f.2.1 f.2.2.2.1 f.2.2.2.2.1 f.2.2.2.2.2) rfl
   |_=>show(K).elim
 |_=>show(K).elim
def oH(V:aF)(X:Cx)(T id:String)(g:IV->Tw->IH->Res IV):Prop:=
 ∀(L:aQ)(s:Zx)(U:L2.St)(H:Hp)(Y:Tu)(bF:aA)(h:IH)(x:IV)(xs:Tw)(v:Zo)(us:Tv)(Q:aH)(E:aH),az V X L Y bF h U H s->RU X.K Y H x v->ir X.K Y H xs us ->
  Kont V X RU L Y bF U H (g x xs h) Q E->Zw (Zy X.prog X.w) X.A (call (.builtin id)<|v::us) Q E s
noncomputable def eA (T:String):IV->IH->Bool
 |.str _,_=>T=="str"
 |.int _,_=>T=="int"
 |.ref i,h=>match h[i]? with
  |some (.lst _)=>T=="list"
  |some (.aY _)=>T=="dict"
  |_=>Zl
 |.bX _,_=>T=="list"
 |_,_=>Zl
def rW(T:String)(g:IV->Tw->IH->Res IV)(o:E1)(a:A1):E1:=λU h=>(o U h).bind λx h1=>if eA T x h1=Zi then(a U h1).bind λxs J=>g x xs J else .stuck
def GL(N:az V X L Y bF h U H s)(q:RV X.K Y H x xv)(e:eA T x h=Zi):FL X.K T xv H:=by
 cases x with
 |str y=>cases (q);show beq_iff_eq.mp e
 |int y=>cases (q);show beq_iff_eq.mp e
 |bX y=>let#[a,j,rfl,sa,_]:=q;show .inl #[beq_iff_eq.mp e,j,sa.sq]
 |ref i=>
  let#[a,rfl,ha]:=q;cases Z:h[i]? with|none=>simp[eA,Z]at e|some D=>cases D with|lst xs=>simp![eA,Z]at e;let#[j,m,_]:=N.at Z ha;show .inl #[beq_iff_eq.mp e,j,bU.of m]|aY C=>simp![eA,Z]at e;let#[j,m,_]:=N.at Z ha;show .inr<|.inr<|.inl #[beq_iff_eq.mp e,.inl #[j,m]]|_=>simp[eA,Z]at e
 |_=>simp[eA]at e
variable{o a:Expr}{es:Te}{mo:E1}{ma:A1}{name:Str}{apos cpos:Pos}{T id:String}{g:IV->Tw->IH->Res IV}
def AY(W:PlainAttrs T)(slot:Slot T name id)(I:lP (.builtin id)=pure (.type "method_descriptor"))(hm:oH V X T id g)(ho:ah V X o mo)(ha:dG V X (a::es) ma)
  (hbase:qN o name X.env (a0 o X.env)=a0 o X.env:=by rfl)
  (m:((dY cpos<|ZH (a::es) X.env).all (λx=>!x.1)&&(nJ cpos<|nE [] X.env).all (λx=>x.1.isSome)
   && decide ((a::es).length+([]:To).length+(if ([]:To).isEmpty then 0 else 1)<30))=Zi:=by rfl)
  (hline:(apos.endLine==cpos.line)=Zi:=by rfl) (hs:ZH (a::es) X.env=(Zl,a0 a X.env)::ZH es X.env:=by rfl) (hplain:(dY cpos<|ZH es X.env).any (·.1)=Zl:=by rfl):
  ah V X (.Call (.Attribute o name apos) (a::es) [] cpos) (rW T g mo ma):=by
 intro L s U H Y Z h Q E N K;calc wpAny_Call_method_late hbase m hline rfl (ho.run N K λx h1 v s1 H1 U1 F n1 r1 C=>?_);by_cases j:eA T x h1=Zi
 .rw[if_pos j]at C;let#[xv,R,O]:=r1;let#[M,D]:=FN F.inv R<|GL F O j;calc#[T,id,W,slot,I,M,D,?_];have P:=(ha cpos).run F C λxs J us s2 S U2 N2 n2 r2 K2=>hm L s2 U S U2 Z J x xs v us Q E N2 #[xv,R,RV.mono n2 _ _ O] r2 K2
  rw[hs]at P ⊢;show E6 (by simp_all)<|Calls.evalArgs_plain P
 .rw[if_neg j]at C;show(C).elim
def RA(P:PlainAttrs T)(slot:Slot T name id)(F:lP (.builtin id)=pure (.type "method_descriptor"))(hm:oH V X T id g)(ho:ah V X o mo)
  (hbase:qN o name X.env (a0 o X.env)=a0 o X.env:=by rfl)(hline:(apos.endLine==cpos.line)=Zi:=by rfl):ah V X (.Call (.Attribute o name apos) [] [] cpos) (rW T g mo Jc):=by
 intro L s U H Y R h Q E N K;refine wpAny_Call_method0_late hbase hline<|ho.run N K λx M v Z H1 W D n1 r1 m=>?_
 by_cases j:eA T x M=Zi
 .rw[if_pos j]at m;let#[S,O,J]:=r1;let#[I,C]:=FN D.inv O<|GL D J j;show#[T,id,P,slot,F,I,C,E6 rfl (PySem.evalArgs_none<|hm L Z U H1 W R M x [] v [] Q E D #[S,O,J] .nil m)]
 .rw[if_neg j]at m;show(m).elim
theorem AZ(p:vV (X.aT E) id r)(I:Inv X L U H s)(m:RelV x v)(rs:Vals xs us) (k:r x xs H λz H'=>∀u s',Inv X L U H' s'->RelV z u->Q u s'):Zw (Zy X.prog X.w) X.A (call (.builtin id)<|v::us) Q E s:=c6 (p L s U H x xs v us _ (I.aT E) m rs k) (λu s' ⟨_,_,j,r,q⟩=>q u s' j.aG r) λ_ _ z=>z
theorem m4(N:az V X L Y bF h U H s)(K:Kont V X RU L Y bF U H (.ok v<|h.set i<|.lst ys) Q E) (O:Y[i]?=B b)(j:H b=B (.lst vs))(r:aw X.K Y H ys ws)(q:RV X.K Y H v w):∀u s',Inv X L U (upd H b<|.lst ws) s'->RelV w u->Q u s':=λu s' I m=>by have n:aU Y H Y (upd H b<|.lst ws):=#[#[[],03],Ext.cJ j<|by rw[j];show fJ];let#[R,_]:=N.rel.write (io:=.lst ys) O j (by rw[j];show fJ) #[_,Jx,aw.mono n _ _ r];show K u s' _ Y #[I,R,N.st.mono n] n #[w,m,RV.mono n _ _ q]
noncomputable def VS:IV->Tw->IH->Res IV
 |.ref i,[y],h=>match h[i]? with
  |some (.lst xs)=>if xs.length<sizeLine then .ok .ag (h.set i<|.lst<|xs++[y])else .stuck
  |_=>.stuck
 |_,_,_=>.stuck
def RC:oH V X "list" "list.append" VS:=by
 intro L s U H Y R h x xs v S Q E N j J K;let#[W,j,F]:=j;let#[vs,O,P]:=J;cases x with
 |ref i=>
  match xs,K with
  |[y],K=>
   let#[a,rfl,ha]:=F;let#[w,rfl,D]:=P.bQ;dsimp only[VS]at K;cases Z:h[i]? with|none=>rw[Z]at K;show(K).elim|some I=>
    rw[Z]at K;cases I with
    |lst zs=>
     dsimp only at K;split at K
     .rename_i M;let#[ws,C,m]:=N.at Z ha;show AZ (FR) N.inv j O #[a,ws,w,rfl,rfl,C,by rw[m.length];show M,m4 N K ha C (m.append<|aw.one D) rfl]
     .show(K).elim
    |_=>show(K).elim
  |[],K=>show(K).elim
  |_::_::_,K=>show(K).elim
 |_=>cases xs<;>show(K).elim
def m5:IV->IV->IV->aA->IH->bM
 |.ref i,.int k,v,U,h=>match h[i]? with
  |some (.lst xs)=>(match jP xs.length k with
   |some j=>.next U<|h.set i<|.lst<|xs.set j v
   |none=>.stuck)
  |_=>.stuck
 |_,_,_,_,_=>.stuck
end
section
variable{V:aF}{X:Cx}
noncomputable def iC:IV->Option Key|.int i=>B<|.inl i|.str x=>B<|.inr x|_=>Ze
def A0{K:W.Frag}(e:iC x=B k)(r:RV K Y H x v):v=kV k:=by cases x with|int i=>cases e;show r|str y=>cases e;show r|_=>cases e
def jS:IV->IV->IH->Res IV|.int i,.int j,h=>.ok (.int (if j>i then j else i)) h|_,_,_=>.stuck
def m6:IV->IV->IH->Res IV|.int i,.int j,h=>.ok (.int (if j<i then j else i)) h|_,_,_=>.stuck
def RD(F:X.calm=Zi):Q2 V X (.builtin "max") (mj jS):=by
 intro L s U H Y I h xs J Q E N r K;let#[M,D,q]:=r;match xs,K with
 |[x,y],K=>
  let#[v,w,rfl,m,C]:=q.jg;cases x with
  |int i=>cases y with|int j=>cases (m);cases (C);show Va (NQ F) N.inv D #[i,j,rfl,aC N K rfl]|_=>show(K).elim
  |_=>cases y<;>show(K).elim
 |[],K=>show(K).elim
 |[_],K=>show(K).elim
 |_::_::_::_,K=>show(K).elim
def RE(F:X.calm=Zi):Q2 V X (.builtin "min") (mj m6):=by
 intro L s U H Y I h xs J Q E N r K;let#[M,D,q]:=r;match xs,K with
 |[x,y],K=>
  let#[v,w,rfl,m,C]:=q.jg;cases x with
  |int i=>cases y with|int j=>cases (m);cases (C);show Va (NR F) N.inv D #[i,j,rfl,aC N K rfl]|_=>show(K).elim
  |_=>cases y<;>show(K).elim
 |[],K=>show(K).elim
 |[_],K=>show(K).elim
 |_::_::_::_,K=>show(K).elim
noncomputable def QB:Tw->Option (Tk)|[]=>B []|.str x::r=>(QB r).map (x:: ·)|_=>Ze
theorem A2{K:W.Frag}:∀{xs:Tw}{zs:Tk}{vs:Uc}{us:Tv},QB xs=B zs->aw K Y H xs vs->Vals vs us->∃l:List<|Str×Tok,us=uT l/\l.map (·.1)=zs
 |[],zs,vs,us,e,q,r=>by cases e;have j:=q;subst j;cases r;show#[[],rfl,rfl]
 |x::xs,zs,vs,us,e,q,r=>by
  let#[v,I,j,q1,m]:=q;subst j;cases r with
  |cons D F=>
   cases x with
   |str y=>let#[J,C,rfl]:=Z6.mp<|e;cases (q1);let#[t,rfl]:=D;let#[l,rfl,E]:=A2 C m F;show#[(y,t)::l,rfl,by rw[ZW,E]]
   |_=>cases e
def Xz:IV->Tw->IH->Res IV
 |.str x,[.ref i],h=>match h[i]? with
  |some (.lst xs)=>(match QB xs with
   |some zs=>if JoinOk x zs=Zi then .ok (.str<|Txt.join x zs) h else .stuck
   |none=>.stuck)
  |_=>.stuck
 |_,_,_=>.stuck
def RF:oH V X "str" "str.join" Xz:=by
 intro L s U H Y bF h x xs v us Q E N m F K;let#[xv,m,C]:=m;let#[vs,J,S]:=F;cases x with
 |str x=>
  cases (C);let#[t,rfl]:=m;match xs,K with
  |[.ref i],K=>
   let#[w,rfl,a,rfl,ha]:=S.bQ;let#[u,rfl,ru]:=Qz J;cases ru;dsimp only[Xz]at K;cases Z:h[i]? with|none=>rw[Z]at K;show(K).elim|some D=>
    rw[Z]at K;cases D with
    |lst W=>
     dsimp only at K;cases O:QB W with|none=>rw[O]at K;show(K).elim|some zs=>
      rw[O]at K;dsimp only at K;split at K
      .rename_i I;let#[ws,e1,R]:=N.at Z ha;let#[P,j,pl,_]:=N.inv.list<|bU.of e1;let#[l,rfl,M]:=A2 O R j;show SC.join pl.isList M I λt' k=>aC N K rfl _ _ (N.inv.tok _) #[_,rfl]
      .show(K).elim
    |_=>show(K).elim
  |[],K=>show(K).elim
  |[.ag],K=>show(K).elim
  |[.bl _],K=>show(K).elim
  |[.int _],K=>show(K).elim
  |[.str _],K=>show(K).elim
  |[.tup _],K=>show(K).elim
  |[.bX _],K=>show(K).elim
  |y::_::_,K=>cases y<;>show(K).elim
 |_=>show(K).elim
end
noncomputable def JP:Tw->Option (Tp)|[]=>B []|.int i::r=>(JP r).map (i:: ·)|_=>Ze
theorem Vq{K:W.Frag}:∀{xs:Tw}{ns:Tp}{vs:Uc}{us:Tv},JP xs=B ns->aw K Y H xs vs->Vals vs us->fz us ns
 |[],ns,vs,us,e,q,r=>by cases e;have j:=q;subst j;cases r;show .nil
 |x::xs,ns,vs,us,e,q,r=>by
  let#[v,F,j,q1,m]:=q;subst j;cases r with
  |cons D E=>
   cases x with
   |int i=>let#[n2,C,rfl]:=Z6.mp<|e;cases (q1);let#[t,rfl]:=D;show .cons i t<|Vq C m E
   |_=>cases e
theorem wy:∀{us:Tv}{ns:Tp},fz us ns->us.length=ns.length
 |_,_,.nil=>rfl
 |_,_,.cons _ _ r=>by simp[wy r]
section
variable{V:aF}{X:Cx}
noncomputable def eF:IV->IH->Res IV
 |.ref i,h=>match h[i]? with
  |some (.lst xs)=>(match JP xs with
   |some ns=>.ok (.int ns.sum) h
   |none=>.stuck)
  |_=>.stuck
 |_,_=>.stuck
theorem RG(hh:X.A.handled=Ze):Q2 V X (.builtin "sum") (bu eF):=V6 λL s U H Y bF h x xv u Q E N ru I K=>by
 cases x with
 |ref i=>
  let#[a,D,ha]:=I;subst D;cases ru;dsimp only[eF]at K;cases Z:h[i]? with|none=>rw[Z]at K;show(K).elim|some M=>
   rw[Z]at K;cases M with
   |lst xs=>
    dsimp only at K;cases O:JP xs with|none=>rw[O]at K;show(K).elim|some ns=>
     rw[O]at K;let#[vs,D,r1]:=N.at Z ha;let#[its,S,pl,hz]:=N.inv.list<|bU.of D;have j:=Vq O r1 S;let#[m,F]:=j.allInts.items;have C:=F▸pl.isList;refine sum_intListG hh C λJ tk t2 W=>?_
     have en:ns=m.toList.map (·.1):=by have q1:=j.numsOf;have R:=congrArg (λz:Ti=>numsOf z.toList) F;rw[<-q1];show R.trans<|nums_intItems m
     have P:preSum (numAt m) m.size=ns.sum:=by rw[preSum_eq,en,nR 03]
     rw[P];show aC N K rfl _ _ (N.inv.kept W) #[_,rfl]
   |_=>show(K).elim
 |_=>show(K).elim
end
noncomputable def JL (f:Nat->Int):Nat->Int|0=>0|1=>f 0|j+2=>if f (j+1)>JL f (j+1)then f (j+1)else JL f (j+1)
def wz(f)(m:0<j):JL f (j+1)=if f j>JL f j then f j else JL f j:=by cases j with|zero=>show absurd 06<|i3 _|succ j=>rfl
def RJ:{F:String->CmpOp->dz // dz.«max.loop» =F "max" .Gt/\dz.«min.loop» =F "min" .Lt}:=#[_,by unfold dz.«max.loop»;show rfl,by unfold dz.«min.loop»;show rfl]
structure Mm(nm bD:String)(op:CmpOp):Prop where
 en:qV table bD=B (RJ.1 nm op)
 pl:plainId bD=Zi
 nm:(toString nm++toString ".loop":String)=bD
theorem RK:Mm "max" "max.loop" .Gt:=#[vA,oq,01]
theorem RL:Mm "min" "min.loop" .Lt:=#[PySem.F.entry_min_loop,PySem.F.plain_min_loop,01]
section
variable{pr:ZU}{wd:bq}{bA:bP}{R:qY->Zx->Prop}{it:Z4}{fps wrs:Tu}{n:Nat}{P:Nat->Zo->Prop}{St:Nat->aM->Prop}
abbrev dh(l:Z4):Obj:={cls:=.type "list_iterator",data:=.fields (ba [.ref l,.int 0 0])}
abbrev RM(v:Zo)(c:Nat):Obj:={cls:=.type "list",dict:=Ze,data:=.seq (ba [v,v]) c,slots:=#[]}
theorem wC:(toString "max"++toString ".loop":String)="max.loop":=01
def RN(W:Walks pr wd bA.in1 it fps wrs n P St)(f)(Y:∀i v,P i v->∃t,v=.int (f i) t)(C)(S:C∉fps):∀(r j:Nat)(z:Zx)(v:Zo)(u:Tok)(c:Nat),n-j=r->0<j->j<=n->St j z.heap->v=.int (JL f j) u->z.heap.get? C=B (RM v c) ->(∀u J tk,(∀a o,a∉wrs->a≠C->z.heap.get? a=B o->J.get? a=B o)->R (.ok<|.ret<|.int (JL f n) u) {z with heap:=J,toks:=tk}) ->iN (Zy pr wd) bA (.builtin "max.loop" #[[.ref it,.none,.ref C],kw]) R z:=by
 have U:C∉wrs:=λq=>S<|W.sub _ q
 intro r;induction r with
 |zero=>
  intro j z v u c X M V st ev gC fin;obtain rfl:j=n:=05;subst ev;calc iK vA ?_;rw[kH oq _];calc Zb<|lM gC rfl ?_;refine Zb<|j9<|W.done z _ _ st λJ tk keep=>?_
  have m:=keep C _ U gC;calc Zb ?_;calc qM m rfl (Zb<|kx<|Zj ?_);show fin u _ tk λa o ha O e=>(Z3 _ _<|ZP O).trans<|keep a o ha e
 |succ r Q=>
  intro j z v u c X M V st ev gC fin;have lt:j<n:=o4 06;subst ev;calc iK vA ?_;rw[kH oq _];calc Zb<|lM gC rfl ?_;refine Zb<|j9<|W.item j z _ _ lt st λy J tk Z E keep=>?_
  let#[t,rfl]:=Y j y Z;have m:=keep C _ U gC;have H:=zB (prog:=pr) (w:=wd) (A:=bA.in1) (λi=>if i=0 then f j else JL f j) λ_ _ q=>q
  change Zw _ bA.in1 (tryCatch (jt [l7 (f j) t,l7 (f j) t]<|uM .Gt (.int (f j) t) (.int (JL f j) u)>>=_) _>>=_) _ _ _;calc Zb<|j9<|ZT<|Zb<|H 0 1 _ _ _ _ _ #[t,03] #[u,03] ?_;calc Zb<|ZT<|oU ?_;calc Zb<|kx<|Zj ?_;have step:=wz f M;by_cases O:f j>JL f j
  .rw[if_pos O]at step;simp![if_true,show ¬(1:Nat)=0 by decide,if_false,decide_eq_true O];calc Zb ?_;calc qM m rfl (Zb<|kx ?_);rw[wC];refine Zj #[jJ oq _,Q (j+1) _ (.int (f j) t) t _ (congrArg sN 06) (gZ _) lt (W.frame _ _ _ E λa ha o e=>?_) (by rw[step]) (i5 _ m rfl) λu2 L D I=>?_]
   .show(Z3 _ _ λq:C=a=>S<|by rw[q];show ha).trans e
   .show fin u2 L D λa o ha F e=>I a o ha F<|(Z3 _ _<|ZP F).trans<|keep a o ha e
  .rw[if_neg O]at step;simp![if_true,show ¬(1:Nat)=0 by decide,if_false,decide_eq_false O,lT];calc Zb<|kx ?_;rw[wC];calc Zj #[jJ oq _,Q (j+1) _ (.int (JL f j) u) u c (congrArg sN 06) (gZ _) lt E (by rw[step]) m λu2 L D I=>?_];show fin u2 L D λa o ha F e=>I a o ha F<|keep a o ha e
end
def RP(a v):jL "max" #[[a],[(ZG "default",v)]]:=by unfold jL;kernel_rfl
section
variable{pr:ZU}{wd:bq}{bA:bP}{E:aH}{z:Zx}{l:Z4}{us:Tv}{ns:Tp}{d:Tc}{Q:aH}{kw:Wn}
def RQ(ns:Tp)(d:Tc)(v:Zo):Prop:=(ns=[]/\d=B v)\/(ns≠[]/\∃u,v=.int (JL (λi=>ns.getD i 0) ns.length) u)
def GN(Y:rN "max" ["key","default"] 0 #[[],kw]=pure [Ze,d])(ha:jL "max" #[[.ref l],kw])(hn:ns=[]->∃v,d=B v)(L:aE bA z.heap)(hl:z.heap.IsList l us.toArray)(Z:fz us ns)
  (P:∀v J tk,RQ ns d v->(∀b o,z.heap.get? b=B o->J.get? b=B o)->Q v {z with heap:=J,toks:=tk}):
  Zw (Zy pr wd) bA (call (.builtin "max") [.ref l] kw) Q E z:=by
 let#[ol,H,_]:=id hl;have lt:l<z.heap.objs.size:=Z0 H;have F:=wy Z;calc kmk_tree PySem.F.kind_max PySem.F.plain_max PySem.F.entry_max ha ?_;change Zw _ bA.in1 (rN "max" ["key","default"] 0 #[[],kw]>>=_) _ _ z;calc Zb<|qQ Y ?_;calc Zb<|Zj ?_;calc Zb<|nA hl ?_;calc Zb<|oV ?_<|ZF _;rw[wC];have ne:l≠z.heap.objs.size:=Z1 lt;have W:=vK (prog:=pr) (w:=wd) (A:=bA.in1) z.heap.objs.size l ne us.toArray;have sz:us.toArray.size=us.length:=ZI ..;have M:(z.heap.push<|dh l).objs.size=z.heap.objs.size+1:=pE ..;have R:(z.heap.push<|dh l).objs.size∉z.heap.objs.size::l::i9 bA.in1:=by rw[M];simp![ZA,not_or];show#[d0<|ZX _,d0<|jv lt,λq=>i3 _<|mG<|L.in1.lt _ q]
 have hw:(z.heap.push<|dh l).objs.size∉[z.heap.objs.size]:=by rw[M];simp![ZA,iR,or_false];show d0<|ZX _
 have j:∀b o,z.heap.get? b=B o->((z.heap.push<|dh l).push<|bf "list" #[] 0).get? b=B o:=λb o e=>Zg _<|Zg _ e
 have S:((z.heap.push<|dh l).push<|bf "list" #[] 0).get? z.heap.objs.size=B (dh l):=Zg _<|Zt _ rfl;have gC:((z.heap.push<|dh l).push<|bf "list" #[] 0).get? (z.heap.push<|dh l).objs.size=B (bf "list" #[] 0):=Zt _ rfl;have iq:∀b o,z.heap.get? b=B o->b∉[z.heap.objs.size]:=λb o e q=>Z1 (Z0 e)<|Z8.mp q
 have m:∀b o,z.heap.get? b=B o->b≠(z.heap.push<|dh l).objs.size:=λb o e=>by rw[M];show Z1<|jv<|Z0 e
 calc Zj #[jJ oq _,iK vA ?_];rw[kH oq _];change Zw _ bA.in1 (qU (.ref _)>>=_) _ _ _;calc Zb<|lM gC rfl ?_;change Zw _ bA.in1 (tryCatch (dX<|.ref z.heap.objs.size) _>>=_) _ _ _;by_cases D:us.length=0
 .calc Zb (j9<|W.done _ _ _ (by rw[sz,D];show#[#[#[_,S,rfl,rfl],(hl.push _).push _],L.in1.mono j]) λJ tk keep=>?_);let#[v,rfl]:=hn<|rm<|gf (Zc (Zn F.symm)<|Zn D)<|ZF _;change Zw _ bA.in1 (rule _>>=_) _ _ _;calc Zb<|jK<|Zj ?_;refine P v J tk (.inl #[rm<|gf (Zc (Zn F.symm)<|Zn D)<|ZF _,rfl]) λb o e=>keep b o (iq b o e)<|j b o e
 .calc Zb (j9<|W.item 0 _ _ _ (by rw[sz];show sJ 06) #[#[#[_,S,rfl,rfl],(hl.push _).push _],L.in1.mono j] λy J tk hP I keep=>?_);have C:=keep _ _ hw gC;change Zw _ bA.in1 (updateSeq (z.heap.push<|dh l).objs.size (λ_=>(ba [y,y]))>>=_) _ _ _;calc Zb ?_;calc qM C rfl ?_;rw[wC];have U:∀(i:Nat)(v:Zo),us.toArray[i]?=B v->∃t,v=.int ((λi=>ns.getD i 0) i) t:=λi v q=>zA Z i v<|by simpa using q
  let#[t,rfl]:=U 0 y hP;refine Zj #[jJ oq _,RN W (λi=>ns.getD i 0) U _ R _ 1 _ _ t _ rfl 01 (by rw[sz];show sJ 06) (W.frame _ _ _ I λa ha o e=>?_) rfl (i5 _ C rfl) λu X O V=>?_]
  .show(Z3 _ _ λq=>R<|by rw[q];show ha).trans e
  .rw[sz,F];calc P _ X O (.inr #[λq=>D (by rw[F,q];rfl),u,rfl]) λb o e=>V b o (iq b o e) (m b o e)<|(Z3 _ _<|ZP<|m b o e).trans<|keep b o (iq b o e)<|j b o e
end
section
variable{V:aF}{X:Cx}
def maxD(ns:Tp)(d:IV):IV:=if ns=[]then d else .int (JL (λi=>ns.getD i 0) ns.length)
def VY(aa:A1)(md:E1):E1:=λU h=>(aa U h).bind λxs h1=>(md U h1).bind λd J=>match xs with|[.ref i]=>(match J[i]? with|some (.lst ys)=>(match JP ys with|some ns=>.ok (maxD ns d) J|none=>.stuck)|_=>.stuck)|_=>.stuck
theorem RR(hc:X.calm=Zi)(hg:Gl X "max")(hm:X.mg "max"=Ze)(ha:dG V X [a] aa)(hd:ah V X de md)(hs:ZH [a] X.env=[(Zl,a0 a X.env)]):ah V X (.Call (.Name "max" p) [a] [#[B "default",de,kp]] pos) (VY aa md):=λL s U H Y W h Q E N K=>by
 calc hV<|Qj N.inv hg hm rfl ?_;calc vv ?_ (by rw[hs];rfl) (by rw[hs];rfl) rfl rfl;refine(ha pos).run N K λxs h1 us s1 H1 U1 N1 n1 r1 K1=>?_
 refine rF<|Zb<|PX.run hd N1 K1 λd J du s2 P U2 m n2 r2 j=>Zb<|jI<|Zj<|vr ?_
 let#[vs,rv,qs]:=r1.mono n2;cases xs with|nil=>show Zf j|cons x t=>
  cases t with|cons _ _=>cases x<;>show Zf j|nil=>
   cases x with
   |ref i=>
    let#[w,rfl,ad,rfl,D]:=qs.bQ;let#[u,rfl,R]:=Qz rv;cases R;dsimp only at j;cases Z:J[i]? with|none=>rw[Z]at j;show Zf j|some S=>
     rw[Z]at j;cases S with
     |lst ys=>
      dsimp only at j;cases O:JP ys with|none=>rw[O]at j;show Zf j|some ns=>
       rw[O]at j;dsimp only at j;let#[ws,e1,r3]:=m.at Z D;let#[its,F,pl,_]:=m.inv.list<|bU.of e1;refine GN (d:=B du) rfl (RP _ _) (λ_=>#[_,rfl]) (m.inv.cw hc) pl.isList (Vq O r3 F) λv h3 I mi kk=>?_
       have M:az V X L U2 W J U P {s2 with heap:=h3,toks:=I}:=#[m.inv.kept (t':=I) kk,m.rel,m.st];rcases mi with⟨e,ev⟩|⟨e,t,rfl⟩
       .cases ev;have C:maxD ns d=d:=if_pos e;rw[C]at j;show j _ _ _ _ M .refl r2
       .have C:maxD ns d=.int (JL (λi=>ns.getD i 0) ns.length):=if_neg e;rw[C]at j;show j _ _ _ _ M .refl #[.int _,#[t,rfl],rfl]
     |_=>show Zf j
   |_=>show Zf j
end
noncomputable def jh (f:Nat->Str)(i:Nat)(k:Str):Bool:=(ZK i).any λj=>decide (k=f j)
def gH(f:Nat->Str):Nat->Nat|0=>0|i+1=>if jh f i (f i)then gH f i else gH f i+1
def RS(f)(i)(k):jh f (i+1) k=(jh f i k||decide (k=f i)):=by simp[jh,yZ]
theorem A3(f):∀i,gH f i<=i|0=>Zk _|i+1=>by have:=A3 f i;unfold gH;split<;>(first|show rf 06|show rg 06|lia)
abbrev QS(led:Bool):Obj:={cls:=.type "set",dict:=Ze,data:=.set #[] 0 (.fresh 0 0 led)}
abbrev f7(wd:bq):Bool:=wd.params.followText "set-order"
structure tN(pr:ZU)(wd:bq)(n:Nat)(P:Nat->Zo->Prop)(SA:aM->Z4->Nat->Prop):Prop where
 mv:∀{h J:aM}{C:Z4}{i:Nat},SA h C i->(∀o,h.get? C=B o->J.get? C=B o)->SA J C i
 add:∀{A:bP}{E:aH}{i:Nat}{v:Zo}{C:Z4}{z:Zx}{Q:Bool->Zx->Prop},P i v->i<n->SA z.heap C i->(∀b h3,jx C z.heap h3->SA h3 C (i+1)->Q b {z with heap:=h3,toks:=z.toks+1})->Zw (Zy pr wd) A (setAdd C v) Q E z
 new:∀{h:aM}{C:Z4},h.get? C=B (QS (!f7 wd))->SA h C 0
section
variable{pr:ZU}{wd:bq}{A bA:bP}{R:qY->Zx->Prop}{it:Z4}{fps wrs:Tu}{G:Wk->Wk->Prop}{n:Nat}{P:Nat->Zo->Prop}{St:Nat->Zx->Prop}{SA:aM->Z4->Nat->Prop}{E:aH}{s z:Zx}{l:Z4}{us:Tv}{Q:aH}
def RT(bB:tN pr wd n P SA)(W:WalksS pr wd bA.in1 it fps wrs G n P St)(C)(H:C∉fps):∀(r i:Nat)(z:Zx),n-i=r->i<=n->St i z->SA z.heap C i->(∀j,Moved (C::wrs) G z j->SA j.heap C n->R (.ok<|.ret .none) j) ->iN (Zy pr wd) bA (.builtin "set.update.loop" #[[.ref C,.ref it],[]]) R z:=by
 have I:C∉wrs:=λq=>H<|W.sub _ q
 have more:∀b∈wrs,b∈C::wrs:=λb q=>Zm _ q
 intro r;induction r with|zero=>intro i z M Z st F fin;obtain rfl:i=n:=05;calc iK E0 ?_;rw[kH zt _];show Zb<|W.done z _ _ st λj mv=>Zj<|fin j (mv.mono more)<|bB.mv F λo e=>mv.heap C _ I e|succ r S=>
  intro i z M Z st F fin;have lt:i<n:=o4 06;calc iK E0 ?_;rw[kH zt _];refine Zb<|W.item i z _ _ lt st λv j L E mv=>?_
  refine Zb<|ZT<|bB.add L lt (bB.mv F λo e=>mv.heap C _ I e) λ_ U J m=>?_
  refine Zj #[jJ zt _,S (i+1) _ (congrArg sN 06) lt (W.frame _ j _ _ E (hb _) λb q o e=>?_) m λO Q D=>?_]
  .rw[J.2 b λe2:b=C=>H<|by rw[<-e2];show q];show e
  .calc fin O (Moved.trans W.gtrans ((mv.mono more).then_heap (hb _) λb o q e=>?_) Q) D;rw[J.2 b λe2:b=C=>q<|by rw[e2];show Z7];show e
def RW(a)(h:Q₁ (.ref s.heap.objs.size) {s with heap:=s.heap.push (QS (!f7 wd))}):iN (Zy pr wd) A (.call (.builtin "set.__new__") #[[.type "set",a],[]]) (wants Q₁ E) s:=by
 calc yE ?_;calc Zb<|qQ (PySem.F.newCall_set_1 a)<|Zj #[jJ PySem.F.plain_set_new _,iK PySem.F.entry_set_new ?_];unfold dz.«set.__new__» Builtin.Frozenset.newClass;have j:=PySem.sub_set_self;let#[C,g,d,m,os]:=s;dsimp only
 wp_walk
 calc qL<|Zj ?_;dsimp only;calc Zb<|wpAny_alloc<|Zj ?_;show Zj h
set_option maxRecDepth 100000 in
def GO(hh:bA.handled=Ze)(hl:z.heap.IsList l us.toArray)(bB:tN pr wd us.toArray.size (λi v=>us.toArray[i]?=B v) SA)
  (fin:∀(J:aM)(tk:Nat),SA J z.heap.objs.size us.toArray.size->(∀b o,z.heap.get? b=B o->J.get? b=B o)->Q (.ref z.heap.objs.size) {z with heap:=J,toks:=tk}):
  Zw (Zy pr wd) bA (call (.type "set") [.ref l]) Q E z:=by
 let#[c,tl,hmro]:=PySem.F.called_set.mro;have Y:=PySem.F.called_set.made;have hsub:=PySem.F.called_set.sub;calc oX<|yE ?_;change Zw _ _ (callAny (.type "set") _) _ _ _;calc Zj #[vG _ (by decide +kernel),iK PySem.F.entry_type_call ?_];rw[Around.under_plain (weight_type_call_type "set" [.ref l] []) rfl];have no1:=PySem.F.called_set.notType;have no2:=PySem.F.called_set.canCreate;have ok1:=PySem.F.typeCall_set_1<|.ref l;repeat (any_goals (first|assumption|wp_step))
 refine oW (RW (.ref l) (E:=E) (Q₁:=λobj z1=>obj=.ref z.heap.objs.size/\z1={z with heap:=z.heap.push (QS (!f7 wd))}) #[rfl,rfl]) λC z1 Z=>?_
 cases C with|error e=>show Z|ok fl=>
  cases fl with
  |ret obj=>
   let#[rfl,rfl]:=Z;have gS:(z.heap.push<|QS (!f7 wd)).get? z.heap.objs.size=B (QS (!f7 wd)):=Zt _ rfl;have tS:zE {z with heap:=z.heap.push (QS (!f7 wd))} (.ref z.heap.objs.size) "set":=#[_,gS,rfl];have in1:=PySem.F.called_set.init.lookup;have in2:=PySem.F.called_set.init.bind<|.ref z.heap.objs.size;repeat (any_goals (first|assumption|wp_step))
   refine oW (qJ (R:=wants (λC z2=>C=.none/\∃J tk,z2={z with heap:=J,toks:=tk}/\SA J z.heap.objs.size us.toArray.size/\(∀b o,z.heap.get? b=B o->J.get? b=B o)) E)
    PySem.F.called_set.init.plain PySem.F.entry_set_init (check_set_init_1 tS ?_)) λL z2 D=>?_
   .let#[ol,M,I,nl,F]:=hl;let#[ocls,m,V,j]:=ol;simp only at I F;subst I;subst F;have gl:(z.heap.push<|QS (!f7 wd)).get? l=B {cls:=.type "list",dict:=m,data:=.seq us.toArray nl,slots:=j}:=Zg _ M;have sb1:=PySem.F.sub_list_set;have sb2:=PySem.F.sub_list_frozenset;have dne:(mP "list"==mP "dict")=Zl:=01;have H:(z.heap.push<|QS (!f7 wd)).IsList l us.toArray:=#[_,gl,rfl,nl,rfl];unfold dz.«set.__init__» noKeywords Builtin.Frozenset.updateFrom;generalize X:ke=PI
    wp_walk
    subst X;calc nA H ?_;calc Zb<|uC ?_;have lS:l<z.heap.objs.size:=Z0 M;have h3:bA.in1.in1.in1.handled=Ze:=by simp[hh]
    have P:l≠(z.heap.push<|QS (!f7 wd)).objs.size:=by rw[nY];show Z1<|jv lS
    have nC:z.heap.objs.size∉[(z.heap.push<|QS (!f7 wd)).objs.size,l]:=by rw[nY];simp![ZA,iR,or_false,not_or];show#[Z1<|ZX _,d0 lS]
    calc RT bB ((Walks.list h3 _ l P us.toArray).toS) z.heap.objs.size nC (us.toArray.size-0) 0 _ 04 (ZF _) #[#[_,Zt _ rfl,rfl,rfl],(H.push _)] (bB.new<|Zg _ gS) ?stop;case stop=>
     intro z5 mv S;let#[h5,g5,d5,U,W]:=z5;have eg:g5=z.gens:=mv.gens;have ed:d5=z.drawn:=mv.drawn;have eo:W=z.os:=mv.os;subst eg;subst ed;subst eo;change Zw _ _ _ _ _ _;calc Zj ?_;change Zw _ _ (ret dA) _ _ _;calc Zj #[rfl,h5,U,rfl,S,λb o e=>?_];have lb:=Z0 e;have b1:b≠z.heap.objs.size:=Z1 lb;have b2:b≠(z.heap.push<|QS (!f7 wd)).objs.size:=by rw[nY];show Z1<|jv lb
     show mv.heap b o (by simp![ZA,iR,or_false,not_or];show#[b1,b2])<|Zg _<|Zg _ e
   .cases L with|error e=>show D|ok oJ=>
     cases oJ with
     |ret rv=>
      let#[rfl,J,tk,rfl,O,keep]:=D;repeat (any_goals (first|assumption|wp_step))
      show fin _ _ O keep
     |_=>show D.elim
  |_=>show Z.elim
end
section
variable{pr:ZU}{wd:bq}{bA:bP}{E:aH}{z:Zx}{l:Z4}{us:Tv}{zs:Tk}{Q:aH}
abbrev GP(pr:ZU)(wd:bq)(hp:aM)(a:Z4)(f:Nat->Str)(i:Nat):Prop:=hp.SetOf (uH pr wd) a (λk=>jh f i k)<|gH f i
abbrev QP(zs:Tk):Nat->Str:=λi=>zs.getD i iT
def RX(S:bA.handled=Ze)(hl:z.heap.IsList l us.toArray)(I:us=uT l2)(H:l2.map (·.1)=zs)(room:zs.length+1<kc) (fin:∀(J:aM)(tk:Nat),GP pr wd J z.heap.objs.size (QP zs) zs.length->(∀b o,z.heap.get? b=B o->J.get? b=B o)->Q (.ref z.heap.objs.size) {z with heap:=J,toks:=tk}):Zw (Zy pr wd) bA (call (.type "set") [.ref l]) Q E z:=by
 have len:us.toArray.size=zs.length:=by rw[I,<-H];simp[uT]
 refine GO (SA:=λh a i=>GP pr wd h a (QP zs) i) S hl #[λ⟨o,M,L,t,P,j⟩ m=>#[o,M,L,t,m o P,j],λ{A E i v C z Q} q lt V k=>?_,λg=>SetOf_congr ((setObjOf_fresh (knd:=uH pr wd) _).setOf g<|by unfold kc;show o7 06) (λ_=>rfl) rfl]<|by rw[len];show fin
 rw[I]at q;simp![uT,u3,Z5]at q;let#[p,R,rfl]:=Z6.mp q;have e:p.1=QP zs i:=by rw[<-H];simp[QP,Zv,Z5,R]
 have F:(uH pr wd).is p.1 (.str p.1 p.2)=Zi:=strKind_is _ _ _ _;have:=A3 (QP zs) i;rw[e]at F ⊢;show ZT (Zb<|(uH pr wd).pyHash F<|wpAny_setAddHashed_of (s:={z with toks:=z.toks+1}) F rfl V (ZC<|Zc (Zh (Zc (Zc (Zh this 2)<|Zh lt 1)<|Zh (Zn len) 1) 1) room) λO U D=>k _ O U<|SetOf_congr D (λk=>(RS _ i k).symm) rfl)
end
section
variable{V:aF}{X:Cx}
def Ym(aa:A1):E1:=λU h=>(aa U h).bind λxs h1=>match xs with|[.ref i]=>(match h1[i]? with|some (.lst ys)=>(match QB ys with|some zs=>if zs.length+1<kc then .ok (.int<|gH (QP zs) zs.length) h1 else .stuck|none=>.stuck)|_=>.stuck)|_=>.stuck
theorem RY(hh:X.A.handled=Ze)(g1:Gl X "len")(m1:X.mg "len"=Ze)(g2:Gl X "set")(m2:X.mg "set"=Ze)(ha:dG V X [a] aa)(hs:ZH [a] X.env=[(Zl,a0 a X.env)]):
  ah V X (.Call (.Name "len" p) [.Call (.Name "set" p2) [a] [] pos2] [] pos) (Ym aa):=λL s U H Y bF h Q E N K=>by
 calc hV<|Qj N.inv g1 m1 rfl ?_;calc sW ?_ rfl rfl;calc zm ?_;calc hV<|Qj N.inv g2 m2 rfl ?_;calc om ?_ hs rfl;refine(ha pos2).run N K λxs h1 us s1 H1 U1 m n1 r1 j=>?_
 let#[vs,rv,qs]:=r1;cases xs with|nil=>show(j).elim|cons x t=>
  cases t with|cons _ _=>cases x<;>show(j).elim|nil=>
   cases x with
   |ref i=>
    let#[w,rfl,ad,rfl,D]:=qs.bQ;let#[u,rfl,ru]:=Qz rv;cases ru;dsimp only at j;cases Z:h1[i]? with|none=>rw[Z]at j;show(j).elim|some ob=>
     rw[Z]at j;cases ob with
     |lst ys=>
      dsimp only at j;cases O:QB ys with|none=>rw[O]at j;show(j).elim|some zs=>
       rw[O]at j;dsimp only at j;split at j
       .rename_i room;let#[ws,e1,W]:=m.at Z D;let#[its,F,pl,_]:=m.inv.list<|bU.of e1;let#[l2,P,ez]:=A2 O W F;refine RX hh pl.isList P ez room λJ tk hS keep=>zo ?_
        let#[o,S,ep,t,ho,C,hd,hel,M,R,hf,hn]:=hS;have I:(S.size:Int)<2^63:=by
         have:=A3 (QP zs) zs.length;have sb:kc<=2^40:=by unfold kc;decide
         lia
        calc call_len_set ho C hd hf I ?_;rw[hn];show j _ _ _ _ #[(m.inv.kept (t':=_) keep),m.rel,m.st] .refl #[.int _,#[_,rfl],rfl]
       .show(j).elim
     |_=>show(j).elim
   |_=>show(j).elim
end
section
variable{α β:Type}{h h1:IH}{U:aA}
def bM.sq(r:bM)(b:S1):bM:=match r with|.next U' h'=>b U' h'|r=>r
def RZ(e:h[n]?=B (.exc c fs)):(bM.exc n U h).fin=.exc n h:=by simp[bM.fin,e]
theorem R0(v)(U):Ja 0 (B v::U) h=.ok v h:=rfl
end
def jT(x:Str)(n:Int):Bool:=decide (x.length<=1000/\ -1000<=n/\n<=1000)
def jT.ok(h:jT x n=Zi):MulOk x n:=by
 simp![jT,decide_eq_true_eq]at h;let#[j,J,m]:=h;refine#[?_,λhn _=>?_,λhn _=>?_]
 .simp;lia
 .have e:(1000:Int)<=(2^63-1)/n:=by rw[zc<|hi.mp 06];lia
  lia
 .have:x.length*n.toNat<=1000*1000:=Nat.mul_le_mul j 05;have O:1000000<sizeLine:=01;unfold Builtin.Str.tooLong;lia
def R7:d6 X (fE .Mult) (λx y H Q=>∃i j,x=.str i/\y=.int j/\jT i j=Zi/\Q (.str<|Txt.mul i j) H):=by intro L s U H x y v u Q I E D h;let#[i,j,rfl,rfl,m,q]:=h;let#[t,rfl]:=E;let#[C,rfl]:=D;show SB.mul (jT.ok m) λC F=>#[.str<|Txt.mul i j,H,I.tok _,#[_,rfl],q]
def Qd(x y:IV)(h:IH):Res IV:=match x with|.str i=>(match y with|.int j=>if jT i j then .ok (.str<|Txt.mul i j) h else .stuck|_=>.stuck)|x=>X5 x y h
section
variable{V:aF}{X:Cx}
def R8:dt V X (fE .Mult) Qd:=by
 intro L s U H Y J h x y v u Q E N C m K;cases x with
 |str i=>
  let#[P,C,D]:=C;let#[R,m,F]:=m;cases y with
  |int j=>
   have O:=D;have M:=F;subst O M;dsimp only[Qd]at K;split at K
   .rename_i I;show Qg (R7) N.inv C m #[i,j,rfl,rfl,I,aC N K rfl]
   .show(K).elim
  |_=>show(K).elim
 |_=>show O4 L s U H Y J h _ y v u Q E N C m K
end
noncomputable def bo (kvs:Wp)(k:Key):Tf:=(kvs.find? λkv=>decide (kv.1=k)).map (·.2)
def V1(e:p.1=k):bo (p::r) k=B p.2:=by simp[bo,e]
def Vm(e:¬p.1=k):bo (p::r) k=bo r k:=by simp[bo,e]
theorem cq.get{K:W.Frag}(k):∀{xs:Wp}{vs:Wt},cq K Y H xs vs->(bo xs k=Ze/\cW vs k=Ze)\/∃v w,bo xs k=B v/\cW vs k=B w/\RV K Y H v w
 |[],_,h=>by have e:=h;subst e;show .inl #[rfl,rfl]
 |x::xs,_,h=>by
  let#[v,r,rfl,q,t]:=h;by_cases e:x.1=k
  .show .inr #[x.2,v,V1 e,vW e,q]
  .rw[Vm e,vX e];show cq.get k t
theorem cq.snoc{K:W.Frag}(q:RV K Y H v w):∀{xs:Wp}{vs:Wt},cq K Y H xs vs->cq K Y H (xs++[(k,v)]) (vs++[(k,w)])
 |[],_,h=>by have e:=h;subst e;show#[w,[],rfl,q,rfl]
 |x::xs,_,h=>by let#[m,r,rfl,j,t]:=h;show#[m,r++[(k,w)],rfl,j,cq.snoc q t]
def OA{k:Key}(e:cW vs k=Ze):putK vs k w=vs++[(k,w)]:=by unfold putK;rw[if_neg];rw[Ai,e];show Zz
section
variable{V:aF}{X:Cx}
def Xv:E1:=λ_ h=>.ok (.ref h.length)<|h++[.aY []]
theorem R9:ah V X (.Dict [] [] pos) Xv:=λL s U H Y j h Q E N K=>by
 have hn:=N.inv.au.fresh<|Zk s.heap.objs.size;have I1:=N.inv.laid (t':=s.toks) (λ_ _ q=>Zg _ q) (Zk _)<|OF s.heap N.inv.big;let#[m,n1]:=N.rel.alloc (io:=.aY []) hn #[[],Jx,rfl];have D:az V X L (Y++[s.heap.objs.size]) j (h++[.aY []]) U (upd H s.heap.objs.size<|.dK []) _:=#[I1,m,N.st.mono n1];have C:(Y++[s.heap.objs.size])[h.length]?=B s.heap.objs.size:=by rw[<-N.rel.len,ZN<|Zk _];simp
 show wpAny_Dict_empty<|K _ _ _ (Y++[s.heap.objs.size]) D n1 #[.ref _,rfl,_,rfl,C]
end
noncomputable def putD (kvs:Wp)(k:Key)(v:IV):Wp:=if (kvs.any λkv=>decide (kv.1=k))=Zi then kvs.map (λkv=>if kv.1=k then(kv.1,v)else kv)else kvs++[(k,v)]
theorem cq.any{K:W.Frag}(k):∀{xs:Wp}{vs:Wt},cq K Y H xs vs->(xs.any λj=>decide (j.1=k))=vs.any λj=>decide (j.1=k)|[],_,h=>by have e:=h;subst e;rfl|x::xs,_,h=>by let#[v,r,rfl,q,t]:=h;rw[pv,pv,cq.any k t]
theorem cq.upd{K:W.Frag}(q:RV K Y H v w):∀{xs:Wp}{vs:Wt},cq K Y H xs vs->cq K Y H (xs.map λj=>if j.1=k then(j.1,v)else j) (vs.map λj=>if j.1=k then(j.1,w)else j)
 |[],_,h=>by have e:=h;subst e;show rfl
 |x::xs,_,h=>by
  let#[C,r,rfl,m,t]:=h;rw[ZW,ZW];by_cases e:x.1=k
  .rw[if_pos e,if_pos e];show#[w,_,rfl,q,cq.upd q t]
  .rw[if_neg e,if_neg e];show#[C,_,rfl,m,cq.upd q t]
def cq.tO{K:W.Frag}(q:RV K Y H v w)(r:cq K Y H xs vs):cq K Y H (putD xs k v) (putK vs k w):=by
 unfold putD putK;rw[r.any k];split
 .show r.upd q
 .show r.snoc q
section
variable{V:aF}{X:Cx}
def QT(x y:IV)(h:IH):Res IV:=match x with|.ref i=>(match h[i]? with|some (.aY kvs)=>(match iC y with|some k=>(match bo kvs k with|some v=>.ok v h|none=>.stuck)|none=>.stuck)|_=>.stuck)|_=>.stuck
def Sa:wb V X QT:=by
 intro C m L s U H Y bF h x y v u Q E N I F K W;let#[xv,I,P]:=I;let#[yv,F,R]:=F;cases x with
 |ref i=>
  let#[a,J,ha]:=P;subst J;dsimp only[QT]at K;cases Z:h[i]? with|none=>rw[Z]at K;show(K).elim|some S=>
   rw[Z]at K;cases S with
   |aY kvs=>
    dsimp only at K;cases D:iC y with|none=>rw[D]at K;show(K).elim|some k=>
     rw[D]at K;dsimp only at K;let#[ws,J,r1]:=N.at Z ha;cases A0 D R;cases (I);let#[z,hd,ps,rel,O]:=Al N.inv.au J;rcases r1.get k with⟨p,q⟩|⟨v1,w1,p,q,r⟩
     .rw[p]at K;show(K).elim
     .rw[p]at K;have M:=rel.val k;rw[q]at M;let#[w',hw,j]:=cU.some_of M;show zp (x:=w') O.typeIs PySem.F.slot_dict_getitem.lookup (wpAny_getItem_of (Ak F) O.mapOf hw #[rfl,aC N K r _ _ (N.inv.tok _) j]) W
   |_=>show(K).elim
 |_=>show(K).elim
noncomputable def fQ (x c:IV)(h:IH):Res IV:=match c with|.ref i=>(match h[i]? with|some (.aY kvs)=>(match iC x with|some k=>.ok (.bl (bo kvs k).isSome) h|none=>.stuck)|_=>.stuck)|_=>.stuck
def Sb:dt V X (dU .In) fQ:=by
 intro L s U H Y S h x y v u Q E N D C K;let#[xv,D,I]:=D;let#[W,C,J]:=C;cases y with
 |ref i=>
  let#[a,F,ha]:=J;subst F;dsimp only[fQ]at K;cases Z:h[i]? with|none=>rw[Z]at K;show(K).elim|some M=>
   rw[Z]at K;cases M with
   |aY j=>
    dsimp only at K;cases m:iC x with|none=>rw[m]at K;show(K).elim|some k=>
     rw[m]at K;dsimp only at K;let#[ws,F,R]:=N.at Z ha;cases A0 m I;cases (C);let#[z,hd,ps,rel,P]:=Al N.inv.au F;calc wpAny_in_of (Ak D) hd P.mapOf ?_;rw[<-(rel.val k).jQ];have O:(cW ws k).isSome=(bo j k).isSome:=by rcases R.get k with⟨p,q⟩|⟨v1,w1,p,q,r⟩<;>rw[p,q]<;>rfl
     rw[O];show aC N K rfl _ _ (N.inv.tok _) rfl
   |_=>show(K).elim
 |_=>show(K).elim
def Y7:IV->IV->IV->aA->IH->bM
 |.ref i,iv,v,U,h=>match h[i]? with
  |some (.aY kvs)=>(match iC iv with
   |some k=>if kvs.length<sizeLine then .next U (h.set i<|.aY<|putD kvs k v)else .stuck
   |none=>.stuck)
  |_=>.stuck
 |_,_,_,_,_=>.stuck
def gJ(o i:E1):G1:=λv U h=>rS U (o U h) λov h1=>rS U (i U h1) λiv J=>Y7 ov iv v U J
def Sd(ho:ah V X oe mo)(Z:ah V X ie mi)
  (ha:∀v,lO (.Subscript oe ie pos) X.env v=(do
   let ov<-jt [v] (a0 oe X.env)
   let iv<-jt [v,ov] (a0 ie X.env)
   nL pos
   jt [v,ov,iv] (setItem ov iv v)
   release [v,ov,iv] [])):je V X (.Subscript oe ie pos) (gJ mo mi):=by
 intro L s U H Y bF h v u Q E N r K;rw[ha];refine Zb<|ZT<|cQ ho N K λov h1 ou s1 H1 U1 N1 n1 r1 K1=>?_
 refine Zb<|ZT<|cQ Z N1 K1 λiv J iu s2 P O D n2 r2 j=>?_
 have r':RU X.K O P v u:=(r.mono n1).mono n2;let#[ox,ro,qo]:=r1.mono n2;let#[ix,ri,qi]:=r2;let#[W,rvx,qv]:=r';calc Zb<|jI<|Zb<|ZT ?_;cases ov with
 |ref i=>
  let#[a,rfl,F]:=qo;dsimp only[Y7]at j;cases hh:J[i]? with|none=>rw[hh]at j;show(j).elim|some ob=>
   rw[hh]at j;cases ob with
   |aY R=>
    dsimp only at j;cases S:iC iv with|none=>rw[S]at j;show(j).elim|some k=>
     rw[S]at j;dsimp only at j;split at j
     .rename_i hl;let#[ws,m,C]:=D.at hh F;cases A0 S qi;cases (ro);let#[z,hd,ps,rel,dd]:=Al D.inv.au m;have hz:ps.length<=sizeLine:=by rw[<-rel.length];show z
      have M:(putK ws k W).length<=sizeLine:=by have h1:=Oz ws k W;have J:=C.length;show Zc (Zc h1<|Zh (Zn J) 1) hl
      refine wpAny_setItem_pairs (hsz:=hz) (Ak ri) dd λh' I hs=>?_
      have he:∃q,h'.get? a=B q:=let ⟨q,_,_,hq,_⟩:=I;#[q,hq];have I4:=OC (t':=s2.toks+1) D.inv (by rw[m];show fJ) hs he<|OD M hd (rel.put k rvx) I;have n:aU O P O (upd P a<|.dK<|putK ws k W):=#[#[[],03],Ext.cJ m<|by rw[m];show fJ];let#[R3,_]:=D.rel.write (io:=.aY<|putD R k v) F m (by rw[m];show fJ) #[_,Jx,cq.tO (RV.mono n _ _ qv)<|cq.mono n _ _ C];show wpAny_release<|j _ U _ O #[I4,R3,D.st.mono n] n
     .show(j).elim
   |_=>show(j).elim
 |_=>show(j).elim
end
def leZ(a b:Int):Bool:=decide (a<=b)
def VI(ns:Tp):Tp:=ns.mergeSort leZ
def Se(ns):(VI ns).Pairwise (· <= ·):=by have:=List.pairwise_mergeSort (le:=leZ) (λa b c j J=>by simp![leZ]at *;lia) (λa b=>by simp![leZ];lia) ns;show this.imp λh=>by simpa[leZ]using h
theorem Sf(p:ns'.Perm ns)(s:ns'.Pairwise (· <= ·)):ns'=VI ns:=List.Perm.eq_of_pairwise (λa b _ _ j J=>zf j J) s (Se ns) (p.trans (List.mergeSort_perm ns leZ).symm)
theorem XJ:∀{us:Tv}{ns:Tp},fz us ns->Vals (ns.map bB.int) us|_,_,.nil=>.nil|_,_,.cons _ _ r=>.cons #[_,rfl]<|XJ r
theorem A4{K:W.Frag}:∀ns:Tp,aw K Y H (ns.map IV.int) (ns.map bB.int)|[]=>rfl|_::ns=>#[_,_,rfl,rfl,A4 ns]
def QE(f:Nat->Int):Nat->Int|0=>0|1=>f 0|j+2=>if f (j+1)<QE f (j+1)then f (j+1)else QE f (j+1)
def A5(f)(m:0<j):QE f (j+1)=if f j<QE f j then f j else QE f j:=by cases j with|zero=>show absurd 06<|i3 _|succ j=>rfl
theorem GQ(f):∀k,QE f (k+1)=f (argBest (λi j=>decide (f i<f j)) k)|0=>rfl|k+1=>by rw[A5 f<|gZ k,GQ f k];change _=f (if decide (f (k+1)<f (argBest _ k))=Zi then k+1 else argBest _ k);simp;split<;>rfl
section
variable{pr:ZU}{wd:bq}{bA:bP}{E:aH}{z:Zx}{l:Z4}{us:Tv}{ns:Tp}{Q:aH}
def Sg(L:bA.handled=Ze)(hl:z.heap.IsList l us.toArray)(Z:fz us ns)(D:ns≠[])
  (I:∀v J tk,(∃u,v=.int (QE (λi=>ns.getD i 0) ns.length) u)->(∀b o,z.heap.get? b=B o->J.get? b=B o)->Q v {z with heap:=J,toks:=tk}):
  Zw (Zy pr wd) bA (call (.builtin "min") [.ref l]) Q E z:=by
 let#[R,C,_]:=id hl;have lt:=Z0 C;have m:=wy Z;have j:0<ns.length:=List.length_pos_iff.mpr D;have sz:us.toArray.size=us.length:=ZI ..;have F:∀(i:Nat)(v:Zo),us.toArray[i]?=B v->∃t,v=.int ((λi=>ns.getD i 0) i) t:=λi v q=>zA Z i v<|by simpa using q
 refine call_min_walk (nA hl #[_,[_,l],[_],_,_,_,_,rfl,Walks.list (A:=bA.in1) L _ l (Z1 lt) us.toArray,#[#[_,Zt _ rfl,rfl,rfl],hl.push _],λb O=>?_,by rw[sz];show Zc j<|Zn m.symm,zC (λi=>ns.getD i 0) F,λv H tk P M=>?_])
 .change b<(z.heap.push _).objs.size;rw[pE];rcases ZA.mp O with rfl|O
  .show ZX _
  .cases Z8.mp O;show jv lt
 .let#[u,rfl]:=F _ _ P;have e:us.toArray.size-1+1=ns.length:=by rw[sz];show gf (Zc (Zn<|o5<|Zc j<|Zn m.symm)<|Zn m)<|Zc (Zn m.symm)<|uU<|Zk _
  refine I _ H tk #[u,?_] λb o e=>M b o (λq=>Z1 (Z0 e)<|Z8.mp q)<|Zg _ e
  rw[<-e,GQ]
end
section
variable{V:aF}{X:Cx}
def VD:IV->IH->Res IV
 |.ref i,h=>match h[i]? with
  |some (.lst xs)=>(match JP xs with
   |some ns=>if ns=[]then .stuck else .ok (.int<|QE (λi=>ns.getD i 0) ns.length) h
   |none=>.stuck)
  |_=>.stuck
 |_,_=>.stuck
theorem Sh(R:X.A.handled=Ze):Q2 V X (.builtin "min") (bu VD):=V6 λL s U H Y bF h x xv u Q E N S C K=>by
 cases x with
 |ref i=>
  let#[a,m,ha]:=C;subst m;cases S;dsimp only[VD]at K;cases Z:h[i]? with|none=>rw[Z]at K;show(K).elim|some D=>
   rw[Z]at K;cases D with
   |lst xs=>
    dsimp only at K;cases O:JP xs with|none=>rw[O]at K;show(K).elim|some ns=>
     rw[O]at K;dsimp only at K;split at K
     .show(K).elim
     .rename_i j;let#[vs,m,P]:=N.at Z ha;let#[M,F,pl,hz]:=N.inv.list<|bU.of m;refine Sg R pl.isList (Vq O P F) j λv J W ⟨t,ev⟩ I=>?_
      subst ev;show aC N K rfl _ _ (N.inv.kept I) #[t,rfl]
   |_=>show(K).elim
 |_=>show(K).elim
end
theorem aw.erase{K:W.Frag}:∀{xs:Tw}{vs:Uc}(k:Nat),aw K Y H xs vs->aw K Y H (xs.eraseIdx k) (vs.eraseIdx k)|[],vs,k,h=>by cases (h);show rfl|_::_,_,0,h=>by let#[v,r,rfl,q,t]:=h;show t|_::_,_,k+1,h=>by let#[v,r,rfl,q,t]:=h;show#[v,r.eraseIdx k,rfl,q,aw.erase k t]
section
variable{V:aF}{X:Cx}
noncomputable def Xa:IV->Tw->IH->Res IV
 |.ref i,[.ref j],h=>match h[i]? with
  |some (.lst xs)=>(match h[j]? with
   |some (.lst ys)=>if xs.length+ys.length<=sizeLine then .ok .ag (h.set i<|.lst<|xs++ys)else .stuck
   |_=>.stuck)
  |_=>.stuck
 |_,_,_=>.stuck
def Si:oH V X "list" "list.extend" Xa:=by
 intro L s U H Y bF h x xs v us Q E N D S K;let#[xv,D,M]:=D;let#[vs,W,qs]:=S;cases x with
 |ref i=>
  match xs,K with
  |[y],K=>
   cases y with
   |ref j=>
    let#[a,rfl,ha]:=M;let#[w,rfl,b,rfl,O]:=qs.bQ;dsimp only[Xa]at K;cases Z:h[i]? with|none=>rw[Z]at K;show Zf K|some P=>
     rw[Z]at K;cases P with
     |lst zs=>
      dsimp only at K;cases m:h[j]? with|none=>rw[m]at K;show Zf K|some oj=>
       rw[m]at K;cases oj with
       |lst ys=>
        dsimp only at K;split at K
        .rename_i hl;let#[ws,J,I]:=N.at Z ha;let#[C,R,F]:=N.at m O;show AZ (Ou (X:=X.aT E)) N.inv D W #[a,b,ws,C,rfl,rfl,J,R,by rw[I.length,F.length];show hl,m4 (ys:=zs++ys) N K ha J (I.append F) rfl]
        .show Zf K
       |_=>show Zf K
     |_=>show Zf K
   |_=>show Zf K
  |[],K=>show Zf K
  |y::_::_,K=>cases y<;>show Zf K
 |_=>cases xs with|nil=>show Zf K|cons y r=>cases y<;>cases r<;>show Zf K
def A6(k:Int):Zo->Bool|.int a _=>a==k|_=>Zl
theorem GR:∀(us:Tv)(ns:Tp),us.length=ns.length->(∀i v,us[i]?=B v->∃t:Tok,v=l7 (ns.getD i 0) t)->fz us ns|[],[],_,_=>.nil|u::us,n::ns,hl,h=>by let#[t,e]:=h 0 u rfl;cases (e);show .cons n t (GR us ns (by simpa using hl) λi v q=>h (i+1) v q)|[],_::_,hl,_=>by cases hl|_::_,[],hl,_=>by cases hl
def XB(j):aN 0 j=((ZK j.toNat).map λk=>((k:Nat):Int)).map IV.int:=by simp[aN]
end
section
variable{prog:ZU}{w:bq}{A:bP}{E:aH}{s:Zx}
def A7(m:s.heap.IsTupleIter it t i)(I:s.heap.IsTuple t items) (h:match items[i]? with|some x=>∀h',h'.IsTupleIter it t (i+1)->jx it s.heap h'->Q x {s with heap:=h'}|none=>aE A s.heap/\∀h' e,eQ it s.heap h'->(∃o,h'.get? e=B o/\o.cls=.type "StopIteration")->E (.ref e) {s with heap:=h'}):Zw (Zy prog w) A (zx<|.ref it) Q E s:=by let#[O,Z,J,j]:=id m;let#[ot,C,_,M,L]:=I;unfold zx;calc Zb<|mE (name:=ZG "__next__") m.typeIs F.slot_tuple_iterator_next<|j8 F.slot_tuple_iterator_next m.typeIs F.entry_tuple_iterator_next ?_<|F.args_tuple_iterator_next_1 _;change Zw _ A.in1 (field (.ref it) 0>>=_) _ _ s;calc Zb<|fw Z j (x:=.ref t) rfl ?_;change Zw _ A.in1 (if (hE t==dA)=Zi then _ else _) _ _ s;rw[if_neg<|show ¬(hE t==dA)=Zi from Zz];change Zw _ A.in1 (field (.ref it) 1>>=_) _ _ s;calc Zb<|fw Z j (x:=.int i 0) rfl ?_;change Zw _ A.in1 (qU (.ref t)>>=_) _ _ s;calc Zb<|lM C L ?_;simp![jN];cases H:items[i]? with|some x=>rw[H]at h;calc Zb<|iL Z j 03<|Zj #[x,rfl,Zj<|h _ #[_,i5 _ Z<|lW<|ZR j _,(pA ..).trans J,?_]<|km ..];rw[ZR j];simp[cA]|none=>rw[H]at h;calc Zb<|jK<|Zb<|iL Z j 03 ?_;have D:=(km s.heap it<|eR λx=>x.setIfInBounds 0 dA).extBut;show vI (h.1.but D Z j 03) D h.2
theorem aE.ne(c:aE A h)(g:h.get? e=B o)(d:o.data=.fields vs)(n:vs[2]?≠B .none):e∉i9 A:=λz=>by cases c with|calm q=>simp[i9,q]at z|warm q g2 d2 x=>simp[i9,q]at z;subst z;rw[g]at g2;cases g2;rw[d]at d2;cases d2;show n x
end
theorem Sj{prog:ZU}{w:bq}{A:bP}(it l:Z4)(C:l≠it)(items:Ti):Draws prog w A it (it::l::i9 A) items.size (λi v=>items[i]?=B v) (λi h=>(h.IsTupleIter it l i/\h.IsTuple l items)/\aE A h) where
 live:=λ_ _ st=>let ⟨o,D,_⟩:=st.1.1;#[o,D]
 frame:=λ_ _ _ st F=>#[#[st.1.1.at λo e=>F it 03 o e,let ⟨o,e,r⟩:=st.1.2;#[o,F l 03 o e,r]],st.2.at λb O=>F b<|by simp[O]]
 item:=λi s Q E Z st J=>A7 st.1.1 st.1.2 (by rw[getElem?_pos items i Z];let#[o,D,_,hd]:=id st.1.1;show λI m j=>J _ I s.toks (getElem?_pos items i Z) #[#[m,st.1.2.extBut j.extBut C],st.2.but j.extBut D hd 03] j)
 done:=λs Q E st H=>A7 st.1.1 st.1.2<|by rw[getElem?_neg items items.size<|i3 _];show#[st.2,H]
theorem Sk{prog:ZU}{w:bq}{A:bP}(it l:Z4)(i:Nat)(items:Ti)(C:items[i]?=Ze):Draws prog w A it (it::l::i9 A) i (λ_ _=>True) (λj h=>j=i/\(h.IsTupleIter it l i/\h.IsTuple l items)/\aE A h) where
 live:=λ_ _ st=>let ⟨o,D,_⟩:=st.2.1.1;#[o,D]
 frame:=λ_ _ _ st m=>#[st.1,#[st.2.1.1.at λo e=>m it 03 o e,let ⟨o,e,r⟩:=st.2.1.2;#[o,m l 03 o e,r]],st.2.2.at λb O=>m b<|by simp[O]]
 item:=λj s Q E Z st H=>by have:=st.1;lia
 done:=λs Q E st F=>A7 st.2.1.1 st.2.1.2<|by rw[C];show#[st.2.2,F]
open AutoSeq1 (wpAny_loadPart') in
theorem Sl(l)(items)(n)(aY)(sl):
  Meets (dz.«enumerate.__new__» #[[.type "enumerate",.ref l],[]]) (λ_ R s=>s.heap.get? l=B {cls:=.type "tuple",dict:=aY,data:=.seq items n,slots:=sl} /\
   R (.ok<|.ret<|.ref (s.heap.push {cls:=.type "tuple_iterator",data:=.fields (ba [.ref l,.int 0 0])}).objs.size)
    {s with heap:=(s.heap.push {cls:=.type "tuple_iterator",data:=.fields (ba [.ref l,.int 0 0])}).push {cls:=.type "enumerate",data:=.fields (ba [.none,.bool Zl,.ref s.heap.objs.size,cA 0,.none,.none])} }):=
 .of_wp λprog w A R s h=>by
  let#[hp,g,d,tk,os]:=s;let#[hl,h]:=h;have hsub:=sub_enumerate;have hT:Heap.IsTuple (Shared.heap #[hp,g,d,tk,os]) l items:=#[_,hl,rfl,n,rfl]
  wp_walk using sf hl
  refine wpAny_stack_any λst=>Zj ?_
  split
  .rename_i c _ _ _ _ _;cases (c==mP "enumerate")<;>(wp_walk using sf hl,uw hT;show#[_,rfl,h])
  .wp_walk using sf hl,uw hT
   show#[_,rfl,h]
section
variable{prog:ZU}{w:bq}{A:bP}{E:aH}{s:Zx}
def Sm(D:s.heap.IsTuple l items) (h:∀h',IsEnum h' (s.heap.objs.size+1) s.heap.objs.size 0 .none->h'.IsTupleIter s.heap.objs.size l 0->(∀b o,s.heap.get? b=B o->h'.get? b=B o)->Q (.ref<|s.heap.objs.size+1) {s with heap:=h'}):Zw (Zy prog w) A (call (.type "enumerate") [.ref l]) Q E s:=by
 let#[#[c,aY,J,C],I,H,n,hd]:=D;cases (show c=.type "tuple" from H);cases (show J=.seq items n from hd);calc callType_new F.called_enumerate 01 (F.typeCall_enumerate_1 _) (F.newCall_enumerate_1 _) (λobj=>F.args_object_init_2 obj _) F.entry_enumerate_new (Sl l items n aY C) #[I,?_];have j:(s.heap.push {cls:=.type "tuple_iterator",data:=.fields (ba [.ref l,.int 0 0])}).objs.size=s.heap.objs.size+1:=nY ..;change _/\_;rw[j];have m:IsEnum ((s.heap.push {cls:=.type "tuple_iterator",data:=.fields (ba [.ref l,.int 0 0])}).push {cls:=.type "enumerate",data:=.fields (ba [.none,.bool Zl,.ref s.heap.objs.size,cA 0,.none,.none])}) (s.heap.objs.size+1) s.heap.objs.size 0 .none:=by have:=Zt (s.heap.push {cls:=.type "tuple_iterator",data:=.fields (ba [.ref l,.int 0 0])}) (o:={cls:=.type "enumerate",data:=.fields (ba [.none,.bool Zl,.ref s.heap.objs.size,cA 0,.none,.none])}) rfl;rw[j]at this;show this
 show#[#[_,m,rfl],h _ m #[_,Zg _<|Zt _ rfl,rfl,rfl] λb o x=>Zg _<|Zg _ x]
end
section
variable{V:aF}{X:Cx}
def p7(K:W.Frag)(a:Z4):It:=#[λi H=>∃xs x,d4 K H a xs/\xs[i]?=B x,λi H y H'=>∃p x,H p=Ze/\y=.ref p/\H'=upd H p (.tup [.int (i:Int),x])/\∀xs,d4 K H a xs->xs[i]?=B x,λi H=>∃xs,d4 K H a xs/\xs.length<=i]
theorem Sn{P:ZU}{w:bq}{K:W.Frag}{es:Te}{k:Nat}{p:Pos}(a it e:Z4)(M:e≠it):Turn P w K (.Tuple es k p) (p7 K a) [e,it] e (λi h=>(∃m,IsEnum h e it (i:Int) m)/\h.IsTupleIter it a i) where
 mem:=03
 obj:=λi h st b O=>by
  let#[#[m,C],o,e1,c,d]:=st;simp![ZA,iR,or_false]at O;rcases O with rfl|rfl
  .show#[_,C,λv z=>by have z':Data.fields _=sZ v:=z;cases z']
  .show#[o,e1,λv z=>by rw[d]at z;cases z]
 keep:=λi h h' st k=>#[let ⟨m,C⟩:=st.1;#[m,k e 03 _ C],st.2.at λo e=>k it 03 o e]
 item:=by
  intro X hP hw hK Z i L s U H E I Y st hg;subst hP hw hK;let#[#[m,C],D]:=st;let#[xs,x,S,V]:=hg;let#[j,rv,pl,hz]:=I.tuple S;have pt:s.heap.IsTuple a j.toArray:=pl;let#[u,hu,ru]:=rv.get V;have fe:=Y e 03;have fi:=Y it 03;let#[oi,Q,ci,di]:=id D;have nea:a≠it:=λz=>by
   let#[oa,ha,ca,_]:=pt;rw[z,Q]at ha;cases ha;rw[ci]at ca;injection ca with z1
   show absurd z1 01
  have nee:e∉it::a::i9 X.A.in1:=λz=>by
   simp![ZA]at z;rcases z with z|z|z
   .show M z
   .let#[oa,ha,ca,_]:=pt;have F:s.heap.get? e=B _:=C;rw[<-z,F]at ha;cases ha;injection ca with z1
    show absurd z1 01
   .show aE.ne (I.cw Z).in1 C rfl 03 z
  have lti:i<j.toArray.size:=by have:=(Zu.mp hu).1;simpa using this
  refine wpAny_pyNext_enum_itemD (Sj (A:=X.A.in1) it a nea j.toArray) C #[#[D,pt],(I.cw Z).in1] lti M nee λy h' tk hy F st' ht hsz kk=>?_
  have ey:y=u:=by
   have J:j[i]?=B y:=by simpa using hy
   rw[hu]at J;cases J;rfl
  subst ey;have R:=st'.1.1;calc#[_,rfl,Ey F λJ he2 sb=>?_];have m3:=Z0 C;let#[o,q,r]:=R;let#[I1,f1]:=GJ (t':=tk+1) I fe fi m3 (Z0 Q) (λb o h1 h3 q=>(sb.2 b h1).trans<|kk b o h1 h3 q) ((sb.2 _<|d0 m3).trans ht) ru;show#[.ref s.heap.objs.size,_,I1,rfl,#[s.heap.objs.size,x,I.au.fresh<|Zk _,rfl,rfl,λys hy=>by rw[I.fZ hy S];show V],#[#[_,he2],o,(sb.2 it<|ZP M).trans q,r],f1]
 done:=by intro X hP hw hK Z i L s U H E I Y st hg;subst hP hw hK;let#[#[m,C],D]:=st;let#[xs,S,V]:=hg;let#[j,rv,p,hz]:=I.tuple S;let#[f0,f1,f2,f3,f4,f5]:=Y it 03;have hl:=rv.length;have pt:s.heap.IsTuple a j.toArray:=p;show wpAny_pyNext_enum_endD (Sk (A:=X.A.in1) it a i j.toArray<|by simp;show Zc (Zn hl.symm) V) C #[rfl,#[D,pt],(I.cw Z).in1] λh' eb=>#[rfl,I.turned (t':=s.toks) (λb o O e=>eb b o O e) f0 f1 f3 f4 f5]
 self:=λ_ _ _ _ _ st h=>let ⟨_,C⟩:=st.1;ux C h
def Vs:Tw->IH->Res jE|[.tup xs],h=>.ok #[Qm 0 xs,λ_=>True] h|vs,h=>Vr vs h
def So(ha:d4 X.K H₀ a vs)(r:aw X.K Y H₀ xs vs):gB V X.K Y H₀ (p7 X.K a) #[Qm 0 xs,λ_=>True]:=by
 refine#[λk v h H P m R D I=>?_,λk h H P m R D I=>?_]
 .have j:(Qm 0 xs)[k]?=B v:=I;rw[Yq]at j;let#[x,C,rfl]:=Z6.mp j;have O:=aw.mono m _ _ r;have sa:=m.ext.tE ha;let#[u,L,Q]:=O.get C;calc#[#[vs,u,sa,L],λy S F=>?_];let#[p,U,E,rfl,rfl,F]:=F;have:=F vs sa;rw[L]at this;cases this;let#[M,J]:=R.grow (o:=.tup [.int (k:Int),u]) E;calc#[M,J,p,_,rfl,d4.of Jx,#[_,_,rfl,?_,_,_,rfl,RV.mono J _ _ Q,rfl]];change bB.int (k:Int)=bB.int ((0+k:Nat):Int);simp
 .show#[vs,m.ext.tE ha,by rw[r.length,<-VZ xs 0];show I]
def Sq(P:Gl X "enumerate")(hm:X.mg "enumerate"=Ze)(ha:dG V X [a] ma)(hs:ZH [a] X.env=[(Zl,a0 a X.env)]:=by rfl):jf V X (.Tuple es kt pt) (.Call (.Name "enumerate" p) [a] [] pos) (cT Vs ma):=by
 intro L s U H Y C h Q E N K;by_cases W:∃xs D,ma C h=.ok [.tup xs] D
 .let#[xs,D,F]:=W;calc Call_<|Qj N.inv P hm boot_enumerate<|om ?_ hs rfl;calc ha pos L s U H Y C h _ E N ?_;unfold cT at K;rw[F]at K ⊢;intro us m H1 U1 j n1 r1;let#[ws,rv,qs]:=r1;let#[w,e1,q]:=qs.bQ;subst e1;let#[b,M,rfl,R,rb]:=q;let#[u,rfl,ru]:=Qz rv;cases ru;let#[O,rv2,pl,hz]:=j.inv.tuple R;refine Sm (show m.heap.IsTuple b O.toArray from pl) λJ S I kp=>?_
  calc ux S<|K _ _ H1 U1 #[j.inv.kept (t':=m.toks) kp,j.rel,j.st] n1 ?_;calc#[m.heap.objs.size+1,[m.heap.objs.size+1,m.heap.objs.size],_,p7 X.K b,rfl,Sn b m.heap.objs.size (m.heap.objs.size+1)<|d0<|ZX _,#[#[_,S],I],λc Z=>?_,So R rb];simp![ZA,iR,or_false]at Z;rcases Z with rfl|rfl
  .show j.inv.df (hb _)<|j.inv.au.fresh<|hb _
  .show j.inv.df (Zk _)<|j.inv.au.fresh<|Zk _
 .calc Rr (es:=es) (kt:=kt) (pt:=pt) P hm ha hs L s U H Y C h Q E N ?_;have e:cT Vr ma C h=cT Vs ma C h:=by
   unfold cT;cases F:ma C h with
   |ok M D=>
    change Vr M D=Vs M D;unfold Vs;split
    .show absurd #[_,_,F] W
    .rfl
   |_=>rfl
  rw[e];show K
end
noncomputable def QK (a:uS):Wx:=match a with| {posonlyargs:=[],args:=[p],vararg:=Ze,kwonlyargs:=[],kw_defaults:=[],kwarg:=Ze,defaults:=[]}=>B p.arg|_=>Ze
noncomputable abbrev m7 (q:Str):Str:=q++".<locals>."++"<lambda>"
abbrev gM(q:Str)(params:uS)(body:Expr)(scope:eL)(cl:Wq)(pm ctv:Zo)(c:Z4):Obj:=W.kla_obj "<lambda>" (m7 q) params body scope cl pm c ctv
def Q0(mg:Str->Tc)(base:aM):Prop:=∃bm ob,mg "__builtins__"=B (.ref bm)/\bm≠nG/\bm≠Z2/\base.get? bm=B ob/\ob.cls=.type "module"/\ob.dict=B nG/\ob.data=.plain
def QC.rec(l:QC H q cv)(au:cV P w H h):h.CodeRec cv (m7 q):=by let#[c,E,F,t,D,j,m,C]:=l;show#[c,E,F,t,D,(au c _ j).1,m,C]
def QC.mono(E:∀b o u,H b=B (.bh o u)->H' b=B (.bh o u))(l:QC H q cv):QC H' q cv:=by let#[c,C,D,t,m,j,r]:=l;show#[c,C,D,t,m,E _ _ _ j,r]
theorem GS:∀(l:Tv),TriplesOk l->qS pos (l++[cA a,cA b,c])=B cv->qS pos l=B cv\/cv=c
 |[],_,e=>by
  simp![jM,cA,qS]at e;split at e
  .cases e;show .inr rfl
  .cases e
 |.int x t::.int y u::z::rest,h,e=>by
  simp![iQ,qS]at e ⊢;split at e
  .rename_i j;rw[if_pos j];show .inl e
  .rename_i j;rw[if_neg j];show GS rest h e
 |[.int _ _],h,_=>(h).elim
 |[.int _ _,.int _ _],h,_=>(h).elim
section
variable{V:aF}{X:Cx}
def az.gO{L:aQ}(N:az V X L Y bF h U H s)(e:s.heap.get? f=B fo)(F:aB X L H f)(d:∀v,fo.data≠.cell v):az V X (L++[(f,fo)]) Y bF h U H s:=by
 have I:=N.inv.pinned (λb O=>by rw[Z8.mp O];show F) (λb O=>by rw[Z8.mp O];show#[fo,e,d]);have j:QO [f] s.heap=[(f,fo)]:=by simp[QO,e]
 rw[j]at I;show#[I,N.rel,N.st]
def A8{j:Nat}
  (N:az V X L Y bF h U H s)(hj:h[j]?=B (.tab q))(hcd:W.codeIn X.K X.env.code q=Zi)(hq:X.env.qual=q++".<locals>.")(hdef:defaultsOf params X.env=([],[]))(hcl:oY scope X.env=pure cl)(bA:Q0 X.mg X.base)
  (K:∀f c pm D s' H',az V X (L++[(f,gM q params body scope cl pm D c)]) Y bF h U H' s'->aU Y H Y H'->QC H' q (.ref c)->Q (.ref f) s'):
  Zw (Zy X.prog X.w) X.A (a0 (.Lambda params body scope pos) X.env) Q E s:=by
 let#[a,ha,hc,ps,P,ht,M]:=N.rel.at_ j _ hj;let#[c,ec,hhd]:=hc _ hcd;have I:=N.inv;have C:=W.codeHd_of_K I.cF hhd;have gP:s.heap.get? a=B (W.tabObj ps):=I.au a _ P;have hg:s.heap.Ns Z2 X.mg:=I.ok.mod.glob.keeps I.bk;let#[bm,ob,b1,b2,b3,b4,b5,b6,b7]:=bA;have gb:=I.bs bm ob b4;have nba:bm≠a:=λz=>by rw[z,P]at gb;cases gb.2
 have O:s.heap.BuiltinsAt X.mg a:=#[bm,ob,b1,b2,b3,nba,gb.1,b5,b6,b7];have nga:Z2≠a:=λz=>by let#[o,es,ep,e,d,_]:=hg;rw[z,gP]at e;cases e;cases d
 calc W.kla_eval hdef ?_;rw[hq];cases ea:qS pos ps.toList with
 |some cv=>
  have LC:=M pos cv ea;let#[F,oc,vs,t,ecv,_]:=id LC;subst ecv;refine W.kla_makeFunctionHit hcl I.ok.glob hg ec C gP ht ea O λD h' tk hk hsz=>?_
  have I1:=I.kept (h':=h'.push<|gM q params body scope cl ((X.mg "__name__").getD .none) D F) (t':=tk) λb o e=>Zg _<|hk b o e
  have N1:az V X L Y bF h U H _:=#[I1,N.rel,N.st];show K h'.objs.size F _ D _ H (N1.gO (Zt _ rfl) (I.df hsz<|I.au.fresh hsz) λv z=>by have z':Data.func _=sZ v:=z;cases z') .refl LC
 |none=>
  refine W.kla_makeFunction hcl I.ok.glob hg ec C gP ht ea nga O λF D h' tk hx hge hlt hrec htb=>?_
  let#[c2,oc,vs,t,e2,hoc,hd,hv]:=hrec;cases e2;generalize hps:ps++(ba [cA pos.line,cA pos.col,.ref F])=S at htb;generalize hob:gM q params body scope cl ((X.mg "__name__").getD .none) D F=fo;have fc:H F=Ze:=I.au.fresh hge;have nca:F≠a:=λz=>by rw[z,P]at fc;cases fc
  have lts:s.heap.objs.size<=h'.objs.size:=Zc hge<|ZC hlt;obtain⟨H',hH⟩:∃H',H'=upd (upd H a<|.ia S) F (.bh oc<|.own 0):=#[_,rfl];have Ha:H' a=B (.ia S):=by rw[hH,Jp<|ZP nca,Jx]
  have Hc:H' F=B (.bh oc<|.own 0):=by rw[hH,Jx]
  have Z:∀b,b≠a->b≠F->H' b=H b:=λb h1 J=>by rw[hH,Jp J,Jp h1]
  have kp:∀b o,b≠a->s.heap.get? b=B o->(h'.push fo).get? b=B o:=λb o O e=>Zg _<|hx b o O e
  have ga:(h'.push fo).get? a=B (W.tabObj S):=Zg _ htb;have bh:∀b o u,H b=B (.bh o u)->H' b=B (.bh o u):=λb o u e=>by rw[Z b (λz=>by rw[z,P]at e;cases e) λz=>by rw[z,fc]at e;cases e];show e
  have tup:∀b xs,H b=B (.tup xs)->H' b=B (.tup xs):=λb xs e=>by rw[Z b (λz=>by rw[z,P]at e;cases e) λz=>by rw[z,fc]at e;cases e];show e
  have own:∀b x,H b=B (.own x)->H' b=B (.own x):=λb x e=>by rw[Z b (λz=>by rw[z,P]at e;cases e) λz=>by rw[z,fc]at e;cases e];show e
  have I1:Inv X L U H' {s with heap:=h'.push fo,toks:=tk}:=by
   refine I.step (g':=s.gens) (d':=s.drawn) (ch:=[]) (λb O=>absurd O 03) (λb o _ _ _ e n=>kp b o (λz=>by rw[z,P]at n;cases n) e) (λb o _ _ _ e n=>#[o.slots,kp b o (λz=>by rw[z,P]at n;cases n) e]) (λb o _ e n=>?_) (λb o _ e=>?_) tup bh (λb qs e=>?_) (λm hm=>?_) (λb u e=>?_) I.bare
   .rw[Z b (λz=>by rw[z,P]at n;cases n)<|Z1<|ZD (Z0 e) hge];show n
   .by_cases O:b=a
    .subst O;show#[_,ga]
    .show#[o,kp b o O e]
   .by_cases O:b=a
    .subst O;rw[P]at e;cases e;show#[_,by rw[Ha,<-hps]]
    .show#[#[],by rw[Z b O (λz=>by rw[z,fc]at e;cases e),e];simp]
   .let#[o,es,ep,ho,r]:=hm;show#[o,es,ep,kp _ o (λz=>by have:=I.free;rw[z,P]at this;cases this) ho,r]
   .by_cases O:b=a
    .subst O;rw[Ha]at e;cases e;show ga
    .by_cases hb2:b=F
     .subst hb2;rw[Hc]at e;cases e;show#[Zg _ hoc,_,Zg _ hoc]
     .rw[Z b O hb2]at e;calc(I.au b u e).eS (λd v hd r=>kp d v (λz=>?_) r) (λd z=>own d _ z) tup;subst z;rcases hd with z|z
      .show O z.symm
      .rw[P]at z;cases z
  have n:aU Y H Y H':=#[#[[],03],#[tup,bh]];have LC:QC H' q (.ref F):=#[F,oc,vs,t,rfl,Hc,hd,hv];have R:Rel V X.K Y h H':=by
   calc#[N.rel.len,N.rel.nd,λi o e=>?_];let#[b,eb,ro]:=N.rel.at_ i o e;calc#[b,eb,?_];by_cases O:b=a
   .subst O;have hij:i=j:=N.rel.inj eb ha;subst hij;rw[hj]at e;cases e;refine#[hc,S,Ha,?_,λpos' cv ea'=>?_]
    .rw[<-hps,Array.toList_append];show TriplesOk_snoc _ _ _ _ ht
    .rw[<-hps,Array.toList_append]at ea';rcases GS ps.toList ht ea' with z|z
     .show(M pos' cv z).mono bh
     .rw[z];show LC
   .refine ro.mono n λu hu=>?_
    rw[Z b O λz=>by rw[z,fc]at hu;cases hu];show hu
  have N1:az V X L Y bF h U H' _:=#[I1,R,N.st.mono n];subst hob;show K h'.objs.size F _ D _ H' (N1.gO (Zt _ rfl) (I.df lts<|by rw[Z _ (d0<|ZD (Z0 gP) lts)<|d0 hlt];show I.au.fresh lts) λv z=>by have z':Data.func _=sZ v:=z;cases z') n LC
end
abbrev p8(q:Str)(scope:eL)(bD f:Z4)(cd:Zo)(cl:Wq):Env:=newEnv scope bD Z2 cl (m7 q++".<locals>.") (B f) cd Ze nG
def mn(X:Cx)(A:bP)(N':Tk)(q:Str)(scope:eL)(f:Z4)(cd:Zo)(s:Zx)(H:Hp):Cx:={X with A:=A.deeper<|p8 q scope s.heap.objs.size f cd<|b0 X.env.cells scope.names [],N:=N',s₀:=s,H₀:=H,env:=p8 q scope s.heap.objs.size f cd<|b0 X.env.cells scope.names [],outer:=X.stack,stack:=p8 q scope s.heap.objs.size f cd (b0 X.env.cells scope.names [])::X.stack,ex:=[],calm:=Zi,fn:=λ_=>Zl,pn:=[],xe:=λ_ _=>False}
structure iD(N0:Tk)(sc₀:Wj)(x:Str)(caps:Tk)(js:Tq)(scope:eL):Prop where
 kind:scope.kind=.function
 co:scope.isCoroutine=Zl
 gen:scope.isGenerator=Zl
 k8:∀y∈scope.names,y.2≠.cell
 par:scope.names.lookup x=B .local
 free:∀y∈scope.names,y.2=.free->sc₀.lookup y.1=B .cell
 fr:∀y,scope.names.lookup y=B .free->(y,.free)∈scope.names
 Sr:∀(k j:Nat)(y:Str),js[k]?=B j->caps[k]?=B y->N0[j]?=B y/\scope.names.lookup y=B .free
 len:js.length=caps.length
 nd:(x::caps).Nodup
def Ss:qW (W.kla_fn nm qu {posonlyargs:=[],args:=[p],vararg:=Ze,kwonlyargs:=[],kw_defaults:=[],kwarg:=Ze,defaults:=[]} body scope cl pm cd ctv) #[[u],[]]=pure [(p.arg,u)]:=by have e:(rB p.arg [(p.arg,u)]).isNone=Zl:=03;unfold qW;simp[qU,e];rfl
section
variable{V:aF}{X:Cx}
def A9 (hA:A.frames=B X.stack)(hr:bj κ (k+1) A)(hc:Ql A H)(N:az V X L Y bF h U H s)(hf:s.heap.get? f=B (gM q params body scope (b0 X.env.cells scope.names []) pm ctv c))(LC:QC H q<|.ref c)(hx:QK params=B x)(S:iD X.N X.env.scope.names x caps js scope) (O:∀s' H',ah V (mn X A (x::caps) q scope f (.ref c) s' H') body m)(ru:RU X.K Y H v u)(K:Kont V X RU L Y bF U H ((m (B v::js.map λj=>(bF[j]?).join) h).nx) Q E):Zw (Zy X.prog X.w) A (call (.ref f) [u]) Q E s:=by
 have I:=N.inv;have lim:s.heap.NoLimit:=I.ok.mod.nolimit.keeps λb o e=>(I.bs b o e).1
 calc oX<|W.kla_callFunE hr.depth hf rfl S.co S.gen rfl (LC.rec I.au) ?_;have M:qW (W.kla_fn "<lambda>" (m7 q) params body scope (b0 X.env.cells scope.names []) pm (.ref c) ctv) #[[u],[]]=pure [(x,u)]:=by
  unfold QK at hx;split at hx
  .cases hx;show Ss
  .cases hx
 rw[M];calc Zj (wpAny_newFunctionEnv S.k8 (λy hy=>by rw[Z8.mp hy];show S.par) (λh3 hns R=>#[lim.fresh _ R,?_]) S.kind);let#[w,rw',qw]:=ru;have keep:∀b o,s.heap.get? b=B o->h3.get? b=B o:=λb o z=>(R.2 b<|Z1<|Z0 z).trans<|Zg _ z
 have C:∀y d,(b0 X.env.cells scope.names []).lookup y=B d->X.env.cells.lookup y=B d:=AU _ _ (λy d z=>by simp at z);have okX:(mn X A (x::caps) q scope f (.ref c) s H).Ok:=by
  have ij:∀b:Z4,b∉(mn X A (x::caps) q scope f (.ref c) s H).ex:=λb z=>absurd (show b∈([]:Tu)from z) 03
  calc#[I.ok.mod,S.kind,rfl,rfl,Zk _,λy y' d a b=>I.ok.inj y y' d (C y d a)<|C y' d b,λy hy=>?_,λy d z=>absurd (show Zl=Zi from z) Zz,λ_=>hc,Around.frames_deeper hA,.inr #[rfl,rfl],λb z=>absurd z<|ij b,I.bs,Zc I.ok.jB I.sz,λb _ _=>ij b,λb z=>absurd z<|ij b,I.stack,I.dB];have hy':scope.names.lookup y=B .cell\/scope.names.lookup y=B .free:=hy;rcases hy' with z|z
  .show absurd rfl (S.k8 _<|jH z)
  .have hm:=jH z;let#[d,hd]:=I.ok.has y<|.inl<|S.free (y,.free) hm rfl;show qI.mp<|Yf _ _ y d hm hd
 have I3:Inv (mn X A (x::caps) q scope f (.ref c) s H) [] (B w::js.map λj=>(U[j]?).join) H {s with heap:=h3,toks:=s.toks+[(x,u)].length}:=by
  refine#[okX,rfl,I.bare,Un.kept keep,#[_,hns,λi y z a b cc=>?_],λy d z=>?_,I.au.fresh<|Zk _,λy d z=>I.bT y d<|C y d z,λp hp=>absurd (show p∈([]:aQ)from hp) 03,I.au.kept keep,by change _=(x::caps).length;simp[S.len]]
  .cases i with|zero=>have D:B x=B y:=a;cases D;have F:B (B w)=B (B z):=b;cases F;show#[u,rw',.inl #[S.par,03]]|succ i=>
    have D:caps[i]?=B y:=a;have F:(js.map λj=>(U[j]?).join)[i]?=B (B z):=b;rw[Z5]at F;cases J:js[i]? with|none=>rw[J]at F;cases F|some j=>
     rw[J]at F;have b2:(U[j]?).join=B z:=i6 F;have hZ:U[j]?=B (B z):=by cases P:U[j]? with|none=>rw[P]at b2;cases b2|some o=>rw[P]at b2;rw[show o=B z from b2]
     let#[hx1,hx2]:=S.Sr i j y J D;have hm:=jH hx2;have hk:=S.free (y,.free) hm rfl;let#[m0,hn,hl]:=I.loc;let#[Z,ru',lk]:=hl j y z hx1 hZ<|.inr<|.inl hk;rcases lk with⟨e,_⟩|⟨e,d,hd,hcell⟩
     .have hk':X.env.scope.names.lookup y=B .cell:=hk;have e':X.env.scope.names.lookup y=B .local:=e;rw[hk']at e';cases e'
     .let#[d',hd2]:=qI.mp<|Yf (cells:=X.env.cells) scope.names [] y d hm hd;have:=C y d' hd2;rw[hd]at this;cases this;let#[oc,hoc,hdd]:=hcell;show#[Z,ru',.inr #[.inr hx2,d,hd2,oc,keep _ _ hoc,hdd]]
  .let#[z',o,ho,hd]:=I.cell y d<|C y d z;show#[z',o,keep _ _ ho,hd]
 have N3:az V (mn X A (x::caps) q scope f (.ref c) s H) [] Y (B v::js.map λj=>(bF[j]?).join) h (B w::js.map λj=>(U[j]?).join) H {s with heap:=h3,toks:=s.toks+[(x,u)].length}:=by
  calc#[I3,N.rel,03,λi z a=>?_];cases i with|zero=>have D:B (B v)=B (B z):=a;cases D;show#[w,rfl,qw]|succ i=>
   have D:(js.map λj=>(bF[j]?).join)[i]?=B (B z):=a;rw[Z5]at D;cases J:js[i]? with|none=>rw[J]at D;cases D|some j=>
    rw[J]at D;have a2:(bF[j]?).join=B z:=i6 D;have hZ:bF[j]?=B (B z):=by cases P:bF[j]? with|none=>rw[P]at a2;cases a2|some o=>rw[P]at a2;rw[show o=B z from a2]
    let#[z',ez,qz]:=N.st.2 j z hZ;calc#[z',?_,qz];change(js.map λj=>(U[j]?).join)[i]?=B (B z');rw[Z5,J];change B ((U[j]?).join)=_;rw[ez];rfl
 refine W.kla_codeExpr<|c6 (O s H [] _ _ H Y _ h (λZ s'=>Q Z s') (λ_ _=>False) N3 ?_) (λ_ _ z=>z) λ_ _ z=>z.elim
 cases er:m (B v::js.map λj=>(bF[j]?).join) h with|ok v' h'=>rw[er]at K;intro Z s' H' Y' N' n' ⟨z,rz,qz⟩;have bC:=N'.inv;let#[_,_,I',rz',e1,e2]:=I.after (Q:=λz2 H2=>z2=z/\H2=H') #[z,H',bC.os,bC.bare,bC.base,bC.au,rz,rfl,rfl];subst e1;subst e2;show K Z s' _ Y' #[I',N'.rel,N.st.mono n'] n' #[_,rz',qz]|exc n h'=>rw[er]at K;show Zf K|stuck=>rw[er]at K;show Zf K
end
noncomputable def m8:IV->IV->Ww|.int a,.int b=>B<|decide (a>b)|_,_=>Ze
def Qw(gt:IV->IV->Ww)(mk:IV->IH->Res IV)(i n:Nat):Nat->IV->IV->IH->Res IV|0,b,_,h=>(match h[i]? with|some (.lst ys)=>if ys.length=n then .ok b h else .stuck|_=>.stuck)|r+1,b,kb,h=>(match h[i]? with|some (.lst ys)=>if ys.length=n then(match ys[n-(r+1)]? with|some y=>(mk y h).nx.bind λk h'=>(match gt k kb with|some Zi=>Qw gt mk i n r y k h'|some Zl=>Qw gt mk i n r b kb h'|none=>.stuck)|none=>.stuck)else .stuck|_=>.stuck)
def QI(gt:IV->IV->Ww)(mk:IV->IH->Res IV)(i:Nat)(d:Tf)(h:IH):Res IV:=match h[i]? with|some (.lst ys)=>(match ys[0]? with|some y=>(mk y h).nx.bind λk h'=>Qw gt mk i ys.length (ys.length-1) y k h'|none=>(match d with|some d=>.ok d h|none=>.stuck))|_=>.stuck
def aB.more(F:aB X L H b)(ne:p.1≠b):aB X (L++[p]) H b:=by
 calc#[F.1,F.2.1,F.2.2.1,F.2.2.2.1,F.2.2.2.2.1,λq j=>?_];rcases ZQ.mp j with z|z
 .show F.2.2.2.2.2 q<|ZZ _ z
 .rcases ZQ.mp z with z|z
  .show F.2.2.2.2.2 q<|Zr _ z
  .rw[Z8.mp z];show ne
theorem aB.at(F:aB X L H b)(n:H' b=Ze):aB X L H' b:=#[n,F.2]
def Ba{i:Nat}(r:Vals xs us)(e:us[i]?=B u):∃x,xs[i]?=B x/\RelV x u:=by have Z:=(Zu.mp e).1;have D:=r.length;have j:i<xs.length:=Zc Z<|Zn D.symm;have C:=Zd j;let#[E,m,q]:=r.get C;rw[e]at m;cases m;show#[_,C,q]
section
variable{V:aF}{X:Cx}
theorem az.turned{L:aQ}(N:az V X L Y bF h U H s)(F:aB X L H it)(k:∀b o,b≠it->s.heap.get? b=B o->h'.get? b=B o):az V X L Y bF h U H {s with heap:=h',toks:=t'}:=#[N.inv.turned k F.1 F.2.1 F.2.2.2.1 F.2.2.2.2.1 F.2.2.2.2.2,N.rel,N.st]
theorem az.jF{L:aQ}(N:az V X L Y bF h U H s)(k:∀b o,s.heap.get? b=B o->h'.get? b=B o):az V X L Y bF h U H {s with heap:=h',toks:=t'}:=#[N.inv.kept k,N.rel,N.st]
def ji(V:aF)(X:Cx)(A:bP)(op:CmpOp)(gt:IV->IV->Ww):Prop:=∀(L:aQ)(Y:Tu)(bF:aA)(h:IH)(U:L2.St)(H:Hp)(s:Zx)(k kb:IV)(u ub:Zo)(b:Bool)(Q:aH)(E:aH),az V X L Y bF h U H s->RU X.K Y H k u->RU X.K Y H kb ub->gt k kb=B b ->(∀h' t',(∀a o,s.heap.get? a=B o->h'.get? a=B o)->Q (.bool b) {s with heap:=h',toks:=t'})->Zw (Zy X.prog X.w) A (uM op u ub) Q E s
theorem Su:ji V X A .Gt m8:=λL Y S h U H s k I u W b Q E N r F e q=>by
 cases k with
 |int a=>
  cases I with
  |int c=>
   let#[x,R,ex]:=r;let#[y,M,O]:=F;have m:x=.int a:=ex;have C:y=.int c:=O;subst m;subst C;let#[t,rfl]:=R;let#[D,rfl]:=M;have J:B (decide (a>c))=B b:=e;cases J;have j:=zB (prog:=X.prog) (w:=X.w) (A:=A) (P:=λi v=>∃t,v=.int (if i=0 then a else c) t) (λi=>if i=0 then a else c) λ_ _ q=>q
   have:=j 0 1 (.int a t) (.int c D) s Q E #[t,03] #[D,03];simp![if_true,show ¬(1:Nat)=0 by decide,if_false]at this;show this<|q s.heap s.toks λ_ _ e=>e
  |_=>cases e
 |_=>cases e
def Xq(V:aF)(X:Cx)(A:bP)(bF:aA)(U:L2.St)(L:aQ)(G:Hp->Prop)(fv:Zo)(mk:IV->IH->Res IV):Prop:=∀(pl:aQ)(s:Zx)(H:Hp)(Y:Tu)(h:IH)(v:IV)(u:Zo)(Q:aH),az V X (L++pl) Y bF h U H s->G H->RU X.K Y H v u->Kont V X RU (L++pl) Y bF U H (mk v h).nx Q (λ_ _=>False) ->Zw (Zy X.prog X.w) A (call fv [u]) Q (λ_ _=>False) s
def Bb{r:Res α} (K:Kont V X R' L Y bF U H (r.nx.bind g) Q E) (step:∀x h1 u s1 H1 j,az V X (L++pl) j bF h1 U H1 s1->aU Y H j H1->R X.K j H1 x u->Kont V X R' L j bF U H1 (g x h1) Q E->Q1 u s1):Kont V X R (L++pl) Y bF U H r.nx Q1 (λ_ _=>False):=by cases r with|ok v C=>show λu D J F I m q=>step v C u D J F I m q<|Kont.mono K m|exc n C=>show(K).elim|stuck=>show(K).elim
section
variable{A:bP}{R:qY->Zx->Prop}{Q E:aH}{L:aQ}{bF:aA}{U:L2.St}{G:Hp->Prop}{fq:Z4}{mk:IV->IH->Res IV}{gt:IV->IV->Ww}{i n:Nat}{l I C:Z4}{kw:Wn}
def Sw(M:Mm nm bD op)(hh:∀{H:Hp}{z:Zx},Inv X L U H z->aE A z.heap)(cm:ji V X A.in1 op gt)(ko:Xq V X A.in1 bF U L G (.ref fq) mk)(hG:∀H H',Ext H H'->G H->G H')(hR:∀v s',Q v s'->R (.ok<|.ret v) s')(F:I≠C):
  ∀(r j:Nat)(z:Zx)(H:Hp)(Y:Tu)(h:IH)(b kb:IV)(vb P:Zo)(c:Nat),n-j=r->0<j->j<=n->az V X L Y bF h U H z->G H->Y[i]?=B l->aB X L H I->aB X L H C->z.heap.IsListIter I l j ->
   z.heap.get? C=B (bf "list" (ba [vb,P]) c)->RU X.K Y H b vb->RU X.K Y H kb P->Kont V X RU L Y bF U H (Qw gt mk i n r b kb h) Q E ->
   iN (Zy X.prog X.w) A (.builtin bD #[[.ref I,.ref fq,.ref C],kw]) R z:=by
 intro r;induction r with
 |zero=>
  intro j z H Y h b kb vb P c hr h0 hj N g Z fI fC st gC rb rk K;obtain rfl:j=n:=05;unfold Qw at K;cases eh:h[i]? with|none=>rw[eh]at K;show Zf K|some ob=>
   rw[eh]at K;cases ob with
   |lst ys=>
    dsimp only at K;split at K
    .rename_i D;let#[ws,e1,r3]:=N.at eh Z;let#[m,S,pl,_]:=N.inv.list<|bU.of e1;have ne:l≠I:=λq=>by have:=fI.1;rw[<-q,e1]at this;cases this
     have sz:m.toArray.size=j:=by rw[ZI,<-S.length,r3.length,D]
     have W:=vK (prog:=X.prog) (w:=X.w) (A:=A.in1) I l ne m.toArray;calc iK M.en ?_;rw[kH M.pl _];change Zw _ A.in1 (qU (.ref C)>>=_) _ _ z;calc Zb<|lM gC rfl ?_;change Zw _ A.in1 (tryCatch (dX<|.ref I) _>>=_) _ _ z;calc Zb (j9<|W.done z _ _ #[#[by rw[sz];show st,pl.isList],(hh N.inv).in1] λJ tk keep=>?_);have gC2:=keep C _ (λq=>F (Z8.mp q).symm) gC;have N1:=N.turned (h':=J) (t':=tk) fI λb o O e=>keep b o (λq=>O<|Z8.mp q) e
     change Zw _ A.in1 (updateSeq C (λ_=>#[])>>=_) _ _ _;calc Zb ?_;calc qM gC2 rfl (Zb<|kx<|Zj ?_);have N2:=N1.turned (h':=J.update C<|dq λ_=>#[]) (t':=tk) fC λb o O e=>(Z3 _ _<|ZP O).trans e
     show hR _ _<|K _ _ _ _ N2 .refl rb
    .show Zf K
   |_=>show Zf K
 |succ r ih=>
  intro j z H Y h b kb vb P c hr h0 hj N g Z fI fC st gC rb rk K;unfold Qw at K;cases eh:h[i]? with|none=>rw[eh]at K;show Zf K|some ob=>
   rw[eh]at K;cases ob with
   |lst ys=>
    dsimp only at K;split at K
    .rename_i D;let#[ws,e1,r3]:=N.at eh Z;let#[m,S,pl,_]:=N.inv.list<|bU.of e1;have ne:l≠I:=λq=>by have:=fI.1;rw[<-q,e1]at this;cases this
     have sz:m.toArray.size=n:=by rw[ZI,<-S.length,r3.length,D]
     have ej:n-(r+1)=j:=by(rw[<-(by assumption:_-_=_+1)];show Nat.sub_sub_self 06)
     rw[ej]at K;have W:=vK (prog:=X.prog) (w:=X.w) (A:=A.in1) I l ne m.toArray;calc iK M.en ?_;rw[kH M.pl _];change Zw _ A.in1 (qU (.ref C)>>=_) _ _ z;calc Zb<|lM gC rfl ?_;change Zw _ A.in1 (tryCatch (dX<|.ref I) _>>=_) _ _ z;calc Zb (j9<|W.item j z _ _ (by rw[sz];show o4 06) #[#[st,pl.isList],(hh N.inv).in1] λy J tk hP st2 keep=>?_);have ey:m[j]?=B y:=by simpa using hP
     let#[x,ex,rx]:=Ba S ey;let#[yv,eyv,qy]:=r3.get' ex;rw[eyv]at K;dsimp only at K;have gC2:=keep C _ (λq=>F (Z8.mp q).symm) gC;have N1:=N.turned (h':=J) (t':=tk) fI λb o O e=>keep b o (λq=>O<|Z8.mp q) e
     let#[oI,hoI,hoc,hod]:=id st2.1.1;have N2:=(N1.gO gC2 fC λv z=>by cases z).gO hoI (aB.more (p:=(C,bf "list" (ba [vb,P]) c)) fI<|ZP F) λv z=>by rw[hod]at z;cases z
     rw[hX]at N2;change Zw _ A.in1 (tryCatch (jt [y]<|call (.ref fq) [y]) _>>=_) _ _ _;refine Zb<|j9<|ZT<|mY<|ko _ _ _ _ _ yv y _ N2 g #[x,rx,qy]<|Bb K λk h3 u s3 H3 U3 N3 n3 ru K3=>?_
     have pC:=N3.inv.pin (C,bf "list" (ba [vb,P]) c)<|Zr _<|Zr _ 03;have pI:=N3.inv.pin (I,oI)<|Zr _<|Zr _ 03;have N4:=N3.pins;have hi3:=n3.at Z;have g3:=hG _ _ n3.ext g;have fI3:=aB.at (H':=H3) fI pI.2.1;have fC3:=aB.at (H':=H3) fC pC.2.1;have it3:s3.heap.IsListIter I l (j+1):=#[oI,pI.1,hoc,hod];have ry3:RU X.K U3 H3 yv y:=RU.mono n3 #[x,rx,qy];cases eg:gt k kb with|none=>rw[eg]at K3;show Zf K3|some bb=>
      change Zw _ A.in1 (tryCatch (jt [y,u]<|uM op u P>>=_) _>>=_) _ _ _;refine Zb<|j9<|ZT<|Zb<|cm _ _ _ _ _ _ _ k kb u P bb _ _ N4 ru (rk.mono n3) eg λh5 t5 k5=>?_
      calc Zb<|ZT<|oU ?_;calc Zb<|kx<|Zj ?_;have N5:=N4.jF (h':=h5) (t':=t5) k5;have gC5:=k5 _ _ pC.1;let#[oI5,hoI5,hoc5,hod5]:=id it3;have it5:h5.IsListIter I l (j+1):=#[oI5,k5 _ _ hoI5,hoc5,hod5];rw[eg]at K3;cases bb with
      |true=>
       simp![if_true];calc Zb ?_;calc qM gC5 rfl (Zb<|kx ?_);rw[M.nm];have N6:=N5.turned (h':=h5.update C<|dq λ_=>(ba [y,u])) (t':=t5) fC3 λb o O e=>(Z3 _ _<|ZP O).trans e
       obtain⟨c2,hc2⟩:∃c2,(h5.update C<|dq λ_=>(ba [y,u])).get? C=B (bf "list" (ba [y,u]) c2):=#[_,mO gC5 λ_=>(ba [y,u])];calc Zj #[jJ M.pl _,ih (j+1) _ H3 U3 h3 yv k y u c2 00 (gZ _) (o4 06) N6 g3 hi3 fI3 fC3 ?_ hc2 ry3 ru K3];show#[oI5,(Z3 _ _<|ZP F).trans<|k5 _ _ hoI5,hoc5,hod5]
      |false=>simp![lT,if_false];calc Zb<|kx ?_;rw[M.nm];show Zj #[jJ M.pl _,ih (j+1) _ H3 U3 h3 b kb vb P c 00 (gZ _) (o4 06) N5 g3 hi3 fI3 fC3 it5 gC5 (rb.mono n3) (rk.mono n3) K3]
    .show Zf K
   |_=>show Zf K
def GU(M:Mm nm bD op)(hh:∀{H:Hp}{z:Zx},Inv X L U H z->aE A z.heap)(cm:ji V X A.in1 op gt)(ko:Xq V X A.in1 bF U L G (.ref fq) mk)(hG:∀H H',Ext H H'->G H->G H')(N:az V X L Y bF h U H z)(g:G H)(Z:Y[i]?=B l)(rd:∀y,d=B y->∃u,dv=B u/\RU X.K Y H y u)
  (hR:∀v s',Q v s'->R (.ok<|.ret v) s')(hF:∀c s',c.quiet=Zi->iN (Zy X.prog X.w) A c R s'->F (.again c) s')(K:Kont V X RU L Y bF U H (QI gt mk i d h) Q E):
  Zw (Zy X.prog X.w) A.in1 (ke (.ref l)>>=λit=>newList []>>=λc=>again<|.builtin (toString nm++toString ".loop") #[[it,.ref fq,c],dv.toList.map λu=>(ZG "default",u)]) F E z:=by
 unfold QI at K;cases eh:h[i]? with|none=>rw[eh]at K;show Zf K|some ob=>
  rw[eh]at K;cases ob with
  |lst ys=>
   dsimp only at K;let#[ws,e1,r3]:=N.at eh Z;let#[D,rv2,pl,_]:=N.inv.list<|bU.of e1;have hl:=pl.isList;let#[ol,hol,_]:=id hl;have lt:l<z.heap.objs.size:=Z0 hol;have sz:D.toArray.size=ys.length:=by rw[ZI,<-rv2.length,r3.length]
   calc Zb<|nA hl ?_;calc Zb<|oV ?_<|ZF _;rw[M.nm];have ne:l≠z.heap.objs.size:=Z1 lt;have W:=vK (prog:=X.prog) (w:=X.w) (A:=A.in1) z.heap.objs.size l ne D.toArray;have hS:(z.heap.push<|dh l).objs.size=z.heap.objs.size+1:=pE ..;obtain⟨C,S⟩:∃C,C=(z.heap.push<|dh l).objs.size:=#[_,rfl];have j:z.heap.objs.size≠C:=by rw[S,hS];show Z1<|ZX _
   have m:∀b o,z.heap.get? b=B o->((z.heap.push<|dh l).push<|bf "list" #[] 0).get? b=B o:=λb o e=>Zg _<|Zg _ e
   have gI:((z.heap.push<|dh l).push<|bf "list" #[] 0).get? z.heap.objs.size=B (dh l):=Zg _<|Zt _ rfl;have gC:((z.heap.push<|dh l).push<|bf "list" #[] 0).get? C=B (bf "list" #[] 0):=by rw[S];show Zt _ rfl
   rw[<-S];have fI:aB X L H z.heap.objs.size:=N.inv.df (Zk _)<|N.inv.au.fresh<|Zk _;have fC:aB X L H C:=N.inv.df (by rw[S,hS];show hb _) (N.inv.au.fresh<|by rw[S,hS];show hb _);have N0:=N.jF (t':=z.toks) m;calc Zj<|hF _ _ (jJ M.pl _)<|iK M.en ?_;rw[kH M.pl _];change Zw _ A.in1 (qU (.ref _)>>=_) _ _ _;calc Zb<|lM gC rfl ?_;change Zw _ A.in1 (tryCatch (dX<|.ref z.heap.objs.size) _>>=_) _ _ _;cases I:ys[0]? with
   |none=>
    have h0:ys.length=0:=by have:=List.getElem?_eq_none_iff.mp I;show sG 06
    rw[I]at K;cases d with|none=>show Zf K|some dy=>
     let#[u,rfl,ru]:=rd dy rfl;calc Zb (j9<|W.done _ _ _ (by rw[sz,h0];show#[#[#[_,gI,rfl,rfl],(hl.push _).push _],(hh N.inv).in1.mono m]) λJ tk keep=>?_);have N1:=N0.turned (h':=J) (t':=tk) fI λb o O e=>keep b o (λq=>O<|Z8.mp q) e
     change Zw _ A.in1 (rule _>>=_) _ _ _;show Zb<|jK<|Zj<|hR _ _<|K _ _ _ _ N1 .refl ru
   |some yv=>
    have h0:0<ys.length:=(Zu.mp I).1;rw[I]at K;dsimp only at K;calc Zb (j9<|W.item 0 _ _ _ (by rw[sz];show h0) #[#[#[_,gI,rfl,rfl],(hl.push _).push _],(hh N.inv).in1.mono m] λy J tk hP st2 keep=>?_);have ey:D[0]?=B y:=by simpa using hP
    let#[x,ex,rx]:=Ba rv2 ey;let#[yv',P,qy]:=r3.get' ex;rw[I]at P;cases P;have gC2:=keep C _ (λq=>j (Z8.mp q).symm) gC;have N1:=N0.turned (h':=J) (t':=tk) fI λb o O e=>keep b o (λq=>O<|Z8.mp q) e
    let#[oI,hoI,hoc,hod]:=id st2.1.1;have N2:=(N1.gO gC2 fC λv z=>by cases z).gO hoI (aB.more (p:=(C,bf "list" #[] 0)) fI<|ZP j) λv z=>by rw[hod]at z;cases z
    rw[hX]at N2;change Zw _ A.in1 (tryCatch (jt [y]<|call (.ref fq) [y]) _>>=_) _ _ _;refine Zb<|j9<|ZT<|mY<|ko _ _ _ _ _ yv y _ N2 g #[x,rx,qy]<|Bb K λk h3 u s3 H3 U3 N3 n3 ru K3=>?_
    have pC:=N3.inv.pin (C,bf "list" #[] 0)<|Zr _<|Zr _ 03;have pI:=N3.inv.pin (z.heap.objs.size,oI)<|Zr _<|Zr _ 03;have N4:=N3.pins;have fI3:=aB.at (H':=H3) fI pI.2.1;have fC3:=aB.at (H':=H3) fC pC.2.1;have ry3:RU X.K U3 H3 yv y:=RU.mono n3 #[x,rx,qy];change Zw _ A.in1 (updateSeq C (λ_=>(ba [y,u]))>>=_) _ _ _;calc Zb ?_;calc qM pC.1 rfl ?_;rw[M.nm];have N6:=N4.turned (h':=s3.heap.update C<|dq λ_=>(ba [y,u])) (t':=s3.toks) fC3 λb o O e=>(Z3 _ _<|ZP O).trans e
    obtain⟨c2,hc2⟩:∃c2,(s3.heap.update C<|dq λ_=>(ba [y,u])).get? C=B (bf "list" (ba [y,u]) c2):=#[_,mO pC.1 λ_=>(ba [y,u])];calc Zj #[jJ M.pl _,Sw M hh cm ko hG hR j (ys.length-1) 1 _ H3 U3 h3 yv k y u c2 rfl (ZX _) (h0) N6 (hG _ _ n3.ext g) (n3.at Z) fI3 fC3 ?_ hc2 ry3 ru K3];show#[oI,(Z3 _ _<|ZP j).trans pI.1,hoc,hod]
  |_=>show Zf K
def Sx(a v d):jL "max" #[[a],[(ZG "key",v),(ZG "default",d)]]:=by unfold jL;kernel_rfl
def Sy(C:∀{H:Hp}{z:Zx},Inv X L U H z->aE A z.heap)(cm:ji V X A.in1 .Gt gt)(D:Xq V X A.in1 bF U L G (.ref fq) mk)(m:∀H H',Ext H H'->G H->G H')(N:az V X L Y bF h U H z)(g:G H)(Z:Y[i]?=B l)(rd:RU X.K Y H dv d) (K:Kont V X RU L Y bF U H (QI gt mk i (B dv) h) Q E):Zw (Zy X.prog X.w) A (call (.builtin "max") [.ref l] [(ZG "key",.ref fq),(ZG "default",d)]) Q E z:=by calc kmk_tree PySem.F.kind_max PySem.F.plain_max PySem.F.entry_max (Sx _ _ _) ?_;change Zw _ A.in1 (rN "max" ["key","default"] 0 #[[],[(ZG "key",.ref fq),(ZG "default",d)]]>>=_) _ _ z;calc Zb<|qQ (show rN "max" ["key","default"] 0 #[[],[(ZG "key",.ref fq),(ZG "default",d)]]=pure [B<|.ref fq,B d]from rfl) ?_;calc Zb<|Zj ?_;show GU (dv:=B d) RK C cm D m N g Z (λy e=>#[d,rfl,by cases e;show rd]) (λv j q=>q) (λc j q r=>#[q,r]) K
end
def Kont.more(K:Kont V X R L Y bF U H r Q E):Kont V X R (L++pl) Y bF U H r Q E:=by cases r with|ok v I=>show λu j F C N n q=>K u j F C N.pins n q|exc m I=>show λD a j F C N n q=>K (pl++D) a j F C (by simp_all) n q|stuck=>show K
def Yn(gt:IV->IV->Ww)(q:Str)(j:Nat)(js:Tq)(aa:A1)(m md:E1):E1:=λU h=>(aa U h).bind λxs h1=>match h1[j]? with|some (.tab q')=>if q'=q then(md U h1).bind λd J=>(match xs with|[.ref i]=>QI gt (λv h'=>m (B v::js.map λj=>(U[j]?).join) h') i (B d) J|_=>.stuck)else .stuck|_=>.stuck
def Bc(j:QK params=B x):defaultsOf params env=([],[]):=by
 unfold QK at j;split at j
 .rfl
 .cases j
theorem Sz(hg:Gl X "max")(hm:X.mg "max"=Ze)(ha:dG V X [a] aa)(hd:ah V X de md)(hs:ZH [a] X.env=[(Zl,a0 a X.env)])
  (R:Roo κ (k+2) X)(F:W.codeIn X.K X.env.code q=Zi)(hq:X.env.qual=q++".<locals>.")(bA:Q0 X.mg X.base)(hx:QK params=B x)(S:iD X.N X.env.scope.names x caps js scope)
  (O:∀f cd s' H',ah V (mn X X.A.in1 (x::caps) q scope f cd s' H') body m):
  ah V X (.Call (.Name "max" p) [a] [#[B "key",.Lambda params body scope lp,kp],#[B "default",de,kp2]] pos) (Yn m8 q j js aa m md):=λL s U H Y bF h Q E N K=>by
 have M:oY scope X.env=pure (b0 X.env.cells scope.names []):=wk λy hm hk=>N.inv.ok.has y.1<|.inl<|S.free y hm hk
 calc hV<|Qj N.inv hg hm rfl ?_;calc vv ?_ (by rw[hs];rfl) (by rw[hs];rfl) rfl rfl;refine(ha pos).run N K λxs h1 us s1 H1 U1 N1 n1 r1 C=>?_
 cases ej:h1[j]? with|none=>rw[ej]at C;show Zf C|some ob=>
  rw[ej]at C;cases ob with
  |tab q'=>
   dsimp only at C;split at C
   .rename_i eq;subst eq;refine rF<|Zb<|A8 N1 ej F hq (Bc hx) M bA λf c pm J s2 H2 N2 n2 LC=>Zb<|jI<|Zj ?_
    refine rF<|Zb<|PX.run hd N2 (Kont.more<|Kont.mono C n2) λd h3 du s3 H3 U3 N3 n3 r3 D=>Zb<|jI<|Zj<|vr ?_
    let#[vs,rv,qs]:=r1.mono<|n2.trans n3;cases xs with|nil=>show Zf D|cons x t=>
     cases t with|cons _ _=>cases x<;>show Zf D|nil=>
      cases x with
      |ref i=>
       let#[w,rfl,ad,rfl,hav]:=qs.bQ;let#[u,rfl,ru]:=Qz rv;cases ru;refine Sy (G:=λH=>QC H q'<|.ref c) (mk:=λv h'=>m (B v::js.map λj=>(bF[j]?).join) h') (λI=>I.cw R.c) Su ?_ (λH H' e g=>g.mono e.aO) N3 (LC.mono n3.ext.aO) hav r3 ?_
       .intro pl s4 H4 W4 h4 v u Q4 P g4 Z K4;have pf:=P.inv.pin (f,gM q' params body scope (b0 X.env.cells scope.names []) pm J c)<|Zr _<|ZZ _<|Zr _<|Z8.mpr rfl;show A9 (A:=X.A.in1) N.inv.ok.frames R.r.in1 (P.inv.cN R.c) P pf.1 g4 hx S (O f<|.ref c) Z K4
       .show D
      |_=>show Zf D
   .show Zf C
  |_=>show Zf C
end
def tP:Tv:=[.type "ValueError",.type "Exception",.type "BaseException",.type "object"]
abbrev JY(X:Cx)(a:Z4):Cx:={X with A:=X.A.mark<|B<|.ref a,calm:=Zl}
section
variable{V:aF}{X:Cx}{a C:Z4}{L:aQ}{U:L2.St}{H:Hp}{s:Zx}{Y:Tu}{bF:aA}{h:IH}{n:Nat}{c:Str}{fs:Wo}{tv:Zo}
theorem wD(I:Inv X L U H s)(a):Inv (JY X a) L U H s:=#[#[I.ok.mod,I.ok.kind,I.ok.glob,I.ok.blt,I.ok.above,I.ok.inj,I.ok.has,I.ok.pN,nofun,I.ok.frames,I.ok.rQ,I.ok.rR,I.ok.bs,I.ok.jB,I.ok.ja,I.ok.ib,I.ok.da,I.ok.kI],I.os,I.bare,I.base,I.loc,I.cell,I.free,I.bT,I.pin,I.au,I.len]
theorem Be(ok:X.Ok)(I:Inv (JY X a) L U H s):Inv X L U H s:=#[ok,I.os,I.bare,I.base,I.loc,I.cell,I.free,I.bT,I.pin,I.au,I.len]
theorem _root_.L2.Inv.tQ(I:Inv X L U H s)(k:∀p∈X.pn++pj',p∈X.pn++L):Inv X pj' U H s:=#[I.ok,I.os,I.bare,I.base,I.loc,I.cell,I.free,I.bT,λp j=>I.pin p<|k p j,I.au,I.len]
def SD(N:az V X L Y bF h U H s)(F:h[n]?=B (.exc c fs))(Z:Y[n]?=B a)(Q:W.nsIn X.K Z2 c=B (B<|.ref C))(ha:H a=B (cy a C tv d))(p:mX X H s.heap a C d T oT h'):az V X L Y bF h U (upd (upd H T<|.bh oT<|.own 0) a<|cy a C (.ref T) d) {s with heap:=h'}/\aU Y H Y (upd (upd H T<|.bh oT<|.own 0) a<|cy a C (.ref T) d):=by
 let#[R,O,d',D,_,m,_]:=QU N.rel F Z;rw[Pw N.inv.au m ha]at D;let#[P,J]:=N.rel.grow p.new;have j:upd H T (.bh oT<|.own 0) a=B (cy a C tv d):=by rw[Jp<|ZP p.ne];show ha
 let#[M,E]:=P.write Z j (by rw[j];trivial) (io:=.exc c fs) #[C,.ref T,d,D.mono p.un.aO,Q,Jx,.inr #[T,oT,_,rfl,by rw[Jp p.ne,Jx],p.fld.choose_spec]];rw[AH F]at M;have I:=N.inv.call (t':=s.toks) (d':=s.drawn) p.un p.au N.inv.bare λb z=>absurd z 03
 show#[#[I,M,N.st.mono<|J.trans E],J.trans E]
def Bf(ok:cV X.prog X.w H s.heap)(ha:H a=B (cy a C tv d))(D:il H tv)(k:∀h',(∀b o,s.heap.get? b=B o->h'.get? b=B o)->Q () {s with heap:=h'}):Zw M A (sy (.ref a) Ze) Q E s:=by
 let#[L,O,I,J,m,F,_]:=cy.get ok ha;calc Zb<|fw I m F ?_;rcases D with rfl|⟨T,oT,ts,rfl,q1,q2,q3⟩
 .rw[if_neg 01];show Zj<|k s.heap λ_ _ q=>q
 .have j:s.heap.get? T=B oT:=(ok T _ q1).1;calc iL j q2 (pB.mp q3).1 (k _ λb o q=>?_);by_cases z:b=T
  .subst z;rw[j]at q;cases q;show AA j q2 q3
  .rw[Z3 _ _<|ZP z];show q
def SE(I:Inv X L U H s)(hN:X.N.Nodup)(Z:X.N[i]?=B x)(D:X.env.kindOf x=B .local)(k:∀s',Inv X L (U.set i Ze) H s'->Q () s'):
  Zw M A (do bindName X.env x .none;unbindBehindTheSuite X.env x pos) Q E s:=by
 let#[m,hn,hl]:=id I.loc;have R:(X.env.scope.kind==.class||(X.env.scope.kind==.module&&X.env.locals != X.env.globals))=Zl:=by rw[I.ok.kind];rfl
 have kK:=I.kK;refine wpAny_nameGoes_keeps D hn R λh' v Y C=>?_
 have W:∀{b:Z4}{o:Obj},X.s₀.heap.get? b=B o->b≠X.env.locals:=λe=>Z1<|ZD (Z0 e) I.ok.above
 refine k _ #[I.ok,I.os,I.bare,#[λb o e P O D=>?_,λb o e P O D=>?_,I.base.free,λb o e D=>?_,I.base.b9,I.base.aO,I.base.cB],#[_,Y,λj y w F S e3=>?_],λy J e=>?_,I.free,I.bT,λp hp=>?_,λb ob e=>?_,by rw[pj];show I.len]
 .show(C.2 b<|W e).trans<|I.base.keep b o e P O D
 .let#[sl,F]:=I.base.slot b o e P O D;show#[sl,(C.2 b<|W e).trans F]
 .let#[o',F]:=I.base.there b o e D;show#[o',(C.2 b<|W e).trans F]
 .by_cases z:j=i
  .subst z;have hj:j<U.length:=by rw[I.len];show(Zu.mp Z).1
   rw[ZM hj]at S;cases S
  .rw[ZL<|ZP z]at S;let#[u,r,q]:=hl j y w F S e3;calc#[u,r,?_];rcases q with⟨q1,V⟩|⟨q1,J,V,q3⟩
   .calc .inl #[q1,?_];change(if y=x then v else m y)=B u;rw[if_neg λz2=>z<|zP hN F<|by rw[z2];show Z];show V
   .show .inr #[q1,J,V,q3.sameBut C<|kK y J V]
 .let#[w',z]:=I.cell y J e;show#[w',z.sameBut C<|kK y J e]
 .let#[e,P,ne,nf,d]:=I.pin p hp;show#[(C.2 p.1 ne).trans e,P,ne,nf,d]
 .have nb:∀{d:Z4}{u:HO},H d=B u->d≠X.env.locals:=λq z=>by rw[z,I.free]at q;cases q
  refine(I.au b ob e).eS (λd w' hc q=>(C.2 d ?_).trans q) (λ_ q=>q) λ_ _ q=>q
  rcases hc with rfl|hc
  .show nb e
  .show nb hc
end
def jR.unset{K:W.Frag}(r:jR K Y H bF U)(i):jR K Y H (bF.set i Ze) (U.set i Ze):=by
 calc#[by simp[r.len],λj w e=>?_];by_cases z:j=i
 .subst z;have m:j<bF.length:=by have:=(Zu.mp e).1;simpa using this
  rw[ZM m]at e;cases e
 .rw[ZL<|ZP z]at e;let#[u,C,q1]:=r.at_ j w e;show#[u,by rw[ZL<|ZP z];show C,q1]
abbrev GV:=(Str->Ww)×Option Nat×S1
abbrev _root_.Tr:=List GV
noncomputable def Xh (sl:Ta)(x:Tf)(U:aA):aA:=match sl with|some i=>U.set i x|none=>U
def bM.drop(sl:Ta)(r:bM):bM:=match r with|.next U h=>.next (Xh sl Ze U) h|.brk U h=>.brk (Xh sl Ze U) h|.cont U h=>.cont (Xh sl Ze U) h|.ret v h=>.ret v h|_=>.stuck
def Xc:Tr->Str->Nat->S1|[],_,_=>λ_ _=>.stuck|q::r,c,n=>λU h=>match q.1 c with|some Zi=>(q.2.2 (Xh q.2.1 (B<|.ref n) U) h).drop q.2.1|some Zl=>Xc r c n U h|none=>.stuck
def jj(b:S1)(hs:Tr):S1:=λU h=>match b U h with|.exc n W1 h1=>(match h1[n]? with|some (.exc c _)=>Xc hs c n W1 h1|_=>.stuck)|r=>r
def tR(V:aF)(X:Cx)(a:Z4)(sl:Ta)(suite:Tn)(m:S1):Prop:=∀(L:aQ)(s:Zx)(U:L2.St)(H:Hp)(Y:Tu)(bF:aA)(h:IH)(Q:Flow->Zx->Prop)(E:aH)(n:Nat)(c:Str)(fs:Wo),X.Ok->az V (JY X a) L Y bF h U H s->h[n]?=B (.exc c fs)->Y[n]?=B a->(∀i,sl=B i->i<bF.length->bF[i]?=B (B<|.ref n)) ->JC V (JY X a) L Y H (m bF h) Q E->Zw (Zy X.prog X.w) (JY X a).A (execs suite X.env) Q E s
theorem jD.h(p:jD V (JY X a) suite m):tR V X a sl suite m:=λL s U H Y j h Q E _ _ _ _ N _ _ _ K=>p L s U H Y j h Q E N K
structure Bh(V:aF)(X:Cx)(t:Expr)(nm:Wx)(suite:Tn)(f:Str->Ww)(sl:Ta)(m:S1):Prop where
 test:∀(a:Z4)(c:Str)(C:Z4)(b:Bool)(L:aQ)(U:L2.St)(H:Hp)(s:Zx)(Q:Bool->Zx->Prop)(E:aH),f c=B b->W.nsIn X.K Z2 c=B (B<|.ref C)->Inv (JY X a) L U H s->(∃oe,s.heap.get? a=B oe/\oe.cls=.ref C)->Q b s ->Zw (Zy X.prog X.w) (JY X a).A (a0 t X.env) (λv s₁=>Zw (Zy X.prog X.w) (JY X a).A (excMatches (.ref a) v) Q E s₁) E s
 nm:(nm=Ze/\sl=Ze)\/∃n i,nm=B n/\sl=B i/\X.N[i]?=B n/\X.env.kindOf n=B .local
 run:∀a,tR V X a sl suite m
inductive f9(V:aF)(X:Cx):Ts->Tr->Prop|nil:f9 V X [] []|cons {t:Expr}{nm:Wx}{b₀:dZ}{suite:Tn}{pos:Pos}{f:Str->Ww}{sl:Ta}{m:S1}{hs:Ts}{ms:Tr}:Bh V X t nm (b₀::suite) f sl m->f9 V X hs ms->f9 V X (.ExceptHandler (B t) nm (b₀::suite) pos::hs) ((f,sl,m)::ms)
section
variable{V:aF}{X:Cx}
def SG(hN:X.N.Nodup)(bE:f9 V X hs ms)
  (N:az V X L Y bF h U H s)(hj:h[n]?=B (.exc c fs))(Z:Y[n]?=B a)(K:JC V X L Y H (Xc ms c n bF h) Q E):Zw (Zy X.prog X.w) X.A (handleBy (.ref a) X.env hs) Q E s:=by
 let#[C,tv,d,fe,hC,ha,ht]:=QU N.rel hj Z;let#[oe,vs,e1,e2,_]:=cy.get N.inv.au ha;induction bE with|nil=>show(K).elim|@cons t nm b₀ suite pos f sl m hs ms o bE ih=>
  unfold Xc at K;dsimp only at K;cases O:f c with|none=>rw[O]at K;show(K).elim|some b=>
   rw[O]at K;calc wpAny_handleBy_cons (codeAny_handlers_test<|o.test a c C b L U H s _ _ O hC (wD N.inv a) #[oe,e1,e2] ?_) (by intro q;cases q);cases b with|false=>show ih K|true=>
    dsimp only at K;rcases o.nm with⟨rfl,rfl⟩|⟨x,i,rfl,rfl,hx,hk⟩
    .have K:JC V X L Y H ((m bF h).drop Ze) Q E:=K;refine codeAny_handlers_suite<|Bf N.inv.au ha ht λh' kp=>?_
     have N2:az V (JY X a) L Y bF h U H {s with heap:=h'}:=#[wD (N.inv.kept kp) a,N.rel,N.st];calc o.run a L _ U H Y bF h _ _ n c fs N.inv.ok N2 hj Z (λi z=>by cases z) ?_;have un:∀{L:aQ}{Y:Tu}{bF:aA}{h:IH}{U:L2.St}{H:Hp}{s:Zx},az V (JY X a) L Y bF h U H s->az V X L Y bF h U H s:=λq=>#[Be N.inv.ok q.inv,q.rel,q.st]
     cases em:m bF h with|next S J=>rw[em]at K;show λM R D F I P=>K M R D F (un I) P|brk S J=>rw[em]at K;show λM R D F I P=>K M R D F (un I) P|cont S J=>rw[em]at K;show λM R D F I P=>K M R D F (un I) P|ret v J=>rw[em]at K;show λu M S R D F I P r3=>K u M S R D F (un I) P r3|exc k S J=>rw[em]at K;show(K).elim|stuck=>rw[em]at K;show(K).elim
    .have K:JC V X L Y H ((m (bF.set i<|B<|.ref n) h).drop<|B i) Q E:=K;refine codeAny_handlers_suite_as<|Bf N.inv.au ha ht λh' kp=>?_
     have I2:Inv (JY X a) L U H {s with heap:=h'}:=wD (N.inv.kept kp) a;calc YA (X:=JY X a) (v:=bB.ref a) I2 hN hx (.inl hk) rfl (λM I3=>?_) (.inr hk);have I:az V (JY X a) L Y (bF.set i<|B<|.ref n) h (U.set i<|B<|bB.ref a) H M:=#[I3,N.rel,N.st.set i #[a,rfl,Z]];calc o.run a L _ _ H Y _ h _ _ n c fs N.inv.ok I hj Z (λj z l=>by cases z;show ZM<|by simpa using l) ?_;have fin:∀{F:Tu}{S:aA}{J:IH}{R:L2.St}{D:Hp}{M:Zx}{W:Unit->Zx->Prop},az V (JY X a) L F S J R D M->(∀s4,az V X L F (S.set i Ze) J (R.set i Ze) D s4->W () s4)->Zw (Zy X.prog X.w) X.A (do bindName X.env x .none;unbindBehindTheSuite X.env x pos) W E M:=λq k=>
      SE (Be N.inv.ok q.inv) hN hx hk λs4 I4=>k s4 #[I4,q.rel,q.st.unset i]
     cases em:m (bF.set i<|B<|.ref n) h with|next S J=>rw[em]at K;show λM R D F I P=>fin I λs4 N4=>K s4 _ D F N4 P|brk S J=>rw[em]at K;show λM R D F I P=>fin I λs4 N4=>K s4 _ D F N4 P|cont S J=>rw[em]at K;show λM R D F I P=>fin I λs4 N4=>K s4 _ D F N4 P|ret v J=>rw[em]at K;show λu M S R D F I P r3=>fin I λs4 N4=>K u s4 _ _ D F N4 P r3|exc k S J=>rw[em]at K;show(K).elim|stuck=>rw[em]at K;show(K).elim
def SH(hN:X.N.Nodup)(hk:X.stack=X.env::X.outer)(hf:X.env.frame=B X.env.locals)(O:jD V X body mb)(bE:f9 V X (h₀::hs) ms):cD V X (.Try body (h₀::hs) [] [] pos) (jj mb ms):=by
 intro L s U H Y S h Q E N K;unfold jj at K;calc wpAny_Try_except<|O L s U H Y S h _ _ N ?_;cases e:mb S h with|next D J=>rw[e]at K;show λR I M P j F=>su<|K R I M P j F|brk D J=>rw[e]at K;show K|cont D J=>rw[e]at K;show K|ret v J=>rw[e]at K;show K|stuck=>rw[e]at K;show K|exc n D J=>
  rw[e]at K;dsimp only at K;cases m:J[n]? with|none=>rw[m]at K;show(K).elim|some ob=>
   cases ob with
   |exc c fs=>
    rw[m]at K;intro pl a R I M P j F Z s4 fl;have j:az V X L P D J I M R:=#[j.inv.tQ λp hp=>ZQ.mpr<|(ZQ.mp hp).imp_right λz=>ZZ _ z,j.rel,j.st];let#[C,tv,d,fe,hC,ha,ht]:=QU j.rel m Z;refine Gg j.inv fl hk hf ha ht λT oT h' p=>?_
    let#[W,n4]:=SD j m Z hC ha p;show SG hN bE W m Z<|JC.mono K<|F.trans n4
   |_=>rw[m]at K;show(K).elim
def oK:IV->Wz->Wz->IH->Res IV|.str x,lo,Z,h=>if x.length<=sizeLine then .ok (.str<|sY x lo Z) h else .stuck|x,lo,Z,h=>kW x lo Z h
def SI:we V X oK:=by
 intro L s U H Y S h x v R W lo Z sl Q E N D m pl J K;cases x with
 |str x=>
  let#[xv,D,P]:=D;cases (P);let#[t,rfl]:=D;dsimp only[oK]at K;split at K
  .rename_i C;calc#["str",_,F.slot_str_getitem.lookup,typeIs_str _ _ _,?_];cases pl with
   |none=>cases J with|none=>show uu (l:=Ze) (u:=Ze) (st:=Ze) m rfl (uB #[Zc (vH x _ _) C,λM k=>aC N K rfl _ _ (N.inv.tok _) #[_,rfl]])|int j I=>show uu (l:=Ze) (u:=B (j,I)) (st:=Ze) m rfl (uB #[Zc (vH x _ _) C,λM k=>aC N K rfl _ _ (N.inv.tok _) #[_,rfl]])
   |int i O=>cases J with|none=>show uu (l:=B (i,O)) (u:=Ze) (st:=Ze) m rfl (uB #[Zc (vH x _ _) C,λM k=>aC N K rfl _ _ (N.inv.tok _) #[_,rfl]])|int j I=>show uu (l:=B (i,O)) (u:=B (j,I)) (st:=Ze) m rfl (uB #[Zc (vH x _ _) C,λM k=>aC N K rfl _ _ (N.inv.tok _) #[_,rfl]])
  .show(K).elim
 |_=>show tM L s U H Y S h _ v R W lo Z sl Q E N D m pl J K
end
def SJ(a):jL "max" #[[a],[]]:=by unfold jL;kernel_rfl
section
variable{V:aF}{X:Cx}
def Vw:IV->IH->Res IV
 |.ref i,h=>match h[i]? with
  |some (.lst xs)=>(match JP xs with
   |some ns=>if ns=[]then .stuck else .ok (.int<|JL (λi=>ns.getD i 0) ns.length) h
   |none=>.stuck)
  |_=>.stuck
 |_,_=>.stuck
theorem SK(W:X.calm=Zi):Q2 V X (.builtin "max") (bu Vw):=V6 λL s U H Y bF h x xv u Q E N ru D K=>by
 cases x with
 |ref i=>
  let#[a,m,ha]:=D;subst m;cases ru;dsimp only[Vw]at K;cases Z:h[i]? with|none=>rw[Z]at K;show Zf K|some F=>
   rw[Z]at K;cases F with
   |lst xs=>
    dsimp only at K;cases O:JP xs with|none=>rw[O]at K;show Zf K|some ns=>
     rw[O]at K;dsimp only at K;split at K
     .show Zf K
     .rename_i j;let#[vs,m,S]:=N.at Z ha;let#[R,M,pl,hz]:=N.inv.list<|bU.of m;refine GN (d:=Ze) rfl (SJ _) (λq=>absurd q j) (N.inv.cw W) pl.isList (Vq O S M) λv J C I P=>?_
      rcases I with⟨e,_⟩|⟨_,t,ev⟩
      .show absurd e j
      .subst ev;show aC N K rfl _ _ (N.inv.kept (t':=C) P) #[t,rfl]
   |_=>show Zf K
 |_=>show Zf K
def Xd:IV->IH->Res IV
 |.ref i,h=>match h[i]? with
  |some (.aY kvs)=>.ok (.int kvs.length) h
  |_=>.stuck
 |_,_=>.stuck
theorem SM:Q2 V X (.builtin "len") (bu Xd):=V6 λL s U H Y O h x P u Q E N J C K=>by
 cases x with
 |ref i=>
  let#[a,j,ha]:=C;subst j;cases J;dsimp only[Xd]at K;cases Z:h[i]? with|none=>rw[Z]at K;show(K).elim|some D=>
   rw[Z]at K;cases D with
   |aY F=>
    let#[ws,j,I]:=N.at Z ha;refine OE N.inv (.of j) λt M m=>?_
    rw[I.length];show aC N K rfl _ _ m #[_,rfl]
   |_=>show(K).elim
 |_=>show(K).elim
structure jU(K:W.Frag)(C:Z4):Prop where
 sp:W.specialIn K (.ref C) "__getattribute__"=B (B<|.builtin "type.__getattribute__")
 rd:W.readsIn K C (.type "type")=Zi
 fc:∃fa,W.findIn K (.ref C) "__init__"=B (B<|.ref fa)/\W.findCls K (.ref C) (.type "type") "__init__"=B (.val<|.ref fa)/\W.keepIn K (.ref fa)=Zi
variable{k:Nat}{fa C:Z4}{fd:gY}{ps:Tk}{f:Tw->IH->Res IV}{aL:Tw}{ds:Tv}{x:Str}{p pos apos:Pos}{e:Expr}{es:Te}{ma:A1}{pl:Sem Bool}
def SN(F:bx X.prog X.w X.K X.mg X.base (d9 X.prog X.w) κ k fa fd ps<|i2 V X.K ps f)(Z:Roo κ k X)(hg:Gl X x)(hm:X.mg x=B (.ref C))(bA:jU X.K C)(M:Mk X.K C fa)(O:JO X.K fd ps ds)(hd:∃vs,Vals vs ds/\∀Y H,aw X.K Y H aL vs) (ha:dG V X (e::es) ma)(m:∀U h xs h',ma U h=.ok xs h'->xs.length+ds.length=ps.length)(S:(x==("__debug__":Str))=Zl:=by decide)(he:ZH (e::es) X.env=(Zl,a0 e X.env)::ZH es X.env:=by rfl)(J:(dY pos<|ZH es X.env).any (·.1)=Zl:=by rfl) (ht:a0 (.Call (.Attribute (.Name x p) "__init__" apos) (e::es) [] pos) X.env=(do
   let ov<-a0 (.Name x p) X.env
   nL apos.atName
   let (f,first)<-jt [ov] (oZ ov "__init__" pl)
   sD pos f first (dY pos<|ZH (e::es) X.env) (nJ pos<|nE [] X.env)):=by rfl):
  ah V X (.Call (.Attribute (.Name x p) "__init__" apos) (e::es) [] pos) (Ji f aL ma):=by
 intro L s U H Y D h Q E N K;let#[P,f1,f2,hk]:=bA.fc;have ef:P=fa:=by have:=f1.symm.trans M.init;cases this;rfl
 subst ef;calc W.methodCall_KW (pl:=pl) (Vu N.inv hg hm ?_ S) ht;calc W.method_cls N.inv.cF bA.sp<|W.cls_value N.inv.cF bA.rd f2 rfl ?_;have N':az V X L Y D h U H {s with toks:=s.toks+1}:=#[N.inv.tok _,N.rel,N.st];calc W.callWith_K (h₀:=X.base) N.inv.ok.mod.pL hk ?_ he J;have j:=K;unfold Ji at j;calc ha pos L _ U H Y D h _ E N' ?_;cases I:ma D h with|exc n h'=>rw[I]at j;show j|stuck=>rw[I]at j;show j|ok xs h'=>
  rw[I]at j;intro us s1 H1 U1 R n1 r1;have hl:xs.length=us.length:=by let#[vs,rv,q]:=r1;rw[<-rv.length,q.length]
  have hl2:=m D h xs h' I;show#[R.inv.cF,Y4 (us:=us) F Z.r (R.inv.cN Z.c) O hd 05 R r1<|Kont.mono (r:=f (xs++aL) h') j n1]
end
section
variable{prog:ZU}{w:bq}{A:bP}{E:aH}{s:Zx}{x y:Str}{t u:Tok}{Q:aH}
open Builtin Builtin.Str in
end
section
variable{V:aF}{X:Cx}
def fb:IV->IH->Res IV|.str x,h=>if x.length<=sizeLine then .ok (.str x) h else .stuck|.int i,h=>if i.natAbs.log2<1920 then .ok (.str<|toString i) h else .stuck|_,_=>.stuck
theorem SO(ha:ah V X a ma):ah V X (.FormattedValue a (-1) Ze pos) (dH fb ma):=λL s U H Y J h Q E N K=>wpAny_FormattedValue_plain (ha.run N K λx O u R S P m n1 I j=>by
  let#[M,F,D]:=I;cases x with
  |str x=>
   cases (D);let#[t,rfl]:=F;dsimp only[fb]at j;split at j
   .rename_i C;show wpAny_formatField_str (aC m j rfl _ _ m.inv #[_,rfl]) (aC m j rfl _ _ (m.inv.tok _) #[_,rfl]) C
   .show(j).elim
  |int i=>
   cases (D);let#[t,rfl]:=F;dsimp only[fb]at j;split at j
   .rename_i C;show wpAny_formatField_int C<|aC m j rfl _ _ (m.inv.tok _) #[_,rfl]
   .show(j).elim
  |_=>show(j).elim)
def Xx:Tx->Str->E1|[],acc=>λ_ h=>if acc.length<=sizeLine then .ok (.str acc) h else .stuck|m::r,acc=>λU h=>(m U h).bind λv h1=>match v with|.str y=>if (acc++y).length<=sizeLine then Xx r (acc++y) U h1 else .stuck|_=>.stuck
def k9(ms:Tx):E1:=Xx ms iT
theorem GW(C:∀e,ah V X e<|f e):∀(es:Te)(acc:Str)(s:Zx)(H:Hp)(Y:Tu)(h:IH),az V X L Y bF h U H s->Kont V X RU L Y bF U H (Xx (es.map f) acc bF h) Q E ->Joins (Zy X.prog X.w) X.A E (evalEach es X.env) acc (λout s₁=>out.length<=sizeLine/\Q (.str out s₁.toks) {s₁ with toks:=s₁.toks+1}) s
 |[],acc,s,H,Y,h,N,K=>by
  have K:Kont V X RU L Y bF U H (if acc.length<=sizeLine then .ok (.str acc) h else .stuck) Q E:=K;split at K
  .rename_i m;show#[m,aC N K rfl _ _ (N.inv.tok _) #[_,rfl]]
  .show(K).elim
 |e::es,acc,s,H,Y,h,N,K=>by
  refine(C e).run N K λx F u M P I J n1 O j=>?_
  let#[S,R,D]:=O;cases x with
  |str y=>
   cases (D);let#[t,rfl]:=R;dsimp only at j;split at j
   .rename_i m;show#[y,t,rfl,m,GW C es (acc++y) M P I F J j]
   .show(j).elim
  |_=>show(j).elim
theorem SR(j:∀e,ah V X e<|f e):ah V X (.JoinedStr (a::b::r) pos) (k9<|(a::b::r).map f):=λL s U H Y m h Q E N K=>wpAny_JoinedStr<|GW j (a::b::r) iT s H Y h N K
end
abbrev wF(X:Cx)(a:Z4)(oe:Obj):Cx:={X with A:=X.A.mark<|B<|.ref a,H₀:=upd X.H₀ a (.bh oe<|.own 0)}
section
variable{fs ex:Tu}{H₀ H H':Hp}{h h0 h':aM}{a:Z4}{oe:Obj}
theorem Xb(ha:H a=B (.bh oe<|.own 0))(q:H b=o)(n:∀oe u,o≠B (.bh oe u)):b≠a:=λz=>by subst z;show n _ _<|q.symm.trans ha
def Y3(q:upd H₀ a (.bh oe<|.own 0) b=o)(n:∀oe u,o≠B (.bh oe u)):H₀ b=o:=by
 by_cases z:b=a
 .subst z;rw[Jx]at q;show absurd q.symm<|n _ _
 .rw[Jp z]at q;show q
theorem _root_.L2.Un.warm(u:Un fs ex H₀ H h h')(ha:H a=B (.bh oe<|.own 0)):Un fs ex (upd H₀ a<|.bh oe<|.own 0) H h h' where
 keep:=λb o q m=>u.keep b o q (Y3 m λ_ _ z=>by cases z)
 slot:=λb o q m=>u.slot b o q (Y3 m λ_ _ z=>by cases z)
 free:=λb o q m=>u.free b o q (Y3 m λ_ _ z=>by cases z)
 there:=u.there
 b9:=λb xs q=>u.b9 b xs (Y3 q λ_ _ z=>by cases z)
 aO:=λb o y q=>by
  by_cases z:b=a
  .subst z;rw[Jx]at q;cases q;show ha
  .rw[Jp z]at q;show u.aO b o y q
 cB:=λb ps q=>u.cB b ps (Y3 q λ_ _ z=>by cases z)
theorem _root_.L2.Un.Bi(j:Un fs ex H₀ H h h0)(ha:H a=B (.bh oe<|.own 0))(u:Un fs ex (upd H₀ a<|.bh oe<|.own 0) H' h h'):Un fs ex H₀ H' h h' where
 keep:=λb o q m f x=>u.keep b o q (by rw[Jp<|Xb ha (j.free b o q m x) λ_ _ z=>by cases z];show m) f x
 slot:=λb o q m f x=>u.slot b o q (by rw[Jp<|Xb ha (j.free b o q m x) λ_ _ z=>by cases z];show m) f x
 free:=λb o q m x=>u.free b o q (by rw[Jp<|Xb ha (j.free b o q m x) λ_ _ z=>by cases z];show m) x
 there:=u.there
 b9:=λb xs q=>u.b9 b xs (by rw[Jp<|Xb ha (j.b9 b xs q) λ_ _ z=>by cases z];show q)
 aO:=λb o y q=>by
  by_cases z:b=a
  .subst z;have:=j.aO b o y q;rw[ha]at this;cases this;show u.aO b _ _ Jx
  .show u.aO b o y<|by rw[Jp z];show q
 cB:=λb ps q=>u.cB b ps (by let#[m,e]:=j.cB b ps q;rw[Jp<|Xb ha e λ_ _ z=>by cases z];show q)
end
section
variable{V:aF}{X:Cx}{L:aQ}{U:L2.St}{H:Hp}{s:Zx}{Y:Tu}{bF:aA}{h:IH}{n:Nat}{c:Str}{fs:Wo}{a:Z4}
def SS(N:az V X L Y bF h U H s)(I:h[n]?=B (.exc c fs))(Z:Y[n]?=B a):∃oe vs,az V X L Y bF (h.set n<|.iZ c fs) U (upd H a<|.bh oe<|.own 0) s/\aU Y H Y (upd H a<|.bh oe<|.own 0)/\oe.data=.fields vs/\vs[2]?=B .none:=by let#[C,Q,d,O,F,ha,R]:=QU N.rel I Z;let#[oe,vs,j,M,m,P,D,J]:=cy.get N.inv.au ha;let#[R2,n2]:=N.rel.write Z ha (by rw[ha];trivial) (o:=.bh oe<|.own 0) (io:=.iZ c fs) #[C,oe,.own 0,vs,J▸O.mono (λb o u q=>by rw[Jp λz=>by subst z;rw[ha]at q;cases q];show q),F,Jx,M,m,D];have E:Inv X L U (upd H a<|.bh oe<|.own 0) s:=N.inv.write (x:=a) (e:=a) (h':=s.heap) (t':=s.toks) (by rw[ha];trivial) (.inl rfl) (λ_ _ _ q=>q) #[oe,j] #[j,oe,j];show#[oe,vs,#[E,R2,N.st.mono n2],n2,m,D]
theorem SU(I:Inv X L U H s)(ha:H a=B (.bh oe<|.own 0))(d:oe.data=.fields vs)(x:vs[2]?=B .none):Inv (wF X a oe) L U H s:=#[#[I.ok.mod,I.ok.kind,I.ok.glob,I.ok.blt,I.ok.above,I.ok.inj,I.ok.has,I.ok.pN,λ_=>.inr #[a,oe,_,vs,rfl,Jx,d,x],I.ok.frames,I.ok.rQ,I.ok.rR,λb o q=>#[(I.ok.bs b o q).1,(Jp<|Xb ha (I.bs b o q).2 (λ_ _ z=>by cases z)).trans (I.ok.bs b o q).2],I.ok.jB,I.ok.ja,I.ok.ib,I.ok.da,λb O=>let ⟨_,o,j,_⟩:=I.ok.da.mem O;(Jp<|Xb ha (I.base.free b o j (I.ok.kI b O) λz=>I.ok.ib b z O) λ_ _ z=>by cases z).trans (I.ok.kI b O)],I.os,I.bare,I.base.warm ha,I.loc,I.cell,I.free,I.bT,I.pin,I.au,I.len]
theorem SV(I:Inv X L U H s)(ha:H a=B (.bh oe<|.own 0))(bC:Inv (wF X a oe) pj' U' H' s'):Inv X pj' U' H' s':=#[I.ok,bC.os,bC.bare,I.base.Bi ha bC.base,bC.loc,bC.cell,bC.free,bC.bT,bC.pin,bC.au,bC.len]
end
def oM(h:aM)(C:Z4):Prop:=∃nm q N bs bm hdct sn sub ab col dd k0 k1 k2 k3 k5 newId,h.get? C=B (uN nm q C N bs bm hdct sn sub ab col dd k0 k1 k2 k3 k5 newId)/\bm.contains (.type "BaseException")=Zi
def SW(S:A.handled=Ze) (h:Zw M A x (λv s₁=>∃e oe vs C,v=.ref e/\oM s₁.heap C/\s₁.heap.get? e=B oe/\oe.cls=.ref C/\oe.data=.fields vs/\Zw M A (sy (.ref e) Ze) (λ_ s₂=>E (.ref e) s₂) E s₁) E s):Zw M A (raiseStmt env (B x) Ze) Q E s:=by
 unfold raiseStmt;refine Zb<|c6 h (λv s₁ h₁=>?_) λ_ _ x=>x
 let#[e,#[oc,od,V,U],vs,C,rfl,#[nm,q,N,bs,P,J,sn,sub,X,L,dd,Y,k1,k2,k3,k5,D,I,j],O,R,hd,H]:=h₁;have F:(hE C::P).contains (.type "BaseException")=Zi:=by rw[List.contains_cons,j,Bool.or_true]
 subst R hd;let#[Z,g,d,W,os]:=s₁;generalize m:sy=SF at H ⊢;repeat (first|with_reducible calc sj O ?_|with_reducible calc sj I ?_|(with_reducible calc wpAny_isSubtype_exc I ?_;rw[F])|wp_step)
 subst m;show c6 H (λ_ s₂ z=>wpAny_raiseNew_none S z) λ_ _ z=>z
def Y6(rz:Str->Bool)(m:E1):S1:=λU h=>rS U (m U h) λv h1=>match v with|.ref n=>(match h1[n]? with|some (.exc c _)=>if rz c then .exc n U h1 else .stuck|_=>.stuck)|_=>.stuck
section
variable{V:aF}{X:Cx}{x:Expr}{m:E1}{pos:Pos}
def SY(hh:X.A.handled=Ze)(he:ah V X x m)(P:∀c C,rz c=Zi->W.nsIn X.K Z2 c=B (B<|.ref C)->∀h:aM,X.K.In h->oM h C):cD V X (.Raise (B x) Ze pos) (Y6 rz m):=by
 intro L s U H Y bF h Q E N K;rw[arm_exec_Raise];calc Zb<|jI ?_;change Zw _ _ (raiseStmt X.env (B<|a0 x X.env>>=λv=>nL pos>>=λ_=>pure v) Ze) Q E s;calc SW hh ?_;refine Zb<|cQ he N K λv h1 u s1 O J D n1 r1 j=>?_
 calc Zb<|jI<|Zj ?_;cases v with
 |ref n=>
  let#[xv,rx,a,rfl,Z]:=r1;cases rx;dsimp only at j;cases F:h1[n]? with|none=>rw[F]at j;show Zf j|some I=>
   rw[F]at j;cases I with
   |exc c fs=>
    dsimp only at j;split at j
    .rename_i hr;let#[C,tv,d,fe,S,ha,ht]:=QU D.rel F Z;let#[oe,vs,e1,M,R,_]:=cy.get D.inv.au ha;calc#[a,oe,vs,C,rfl,P c C hr S _ D.inv.cF,e1,M,R,?_];refine Bf D.inv.au ha ht λh' keep=>?_
     show j [] a _ U O J #[by rw[mM];show D.inv.kept (t':=s1.toks) keep,D.rel,D.st] .refl Z _<|.inl rfl
    .show Zf j
   |_=>show Zf j
 |_=>show Zf j
end
section
variable{prog:ZU}{w:bq}{A:bP}{E:aH}{hp:aM}{ge:Wk}{dr:Drawn}{tk:Nat}{ox:OsState}
variable{nm qn:Str}{C Na:Z4}{bs bm bmB:Tv}{hdct:Bool}{sn:Tk}{sub:Tv}{ab:Bool}{col:Ww}{dd:Td}{k0 k1 k2 k3 k5:Tc}{bA Bn newId nid initId inN:String}{bmN:Tv}
def S0(Fn:uI Bn newId inN bmN)(L:bmB.contains (.type Bn)=Zi)(F:uI bA nid initId bmB)(T:OwnTail hp bmB bm) (I:hp.get? C=B (uN nm qn C Na bs bm hdct sn sub ab col dd k0 k1 k2 k3 k5 newId))(hn:hp.Ns Na mN)(Z:mN "__init__"=B (.ref fI))(X:hp.get? fI=B oI)(O:oI.cls=.type "function")(S:as.length<=sizeLine) (go:∀h' e,y9 hp h' e (.ref C) as->Zw (Zy prog w) A (call (.ref fI)<|.ref e::as) (λr s'=>r=.none/\Q (.done<|.ret<|.ref e) s') E #[h',ge,dr,tk,ox]):Zw (Zy prog w) A (dz.«type.__call__» #[.ref C::as,[]]) Q E #[hp,ge,dr,tk,ox]:=by
 repeat (first|with_reducible calc sj I ?_|with_reducible calc wpAny_madeBy_exc I ?_|wp_step)
 calc codeAny_call_builtin_code (vG _ Fn.quiet)<|wpAny_check_new_subU Fn L T I<|codeAny_exc_new_subU Fn L F T I ?_ S;generalize j:({cls:=.type "tuple",data:=.seq as.toArray}:Obj)=D;generalize m:({cls:=.ref C,data:=.fields (ba [.ref hp.objs.size,.none,.none,.none,.bool Zl,.none])}:Obj)=H;have J:∀b o,hp.get? b=B o->((hp.push D).push H).get? b=B o:=λb o q=>Zg _<|Zg _ q
 have M:((hp.push D).push H).get? (hp.objs.size+1)=B H:=by
  subst m j
  heap_get
 have gT:((hp.push D).push H).get? hp.objs.size=B D:=by subst m j;show Zg _<|y8 rfl rfl
 have P:=J _ _ I;have N1:((hp.push D).push H).Ns Na mN:=let ⟨o,V,R,q,r⟩:=hn;#[o,V,R,J _ _ q,r];have cC:(hE C::bm).contains (.ref C)=Zi:=03;have T1:=T.keeps J;have made:y9 hp ((hp.push D).push H) (hp.objs.size+1) (.ref C) as:=#[J,vi<|hb _,hp.objs.size,by rw[M,m],vi<|Zk _,by rw[gT,j]];have W:=M;subst m j;repeat (first|with_reducible calc sj M ?_|(with_reducible calc wpAny_isSubtype_exc P ?_;rw[cC])|wp_step)
 calc wpAny_typeLookup_tail P N1 T1 F.mroIs F.init.lookup ?_;rw[Z];calc ZT<|Zb ?_;calc Zb<|sv #[_,J _ _ X,O] ?_;refine Zj<|Zb<|c6 (go _ _ made) (λr s' U=>?_) λ_ _ z=>z
 let#[rfl,Y]:=U
 wp_walk
 show Y
def S2(Fn:uI Bn newId inN bmN)(m:bmB.contains (.type Bn)=Zi)(F:uI bA nid initId bmB)(T:OwnTail hp bmB bm) (j:hp.get? C=B (uN nm qn C Na bs bm hdct sn sub ab col dd k0 k1 k2 k3 k5 newId))(hn:hp.Ns Na mN)(Z:mN "__init__"=B (.ref fI))(I:hp.get? fI=B oI)(D:oI.cls=.type "function")(H:as.length<=sizeLine) (go:∀h' e,y9 hp h' e (.ref C) as->Zw (Zy prog w) (A.under<|.builtin "type.__call__" #[.ref C::as,[]]) (call (.ref fI)<|.ref e::as) (λr s'=>r=.none/\Q (.ref e) s') E #[h',ge,dr,tk,ox]):Zw (Zy prog w) A (call (.ref C) as) Q E #[hp,ge,dr,tk,ox]:=by
 have g1:=tc_lookup;have g2:=tc_bind<|.ref C;calc oX<|yE ?_;repeat (any_goals (first|assumption|with_reducible calc sj j ?_|wp_step))
 show#[rfl,codeAny_call_builtin_at (vG _<|by decide +kernel) entry_typeCall<|wpAny_check_type_call_sub j<|S0 Fn m F T j hn Z I D H go]
end
def S3{K:W.Frag}(I:K.In h)(G:h.Ns N m)(e:W.nsIn K N x=B (B v)):m x=B v:=by
 let#[o,E,D,go,gd,_,j]:=G;unfold W.nsIn at e;split at e
 .rename_i q;have z:=I _ _ q;rw[go]at z;cases z;cases gd;split at e
  .rename_i en C;cases e;rw[<-j];unfold nsFind findBy;rw[<-zk,C];rfl
  .split at e<;>cases e
 .cases e
def Qh(K:W.Frag)(C f:Z4):Bool:=match K.lookup C with|some ⟨.type "type",_,.cls cd,sl⟩=>(match cd.mro,sl.toList with|.ref C'::bm,[_,_,_,_,B (.builtin n),_]=>C'==C&&n=="ValueError.__new__"&&!cd.hasDel&&W.tailIn K tP bm&&W.nsOkIn K cd.ns&&W.nsIn K cd.ns "__init__"==B (B<|.ref f)&&(match K.lookup f with|some o=>o.cls==.type "function"|none=>Zl)|_,_=>Zl)|_=>Zl
def Qh.obj{K:W.Frag}(x:Qh K C f=Zi)(I:K.In h):∃bm N nm q bs hdct sn sub ab col dd k0 k1 k2 k3 k5 H L,h.get? C=B (uN nm q C N bs bm hdct sn sub ab col dd k0 k1 k2 k3 k5 "ValueError.__new__")/\h.Ns N H/\H "__init__"=B (.ref f)/\OwnTail h tP bm/\h.get? f=B L/\L.cls=.type "function":=by
 unfold Qh at x;split at x;case h_2=>cases x
 rename_i dd cd J P;split at x;case h_2=>cases x
 rename_i D bm k0 k1 k2 k3 n k5 F m;simp at x;let#[#[#[#[#[#[e1,e2],j],e4],e5],e6],e7]:=x;subst e1 e2;let#[nm,bs,Q,N,O,hd,sn,sub,ab,col,M]:=cd;have F:=F;have j:=j;subst F j;have m:J=(ba [k0,k1,k2,k3,B<|.builtin "ValueError.__new__",k5]):=by rw[<-Array.toArray_toList (xs:=J),m]
 subst m;cases E:K.lookup f with|none=>rw[E]at e7;cases e7|some o=>rw[E]at e7;show#[bm,N,nm,O,bs,hd,sn,sub,ab,col,dd,k0,k1,k2,k3,k5,_,o,I _ _ P,.of_isNs<|W.isNs_of_in I e5,S3 I (.of_isNs<|W.isNs_of_in I e5) e6,W.tail_of_in I e4,I _ _ E,beq_iff_eq.mp e7]
section
variable{X:Cx}{L:aQ}{U:L2.St}{H:Hp}{s:Zx}{k:Nat}{f C:Z4}{fd:gY}{ps:Tk}{sp:Sp}{aL:Uc}{ds:Tv}{E:XK}{Q:VK}{us:Tv}{vs:Uc}{W:aH}
def S4(xc:Qh X.K C f=Zi)(F:bx X.prog X.w X.K X.mg X.base (d9 X.prog X.w) κ k f fd ps sp)(hr:bj κ (k+1) X.A)(hc:Ql X.A H)(O:JO X.K fd ps ds)(hd:Vals aL ds)(I:Inv X L U H s)(r:Vals vs us)(hz:us.length<=sizeLine) (h:∀e,H e=Ze->sp (.ref e::(vs++aL)) (upd H e<|cy e C .none Ze) (λv H2=>v=.ag/\Q (.ref e) H2) E) (hx:∀e s' H',Inv X L U H' s'->E e Ze H'->W e s'):Zw (Zy X.prog X.w) X.A (call (.ref C) us) (EP X L U Q) W s:=by
 let#[bm,Na,nm,qn,bs,hdct,sn,sub,ab,col,dd,k0,k1,k2,k3,k5,mN,oI,V,hN,Z,T,hf,S]:=Qh.obj xc I.cF;let#[D,ge,dr,tk,ox]:=s;refine S2 zr 01 zr T V hN Z hf S hz λm e M=>?_
 let#[t,Y,_,_]:=M.there;have he:H e=Ze:=by cases z:H e with|none=>rfl|some u=>let#[o,z']:=Gb<|I.au e u z;rw[show D.get? e=Ze from M.new]at z';cases z'
 have J:∀b u,D.get? b=B u->m.get? b=B u:=λb u q=>M.keeps b u q
 have j:∀{b:Z4}{u:HO},H b=B u->upd H e (cy e C .none Ze) b=B u:=λ{b u} q=>by rw[Jp λz=>by subst z;rw[he]at q;cases q];show q
 have un:Un X.fs [] H (upd H e<|cy e C .none Ze) D m:=#[λb o q _ _ _=>J b o q,λb o q _ _ _=>#[o.slots,J b o q],λb o q n _=>by rw[Jp λz=>by subst z;rw[show D.get? b=Ze from M.new]at q;cases q];show n,λb o q _=>#[o,J b o q],λb xs q=>j q,λb o u q=>j q,λb ps q=>#[#[],by rw[j q];simp]];have ok:cV X.prog X.w (upd H e<|cy e C .none Ze) m:=λb u q=>by
  by_cases z:b=e
  .subst z;rw[Jx]at q;cases q;show cy.ok Y rfl rfl rfl rfl rfl
  .rw[Jp z]at q;show(I.au b u q).eS (λd v _ p=>J d v p) (λd p=>j p) λd xs p=>j p
 have P:Inv X L U (upd H e<|cy e C .none Ze) #[m,ge,dr,tk,ox]:=I.un (t':=tk) un ok;have hq:=h e he;have ra:Vals (bB.ref e::(vs++aL)) (hE e::(us++ds)):=.cons rfl (r.append hd);have la:=ra.length;have lf:=F.len _ _ _ _ hq;have hl:(hE e::us++ds).length=ps.length:=by rw[iQ];lia
 refine oX<|oW (F.run _ _ _ _ #[.ref e::us,[]] _ _ _ _ (hr.make C us []) ((P.pQ<|hc.mono λb o u q=>j q).make C us []) (O _ (.ref e::us) P.cF hl) ra hq) λR s' q=>?_
 match R,q with|.error x,q=>let#[H',I',z]:=AE P q;show hx x s' H' I' z|.ok (.ret u),q=>let#[v,H',J3,rv,ev,q3]:=P.after q;subst ev;show#[rv,#[bB.ref e,H',J3,rfl,q3]]|.ok .next,q=>show gh q|.ok .brk,q=>show gh q|.ok .cont,q=>show gh q
end
def wG(c:Str)(f:Tw->IH->Res IV)(aL:Tw)(a:A1):E1:=λU h=>(a U h).bind λvs h1=>(f (.ref h1.length::(vs++aL))<|h1++[.exc c []]).bind λr J=>match r with|.ag=>.ok (.ref h1.length) J|_=>.stuck
section
variable{V:aF}{X:Cx}{k:Nat}{fa C:Z4}{fd:gY}{ps:Tk}{f:Tw->IH->Res IV}{aL:Tw}{ds:Tv}{x c:Str}{p pos:Pos}{e:Expr}{es:Te}{ma:A1}
def S5(xc:Qh X.K C fa=Zi)(F:bx X.prog X.w X.K X.mg X.base (d9 X.prog X.w) κ k fa fd ps<|i2 V X.K ps f)(hC:W.nsIn X.K Z2 c=B (B<|.ref C))(hr:bj κ (k+1) X.A)(hc:Ql X.A H)(O:JO X.K fd ps ds) (hd:∃vs,Vals vs ds/\∀Y H,aw X.K Y H aL vs)(hlen:us.length+ds.length+1=ps.length)(hz:us.length<=sizeLine)(N:az V X L Y bF h U H s)(r:ir X.K Y H xs us) (K:Kont V X RU L Y bF U H ((f (.ref h.length::(xs++aL))<|h++[.exc c []]).bind λr J=>match r with|.ag=>.ok (.ref h.length) J|_=>.stuck) Q E):Zw (Zy X.prog X.w) X.A (call (.ref C) us) Q E s:=by
 let#[vs,rv,q]:=r;let#[dv,rd,qd]:=hd;have hl1:=rv.length;have hl2:=rd.length;refine c6 (S4 (Q:=λz m=>∀u j,Inv X L U m j->RelV z u->Q u j) (E:=λv _ m=>∀j,Inv X L U m j->E v j) xc F hr hc O rd N.inv rv hz (λb hx=>#[by rw[iP,ZB];lia,?_]) λ_ j _ D z=>z j D) (λu j ⟨z,m,D,r',k'⟩=>k' u j D r') λ_ _ z=>z
 let#[R2,n2]:=N.rel.alloc (o:=cy b C .none Ze) (io:=.exc c []) hx #[C,.none,Ze,.inl #[rfl,rfl],hC,Jx,.inl rfl];have M:(Y++[b])[h.length]?=B b:=by rw[<-N.rel.len,ZN<|Zk _];simp
 calc#[Y++[b],h++[.exc c []],.ref h.length::(xs++aL),R2,#[_,_,rfl,#[b,rfl,M],(aw.mono n2 _ _ q).append<|qd _ _],?_];cases P:f (.ref h.length::(xs++aL)) (h++[.exc c []])with
 |ok v h'=>rw[P]at K;intro z m S R I qz;cases v with|ag=>cases (show z=.ag from qz);show#[rfl,λu j D ru=>K u j m S #[D,R,N.st.mono<|n2.trans I] (n2.trans I) #[.ref b,ru,b,rfl,I.at M]]|_=>show Zf K
 |exc n h'=>rw[P]at K;show λa m S R I Z j D=>K [] a j m S #[by simpa using D,R,N.st.mono<|n2.trans I] (n2.trans I) Z
 |stuck=>rw[P]at K;show Zf K
def S6(xc:Qh X.K C fa=Zi)(kp:W.keepIn X.K (.ref C)=Zi)(F:bx X.prog X.w X.K X.mg X.base (d9 X.prog X.w) κ k fa fd ps<|i2 V X.K ps f)(hC:W.nsIn X.K Z2 c=B (B<|.ref C))(S:Roo κ (k+1) X)(hg:Gl X x)(hm:X.mg x=B (.ref C))(O:JO X.K fd ps ds)(hd:∃vs,Vals vs ds/\∀Y H,aw X.K Y H aL vs) (ha:dG V X (e::es) ma)(m:∀U h xs h',ma U h=.ok xs h'->xs.length+ds.length+1=ps.length)(hz:ps.length<=sizeLine)(R:(x==("__debug__":Str))=Zl:=by decide)(he:ZH (e::es) X.env=(Zl,a0 e X.env)::ZH es X.env:=by rfl)(I:(dY pos<|ZH es X.env).any (·.1)=Zl:=by rfl):ah V X (.Call (.Name x p) (e::es) [] pos) (wG c f aL ma):=by
 intro L s U H Y M h Q E N K;calc hV<|Vu N.inv hg hm ?_ R;calc W.callWith_K (h₀:=X.base) N.inv.ok.mod.pL kp ?_ he I;have j:=K;unfold wG at j;calc ha pos L s U H Y M h _ E N ?_;cases D:ma M h with|exc n h'=>rw[D]at j;show j|stuck=>rw[D]at j;show j|ok xs h'=>
  rw[D]at j;intro us s1 H1 U1 P n1 Z;have hl:xs.length=us.length:=by let#[vs,rv,q]:=Z;rw[<-rv.length,q.length]
  have hn:=m M h xs h' D;show#[P.inv.cF,S5 (us:=us) xc F hC S.r (P.inv.cN S.c) O hd 05 (ZC<|Zc (Zc (Zh (Zc (Zn hl.symm)<|Zq _ _) 1)<|Zn hn) hz) P Z<|Kont.mono (r:=(f (IV.ref h'.length::(xs++aL))<|h'++[.exc c []]).bind λr J=>match r with|IV.ag=>Res.ok (IV.ref h'.length) J|_=>Res.stuck) j n1]
end
section
variable{X:Cx}{L:aQ}{U:L2.St}{H:Hp}{s:Zx}{f C e:Z4}{tv:Zo}{d:Td}{us:Tv}
def S7(h:H a=B o):upd H a o=H:=by
 funext b;by_cases z:b=a
 .subst z;rw[Jx,h]
 .rw[Jp z]
def S8(xc:Qh X.K C f=Zi)(I:Inv X L U H s)(ha:H e=B (cy e C tv d))(hz:us.length<=sizeLine) (go:∀s',Inv X L U H s'->Q .none s'):Zw (Zy X.prog X.w) X.A (call (.builtin "ValueError.__init__")<|.ref e::us) Q E s:=by
 let#[bm,Na,nm,qn,bs,V,sn,sub,ab,col,dd,k0,k1,k2,k3,k5,mN,oI,J,hN,hni,T,hf,hfc]:=Qh.obj xc I.cF;let#[oe,Y,g1,g2,O,g4,g5,g6]:=cy.get I.au ha;calc oX<|qJ PySem.F.excBase_ValueError.init.plain PySem.F.excBase_ValueError.initEntry ?_;let#[m,Z,W,P,ox]:=s;refine wpAny_check_init_subU zr T J g1 g2 ?_
 wp_walk
 have sz:=(pB.mp g4).1;obtain⟨M,h0⟩:∃M,Y[0]?=B M:=#[Y[0],lX<|mG 06];rw[O];calc Zj ?_;dsimp only;rw[h0];calc Zj ?_;have j:=Zg {cls:=.type "tuple",data:=.seq us.toArray} g1;calc Zb<|iL j O (mG 06) ?_;have I1:Inv X L U H #[m.push {cls:=.type "tuple",data:=.seq us.toArray},Z,W,P,ox]:=I.kept λb o q=>Zg _ q
 have F:=ZR O (·.setIfInBounds 0 (hE m.objs.size));have D:=i5 (eR (·.setIfInBounds 0 (hE m.objs.size))) j<|lW F;have S:Inv X L U (upd H e<|cy e C tv d) #[(m.push {cls:=.type "tuple",data:=.seq us.toArray}).update e (eR (·.setIfInBounds 0 (hE m.objs.size))),Z,W,P,ox]:=I1.write (by rw[ha];trivial) (.inl rfl) (λb u n q=>(Z3 _ _<|ZP n).trans q) #[_,D] (cy.ok D ((pA _ _).trans g2) F (by simp_all) (by simp_all)<|(Ga _ _).trans g6);rw[S7 ha]at S;have R:=go _ S;cases M with|ref b=>show kx<|Zj R|_=>show Zj<|Zj R
end
structure jV(K:W.Frag)(D:Z4):Prop where
 sp:W.specialIn K (.ref D) "__getattribute__"=B (B<|.builtin "type.__getattribute__")
 rd:W.readsIn K D (.type "type")=Zi
 fc:W.findCls K (.ref D) (.type "type") "__init__"=B (.val<|.builtin "ValueError.__init__")
def Yk(rz:Str->Bool)(a:A1):E1:=λU h=>(a U h).bind λvs h1=>match vs with|[.ref n,.str _]=>(match h1[n]? with|some (.exc c _)=>if rz c then .ok .ag h1 else .stuck|_=>.stuck)|_=>.stuck
section
variable{V:aF}{X:Cx}{D:Z4}{x:Str}{p pos apos:Pos}{e:Expr}{es:Te}{ma:A1}{pl:Sem Bool}
def S9(hx:∀c C,rz c=Zi->W.nsIn X.K Z2 c=B (B<|.ref C)->∃f,Qh X.K C f=Zi)(hg:Gl X x)(hm:X.mg x=B (.ref D))(bA:jV X.K D) (ha:dG V X (e::es) ma)(J:(x==("__debug__":Str))=Zl:=by decide)(he:ZH (e::es) X.env=(Zl,a0 e X.env)::ZH es X.env:=by rfl)(F:(dY pos<|ZH es X.env).any (·.1)=Zl:=by rfl) (ht:a0 (.Call (.Attribute (.Name x p) "__init__" apos) (e::es) [] pos) X.env=(do
   let ov<-a0 (.Name x p) X.env
   nL apos.atName
   let (f,first)<-jt [ov] (oZ ov "__init__" pl)
   sD pos f first (dY pos<|ZH (e::es) X.env) (nJ pos<|nE [] X.env)):=by rfl):
  ah V X (.Call (.Attribute (.Name x p) "__init__" apos) (e::es) [] pos) (Yk rz ma):=by
 intro L s U H Y R h Q E N K;calc W.methodCall_KW (Vu N.inv hg hm ?_ J) ht;calc W.method_cls N.inv.cF bA.sp<|W.cls_value N.inv.cF bA.rd bA.fc rfl ?_;have N':az V X L Y R h U H {s with toks:=s.toks+1}:=#[N.inv.tok _,N.rel,N.st];calc sW ?_ he F;refine(ha pos).run N' K λxs h1 us s1 H1 S m n1 r1 j=>?_
 let#[vs,rv,qs]:=r1;by_cases M:∃n y,xs=[.ref n,.str y]
 .let#[n,y,rfl]:=M;let#[w1,w2,rfl,#[a,rfl,Z],q2]:=qs.jg;let#[u1,u2,rfl,p1,p2]:=rv.two;cases p1;dsimp only at j;cases I:h1[n]? with|none=>rw[I]at j;show(j).elim|some P=>
   rw[I]at j;cases P with
   |exc c fs=>
    dsimp only at j;split at j
    .rename_i hr;let#[C,tv,d,fe,hC,hH,ht']:=QU m.rel I Z;let#[f,xc]:=hx c C hr hC;have sb:1<=sizeLine:=01;show S8 xc m.inv hH (by simpa using sb) λO I'=>j _ O H1 S #[I',m.rel,m.st] .refl #[.ag,rfl,rfl]
    .show(j).elim
   |_=>show(j).elim
 .calc(show False from ?_).elim;split at j
  .show M #[_,_,rfl]
  .show j
end
def Yr:Tv->Bool|.ref _::r=>Yr r|l=>l==tP
theorem GX(self):∀{l:Tv},Yr l=Zi->refuseLoop self "__setattr__" l=pure ()|.ref c::r,e=>by rw[refuseLoop_ref];show GX self e|[],e=>by cases e|.type n::r,e=>by rw[show mP n::r=tP from beq_iff_eq.mp e];show PySem.F.store_ValueError.passes self|.none::_,e=>absurd (beq_iff_eq.mp e) nofun|.bool _::_,e=>absurd (beq_iff_eq.mp e) nofun|.int _ _::_,e=>absurd (beq_iff_eq.mp e) nofun|.str _ _::_,e=>absurd (beq_iff_eq.mp e) nofun|.float _ _::_,e=>absurd (beq_iff_eq.mp e) nofun|.bytes _ _::_,e=>absurd (beq_iff_eq.mp e) nofun|.ellipsis::_,e=>absurd (beq_iff_eq.mp e) nofun|.notImplemented::_,e=>absurd (beq_iff_eq.mp e) nofun|.builtin _::_,e=>absurd (beq_iff_eq.mp e) nofun
theorem GY:∀{l:Tv},Yr l=Zi->l.contains (.type "object")=Zi|.ref c::r,e=>by rw[List.contains_cons,GY (l:=r) e,Bool.or_true]|[],e=>by cases e|.type n::r,e=>by rw[show mP n::r=tP from beq_iff_eq.mp e];decide|.none::_,e=>absurd (beq_iff_eq.mp e) nofun|.bool _::_,e=>absurd (beq_iff_eq.mp e) nofun|.int _ _::_,e=>absurd (beq_iff_eq.mp e) nofun|.str _ _::_,e=>absurd (beq_iff_eq.mp e) nofun|.float _ _::_,e=>absurd (beq_iff_eq.mp e) nofun|.bytes _ _::_,e=>absurd (beq_iff_eq.mp e) nofun|.ellipsis::_,e=>absurd (beq_iff_eq.mp e) nofun|.notImplemented::_,e=>absurd (beq_iff_eq.mp e) nofun|.builtin _::_,e=>absurd (beq_iff_eq.mp e) nofun
section
variable{prog:ZU}{w:bq}{A:bP}{K:W.Frag}{C x:Z4}{s:Zx}{R:qY->Zx->Prop}{ox:Obj}{name:Str}{v:Zo}
structure fR(K:W.Frag)(C:Z4)(name:Str):Prop where
 line:(W.clsIn K C).any (λcd=>Yr cd.mro&&cd.hasDict)=Zi
 free:W.takerIn K C name=B Ze
 way:W.findIn K (.ref C) "__setattr__"=B (B<|.builtin "object.__setattr__")
def TB(S:fR K C name)(X:K.In s.heap)(I:W.InstAt s.heap x ox C Ze) (h:∀b,Zw (Zy prog w) A.in1 (Builtin.ObjectAttr.storeInOwnDict (.ref x) (.ref C) (.str name tk) name v b) (λfin s'=>match fin with|.done f=>R (.ok f) s'|.again c=>c.quiet=Zi/\iN (Zy prog w) A c R s') (λe s'=>R (.error e) s') s):iN (Zy prog w) A (.call (.builtin "object.__setattr__") #[[.ref x,.str name tk,v],[]]) R s:=by
 let#[cd,F,H]:=W.any_some S.line;let#[D,L]:=sS.mp H;have ne:cd.mro.isEmpty=Zl:=by cases q:cd.mro with|cons _ _=>rfl|nil=>rw[q]at D;cases D
 have E:W.Looks (Zy prog w) s.heap (isInstance (.ref x)<|.type "object") Zi:=I.type.andThen (W.looks_mroIn X (by unfold W.mroIn;rw[F,Option.bind_some,if_neg (by rw[ne];decide),GY D]));have m:=PySem.F.store_object;let#[j,ha,J]:=yy.mp S.free;have st:W.Looks (Zy prog w) s.heap (Builtin.ObjectAttr.storeTaker? j) Ze:=by
  cases j with
  |some a=>let#[b,O,e]:=Z6.mp J;calc(W.looks_takesIn X O).andThen ?_;cases b with|false=>show .now|true=>cases e
  |none=>show .now
 calc qJ m.slot.plain m.entry ?_;calc @W.check_slot (Zy prog w) _ _ s "object.__setattr__" "object" "__setattr__" (.ref x) [.str name tk,v] [] _ m.kind m.split E (m.args _ _ _) ?_;rw[W.osa_eq,refuse_eq];have M:W.Looks (Zy prog w) s.heap (mroOf<|.ref C) cd.mro:=(W.looks_clsIn X F).andThen .now;calc Zb<|Zb<|I.type.here<|Zb<|M.here ?_;rw[GX _ D];show Zj<|Zb<|I.type.here<|Zb<|(W.looks_findIn X ha).here<|Zb<|st.here<|h _
end
section
variable{prog:ZU}{w:bq}{A:bP}{K:W.Frag}{C x:Z4}{s:Zx}{ox:Obj}{name:Str}{v:Zo}
def TC(S:fR K C name)(X:K.In s.heap)(I:W.InstAt s.heap x ox C Ze)(hd:ox.dict=Ze)
  (go:∀h' t',h'.get? x=B {ox with dict:=B s.heap.objs.size}->h'.Ns1 s.heap.objs.size (λy=>if y=name then B v else Ze)->(∀b o,b≠x->s.heap.get? b=B o->h'.get? b=B o)->Q () {s with heap:=h',toks:=t'}):
  Zw (Zy prog w) A (setAttr (.ref x) name v) Q E s:=by
 refine W.set_plain X I S.way<|TB S X I λb=>?_
 let#[cd,U,P]:=W.any_some S.line;have F:=(sS.mp P).2;obtain⟨j,D,hn,-⟩:=I;let#[oc,R,m,V]:=ox;dsimp only at D hd go;subst D hd;let#[H,ge,dr,Y,os]:=s;dsimp only at j X go ⊢;calc Zb<|Zj<|Zb<|Zb<|yG j<|Zb<|(W.looks_clsIn X U).here ?_;rw[F];have fr:=(Heap.get?_some_iff.mp j).2;have lt:=Z1<|Z0 j;have O:=Zg {cls:=.type "dict",data:=.dict #[]} j;change Zw _ _ (if (!true||!typeHasDict (.ref C))=Zi then pure Ze else match m with|Data.cls c=>pure Ze|_=>(alloc {cls:=mP "dict",data:=Data.dict #[]}>>=λd=>update x (λo=>{o with dict:=B d})>>=λ_=>dictMade (.ref C) x d)) _ _ _;rw[if_neg<|by simp[typeHasDict]];split
 .cases hn
 .calc Zb<|wpAny_alloc'<|Zb<|wpAny_update' O<|Zj ?_;have J:=(Heap.get?_update_ne (H.push {cls:=.type "dict",data:=.dict #[]}) H.objs.size x (λo:Obj=>{o with dict:=B H.objs.size}) lt.symm).trans<|y8 rfl rfl;refine Zb<|Zj<|Zb<|wpAny_nsSet1 (Heap.Ns1.of_empty #[_,#[],_,J,rfl,λe z=>absurd z 03,λ_=>rfl]) λh' M L=>?_
  let#[oD,es,Z,g,gd,gl]:=M.count<|Within.cons name v Within.nil;calc Zb (wpAny_lookBehind g (by rw[gd];show pastItsLine_dict<|Zc gl<|o9 1 _)<|Zj ?_);refine go h' _ ?_ M λb o nb q=>(L.2 b<|Z1<|Z0 q).trans<|(Heap.get?_update_ne _ _ _ _ nb).trans<|Zg _ q
  calc(L.2 x lt).trans<|i5 _ O ?_;revert fr;cases m<;>show id
end
def TF{h:aM}(n:h.Ns1 a m)(e:m f=B v):∃o,h.get? a=B o/\o.isFreed=Zl/\W.lookIn f o=B (B v):=by let#[o,E,D,g,gd,_,_,C]:=n;calc#[o,g,(Heap.get?_some_iff.mp g).2,?_];have z:=C f;rw[e]at z;let#[en,q1,j]:=Z6.mp z;unfold W.lookIn;rw[gd];dsimp only;rw[zk,q1];show congrArg (λu=>B<|B u) j
def Bj:IV->Bool|.int _=>Zi|.ref _=>Zi|_=>Zl
def wH(st:Str->Bool)(f:Str)(o e:E1):S1:=λU h=>rS U (e U h) λv h1=>rS U (o U h1) λov J=>match ov with|.ref i=>(match J[i]? with|some (.exc c [])=>if st c&&Bj v then .next U (J.set i<|.exc c [(f,v)])else .stuck|_=>.stuck)|_=>.stuck
section
variable{V:aF}{X:Cx}{o value:Expr}{mo mv:E1}{pos pos':Pos}{fl:Str}
def TG (hu:XV Y y u)(S:fR X.K C fl)(O:W.nsIn X.K Z2 c=B (B<|.ref C))(N:az V X L Y bF h U H s)(hj:h[n]?=B (.exc c []))(Z:Y[n]?=B a) (go:∀s' H',az V X L Y bF (h.set n<|.exc c [(fl,y)]) U H' s'->aU Y H Y H'->Q () s'):Zw (Zy X.prog X.w) X.A (setAttr (.ref a) fl u) Q E s:=by
 let#[C',F,d,fe,D,ha,ht]:=QU N.rel hj Z;rw[O]at D;cases D;let#[oe,vs,g1,g2,I,g4,g5,M]:=cy.get N.inv.au ha;obtain rfl:d=Ze:=by
  rcases fe with⟨_,q⟩|⟨_,_,_,_,_,q,_⟩
  .show q
  .cases q
 refine TC S N.inv.cF #[g1,g2,by unfold W.notCls;rw[I],by rw[M];trivial] M λh' R x1 x2 x3=>?_
 let#[j,d1,d2,d3]:=TF x2<|if_pos rfl;have hn:=N.inv.au.fresh<|Zk _;have ne:s.heap.objs.size≠a:=λz=>by rw[z,ha]at hn;cases hn
 have J:(s.heap.push j).get? s.heap.objs.size=B j:=y8 rfl d2;have I1:Inv X L U (upd H s.heap.objs.size<|.bh j<|.own 0) {s with heap:=s.heap.push j,toks:=R}:=N.inv.laid (λb u q=>Zg _ q) (Zk _) #[J,#[_,J]];let#[R1,n1]:=N.rel.grow hn;have m:upd H s.heap.objs.size (.bh j<|.own 0) a=B (cy a C F Ze):=by rw[Jp ne.symm];show ha
 have P:oy (upd H s.heap.objs.size (.bh j<|.own 0) a):=by rw[m];trivial
 let#[R2,n2]:=R1.write Z m P (io:=.exc c [(fl,y)]) #[C,F,B s.heap.objs.size,.inr #[fl,y,s.heap.objs.size,j,u,rfl,rfl,by rw[Jp ne,Jx],d3,hu],O,Jx,ht.mono λb o u q=>by rw[Jp (λz=>by subst z;rw[ha]at q;cases q),Jp λz=>by subst z;rw[hn]at q;cases q];show q];have I2:Inv X L U (upd (upd H s.heap.objs.size<|.bh j<|.own 0) a<|cy a C F<|B s.heap.objs.size) {s with heap:=h',toks:=R}:=I1.write P (.inl rfl) (λb u nb q=>by
   by_cases z:b=s.heap.objs.size
   .lia
   .show x3 b u nb<|(Heap.get?_push_ne _ b _ z).symm.trans q) #[_,x1] (cy.ok x1 g2 I g4 g5 rfl)
 show go _ _ #[I2,R2,N.st.mono<|n1.trans n2]<|n1.trans n2
def TH{st:Str->Bool}(ho:ah V X o mo)(R:ah V X value mv)(hx:∀c C,st c=Zi->W.nsIn X.K Z2 c=B (B<|.ref C)->fR X.K C fl)(hs:nH value (B<|.Attribute o fl pos') pos.line X.env=pure Zl:=by rfl):
  cD V X (.Assign [.Attribute o fl pos'] value pos) (wH st fl mo mv):=by
 intro L s U H Y bF h Q E N K;calc Ew (cQ R N K λv h1 u s1 H1 U1 N1 n1 r1 K1=>cQ ho N1 K1 λov J w s2 H2 U2 N2 n2 r2 D=>?_) hs;cases ov with
 |ref i=>
  let#[w,M,a,e1,Z]:=r2;subst e1;cases M;dsimp only at D;cases I:J[i]? with
  |none=>rw[I]at D;show(D).elim
  |some S=>
   rw[I]at D;by_cases O:∃c,S=.exc c []
   .let#[c,rfl]:=O;dsimp only at D;split at D
    .rename_i P;let#[P,R]:=sS.mp P;let#[C,_,_,_,hC,_]:=QU N2.rel I Z;refine TG ?_ (hx c C P hC) hC N2 I Z λs3 H3 N3 n3=>D s3 U H3 U2 N3 n3
     let#[w1,F,e2]:=r1;cases v with
     |int y=>cases e2;show F
     |ref j=>let#[b,rfl,q]:=e2;let#[#[m,rfl],_]:=n2;show#[b,F,by rw[ZE (Zu.mp q).1];show q]
     |_=>cases R
    .show(D).elim
   .cases S with
    |exc c fs=>cases fs with
     |nil=>show absurd #[c,rfl] O
     |cons _ _=>show(D).elim
    |_=>show(D).elim
 |_=>show(D).elim
end
end L3
namespace L3
open PySem PySem.Spec PySem.Calls PyProof.Rows L2
section
variable{prog:ZU}{w:bq}{A:bP}{E:aH}{s:Zx}{K:W.Frag}{x D:Z4}{ox od:Obj}{f:Str}{v:Zo}
def TJ(X:K.In s.heap)(I:W.InstAt s.heap x ox D<|B od)(H:W.hasDictIn K D=Zi)(J:W.findIn K (.ref D) f=B Ze)(hl:W.lookIn f od=B (B v)) (O:Q (.done<|.ret v) s):Zw (Zy prog w) A (dz.«object.__getattribute__» #[[.ref x,.str f tk],[]]) Q E s:=by
 let#[cd,F,hd]:=W.any_some H;have m:W.Looks (Zy prog w) s.heap (lP<|.ref x) (.ref D):=I.type;have C:=W.looks_findIn (M:=Zy prog w) X J;have j:=W.looks_own (M:=Zy prog w) X I F<|by unfold W.ownOf;rw[if_pos hd];show hl
 let#[L,g,d,t,os]:=s;repeat (any_goals (first|assumption|with_reducible calc m.at ?_|with_reducible calc C.at ?_|with_reducible calc j.at ?_|wp_step))
def TK(e:gF K D)(X:K.In s.heap)(I:W.InstAt s.heap x ox D<|B od)(J:W.findIn K (.ref D) f=B Ze)(hl:W.lookIn f od=B (B v))(L:∀id,v≠.builtin id) (H:Q v s):Zw (Zy prog w) A (getAttrBy (.ref x) (.str f tk) Zi b) Q E s:=by
 have m:W.Looks (Zy prog w) s.heap (lP<|.ref x) (.ref D):=I.type;have j:=W.looks_findIn (M:=Zy prog w) X e.ga;have C:=W.looks_findIn (M:=Zy prog w) X e.gn;let#[O,g,d,t,os]:=s;dsimp only at m j C;have P:=F.attr_ValueError.ga.bind<|.ref x;have n2:(sX "BaseException.__getattribute__"==sX "object.__getattribute__")=Zl:=by decide +kernel
 have R:(b&&onTheHeap (sX "BaseException.__getattribute__"))=Zl:=by cases b<;>rfl
 repeat (any_goals (first|assumption|with_reducible calc m.at ?_|with_reducible calc j.at ?_|with_reducible calc C.at ?_|wp_step))
 calc qJ F.attr_ValueError.ga.plain F.entry_bexc_ga<|Gj X I.at_ I.cls e.mb<|TJ X I e.hd J hl ?_;repeat (any_goals (first|assumption|wp_step))
 split
 .show absurd rfl (L _)
 .show Zj H
theorem TL(e:gF K D)(X:K.In s.heap)(I:W.InstAt s.heap x ox D<|B od)(C:W.findIn K (.ref D) f=B Ze)(hl:W.lookIn f od=B (B v))(j:∀id,v≠.builtin id) (m:Q v {s with toks:=s.toks+1}):Zw (Zy prog w) A (getAttr (.ref x) f b) Q E s:=Zb (wpAny_mkText<|TK e X I C hl j m)
def XV.nb(h:XV Y y u):∀id,u≠.builtin id:=by cases y with|int i=>let#[t,rfl]:=h;show nofun|ref j=>let#[b,rfl,_]:=h;show nofun|_=>cases h
end
def Yl(xa:Str->Bool)(f:Str)(o:E1):E1:=λU h=>(o U h).bind λv h1=>match v with|.ref i=>(match h1[i]? with|some (.exc c [(g,y)])=>if xa c&&decide (g=f)then .ok y h1 else .stuck|some (.iZ c [(g,y)])=>if xa c&&decide (g=f)then .ok y h1 else .stuck|_=>.stuck)|_=>.stuck
section
variable{V:aF}{X:Cx}{o:Expr}{mo:E1}{pos:Pos}{fl:Str}
def TM(ho:ah V X o mo)(hx:∀c C,xa c=Zi->W.nsIn X.K Z2 c=B (B<|.ref C)->gF X.K C/\W.findIn X.K (.ref C) fl=B Ze)(O:qN o fl X.env (a0 o X.env)=a0 o X.env:=by rfl):ah V X (.Attribute o fl pos) (Yl xa fl mo):=by
 intro L s U H Y bF h Q E N K;refine Fu O<|ho.run N K λv h1 u s1 H1 I D n1 r1 m=>?_
 have S:∀{i a:Nat}{c:Str}{C:Z4}{F:Obj}{vs:Ti}{g:Str}{y:IV},xa c=Zi->g=fl->W.nsIn X.K Z2 c=B (B<|.ref C)->s1.heap.get? a=B F->F.cls=.ref C->F.data=.fields vs->gu I H1 F.dict [(g,y)] ->(∀t,XV I y t->Q t {s1 with toks:=s1.toks+1})->Zw (Zy X.prog X.w) X.A (getAttr (.ref a) fl Zi) Q E s1:=by
  intro i a c C F vs g y hc R hC g1 g2 P J k;subst R;let#[ei,hf]:=hx c C hc hC;rcases J with⟨q,_⟩|⟨f',i',dx,od,t,q,qd,qH,ql,qx⟩
  .cases q
  .cases q;have gd:=(D.inv.au dx _ qH).1;show TL ei D.inv.cF #[g1,g2,by unfold W.notCls;rw[P],by rw[qd];show gd] hf ql qx.nb<|k t qx
 cases v with
 |ref i=>
  let#[wv,rw',a,e1,Z]:=r1;subst e1;cases rw';dsimp only at m;cases hh:h1[i]? with|none=>rw[hh]at m;show(m).elim|some ob=>
   rw[hh]at m;have M:∀fs:Wo,(∃g y,fs=[(g,y)])\/¬ ∃g y,fs=[(g,y)]:=λ_=>zF _
   have rep:∀{y:IV}{t:Zo}{H2:Hp},XV I y t->RU X.K I H2 y t:=by intro y t H2 q;cases y with|int i=>show#[.int i,q,rfl]|ref j=>let#[b,rfl,q]:=q;show#[.ref b,rfl,b,rfl,q]|_=>cases q
   cases ob with
   |exc c fs=>
    rcases M fs with⟨g,y,rfl⟩|no
    .dsimp only at m;split at m
     .rename_i hz;let#[hc,R]:=sS.mp hz;let#[C,tv,d,J,hC,ha,_]:=QU D.rel hh Z;let#[F,vs,g1,g2,P,_,_,g6]:=cy.get D.inv.au ha;rw[<-g6]at J;show S (i:=i) hc (of_decide_eq_true R) hC g1 g2 P J λt q=>m t _ H1 I #[D.inv.tok _,D.rel,D.st] .refl<|rep q
     .show(m).elim
    .match fs,no,m with|[],_,m=>show(m).elim|_::_::_,_,m=>show(m).elim|[(g,z)],no,m=>show absurd #[g,z,rfl] no
   |iZ c fs=>
    rcases M fs with⟨g,y,rfl⟩|no
    .dsimp only at m;split at m
     .rename_i hz;let#[hc,R]:=sS.mp hz;let#[C,F,u,vs,J,hC,ha,g2,P,_]:=QU D.rel hh Z;show S (i:=i) hc (of_decide_eq_true R) hC (D.inv.au a _ ha).1 g2 P J λt q=>m t _ H1 I #[D.inv.tok _,D.rel,D.st] .refl<|rep q
     .show(m).elim
    .match fs,no,m with|[],_,m=>show(m).elim|_::_::_,_,m=>show(m).elim|[(g,z)],no,m=>show absurd #[g,z,rfl] no
   |_=>show(m).elim
 |_=>show(m).elim
end
end L3
namespace L3
open PySem PySem.Spec PyProof.Rows L2
def Xj(i:Nat)(m:S1):S1:=λU h=>match U[i]? with|some (B (.ref n))=>(match h[n]? with|some (.exc c fs)=>m U<|h.set n<|.iZ c fs|_=>.stuck)|_=>.stuck
def JC.conv(k:JC V X L Y H r Q E)(J:X.K=YY.K)(M:X.env=YY.env)(hs:X.stack=YY.stack)(c:∀{L Y bF h U H s},az V YY L Y bF h U H s->az V X L Y bF h U H s):JC V YY L Y H r Q E:=by cases r with|next U h=>show λj C D F N n2=>k j C D F (c N) n2|brk U h=>show λj C D F N n2=>k j C D F (c N) n2|cont U h=>show λj C D F N n2=>k j C D F (c N) n2|ret v h=>show λu j I C D F N n2 r=>k u j I C D F (c N) n2<|J▸r|exc m U h=>show λpl a j C D F N n2 z O f=>k pl a j C D F (c N) n2 z O<|M▸hs▸f|stuck=>show k
def TN(I:X.N[i]?=B e)(hm:∀oe,jD V (wF X a oe) suite m):tR V X a (B i) suite (Xj i m):=by
 intro L s U H Y D h Q E n c fs ok j J Z F K;have M:i<D.length:=by rw[j.st.len,j.inv.len];show(Zu.mp I).1
 unfold Xj at K;rw[F i rfl M]at K;dsimp only at K;rw[J]at K;have O:az V X L Y D h U H s:=#[Be ok j.inv,j.rel,j.st];let#[oe,P,C,n2,d,x]:=SS O J Z;show hm oe L s U _ Y D _ Q E #[SU C.inv Jx d x,C.rel,C.st]<|(JC.mono (r:=m D<|h.set n<|.iZ c fs) K n2).conv rfl rfl rfl λq=>#[wD (SV C.inv Jx q.inv) a,q.rel,q.st]
section
variable{V:aF}{X:Cx}
section
variable{A:bP}{R:qY->Zx->Prop}{Q E:aH}{L:aQ}{bF:aA}{U:L2.St}{G:Hp->Prop}{fq:Z4}{mk:IV->IH->Res IV}{gt:IV->IV->Ww}{i n:Nat}{l I C:Z4}{kw:Wn}
def TQ(C:∀{H:Hp}{z:Zx},Inv X L U H z->aE A z.heap)(cm:ji V X A.in1 .Lt gt)(D:Xq V X A.in1 bF U L G (.ref fq) mk)(m:∀H H',Ext H H'->G H->G H')(N:az V X L Y bF h U H z)(g:G H)(Z:Y[i]?=B l) (K:Kont V X RU L Y bF U H (QI gt mk i Ze h) Q E):Zw (Zy X.prog X.w) A (call (.builtin "min") [.ref l] [(ZG "key",.ref fq)]) Q E z:=by calc kmk_tree PySem.F.kind_min PySem.F.plain_min PySem.F.entry_min (kmk_min_key _ _) ?_;change Zw _ A.in1 (rN "min" ["key","default"] 0 #[[],[(ZG "key",.ref fq)]]>>=_) _ _ z;calc Zb<|qQ (show rN "min" ["key","default"] 0 #[[],[(ZG "key",.ref fq)]]=pure [B<|.ref fq,Ze]from rfl) ?_;calc Zb<|Zj ?_;show GU (dv:=Ze) RL C cm D m N g Z (λy e=>by cases e) (λv j q=>q) (λc j q r=>#[q,r]) K
end
def Xw(gt:IV->IV->Ww)(q:Str)(j:Nat)(js:Tq)(aa:A1)(m:E1):E1:=λU h=>(aa U h).bind λxs h1=>match h1[j]? with|some (.tab q')=>if q'=q then(match xs with|[.ref i]=>QI gt (λv h'=>m (B v::js.map λj=>(U[j]?).join) h') i Ze h1|_=>.stuck)else .stuck|_=>.stuck
theorem TR(hg:Gl X "min")(hm:X.mg "min"=Ze)(ha:dG V X [a] aa)(cm:∀A:bP,A.units+64<ky->ji V X A .Lt lt)(hs:ZH [a] X.env=[(Zl,a0 a X.env)])
  (J:Roo κ (k+2) X)(M:W.codeIn X.K X.env.code q=Zi)(hq:X.env.qual=q++".<locals>.")(bA:Q0 X.mg X.base)(hx:QK params=B x)(S:iD X.N X.env.scope.names x caps js scope)
  (O:∀f cd s' H',ah V (mn X X.A.in1 (x::caps) q scope f cd s' H') body m):
  ah V X (.Call (.Name "min" p) [a] [#[B "key",.Lambda params body scope lp,kp]] pos) (Xw lt q j js aa m):=λL s U H Y bF h Q E N K=>by
 have P:oY scope X.env=pure (b0 X.env.cells scope.names []):=wk λy hm hk=>N.inv.ok.has y.1<|.inl<|S.free y hm hk
 calc hV<|Qj N.inv hg hm rfl ?_;calc vv ?_ (by rw[hs];rfl) (by rw[hs];rfl) rfl rfl;refine(ha pos).run N K λxs h1 us s1 H1 U1 N1 n1 r1 C=>?_
 cases ej:h1[j]? with|none=>rw[ej]at C;show Zf C|some ob=>
  rw[ej]at C;cases ob with
  |tab R=>
   dsimp only at C;split at C
   .rename_i eq;subst eq;refine rF<|Zb<|A8 N1 ej M hq (Bc hx) P bA λf c pm D s2 H2 N2 n2 LC=>Zb<|jI<|Zj ?_
    calc vr ?_;have F:=Kont.more (pl:=[(f,gM R params body scope (b0 X.env.cells scope.names []) pm D c)])<|Kont.mono C n2;let#[vs,rv,qs]:=r1.mono n2;cases xs with|nil=>show Zf F|cons x t=>
     cases t with|cons _ _=>cases x<;>show Zf F|nil=>
      cases x with
      |ref i=>
       let#[w,rfl,ad,rfl,hav]:=qs.bQ;let#[u,rfl,ru]:=Qz rv;cases ru;refine TQ (G:=λH=>QC H R<|.ref c) (mk:=λv h'=>m (B v::js.map λj=>(bF[j]?).join) h') (λI=>I.cw J.c) (cm _ J.r.in1.units) ?_ (λH H' e g=>g.mono e.aO) N2 LC hav ?_
       .intro pl s4 H4 W4 h4 v u Q4 Z g4 ru4 K4;have pf:=Z.inv.pin (f,gM R params body scope (b0 X.env.cells scope.names []) pm D c)<|Zr _<|ZZ _<|Zr _<|Z8.mpr rfl;show A9 (A:=X.A.in1) N.inv.ok.frames J.r.in1 (Z.inv.cN J.c) Z pf.1 g4 hx S (O f<|.ref c) ru4 K4
       .show F
      |_=>show Zf F
   .show Zf C
  |_=>show Zf C
end
def cX:Tp->Tp->Bool|a::as,b::bs=>if a=b then cX as bs else decide (a<b)|_,_=>Zl
abbrev rX(l:Wl):Tv:=l.map λp=>.int p.1 p.2
section
open PySem.AutoSeq1 (wpAny_loadPart')
open PySem.MeetsSeq PySem.MeetsSeq2 PySem.MeetsSeq3 PySem.SeqRoads2
theorem TU(l b)(as bs)(hl:as.length=bs.length)(n n2)(dd dd2)(sl sl2):
  Meets (dz.«tuple.__lt__» #[[.ref l,.ref b],[]])
   (λA R s=>s.heap.get? l=B {cls:=.type "tuple",dict:=dd,data:=.seq (rX as).toArray n,slots:=sl}/\s.heap.get? b=B {cls:=.type "tuple",dict:=dd2,data:=.seq (rX bs).toArray n2,slots:=sl2} /\
    R (.ok (.ret (.bool (cX (as.map (·.1)) (bs.map (·.1)))))) s):=
 .of_wp λprog w A R s h=>by
  let#[M,g,d,L,os]:=s;let#[S,O,h]:=h;have W:=AutoSeq1.sub_tuple_tuple
  wp_walk using sf S,sf O,wpAny_forIn_list _ (λD b I=>b.1=Ze/\I=#[M,g,d,L,os]/\∃xs C:Wl,xs.length=C.length/\D=(rX xs).zip (rX C) /\
   R (.ok (.ret (.bool (cX (xs.map (·.1)) (C.map (·.1)))))) #[M,g,d,L,os]) _
  case turn=>
   rintro⟨y,x⟩ D b I ⟨F,rfl,xs,C,H,j,m⟩;match xs,C,H,j,m with
   |p::xs,q::C,H,j,m=>
    injection j with hyx hrest
    have V:=(congrArg Prod.fst hyx).symm;have P:=(congrArg Prod.snd hyx).symm;subst V P;calc Zb<|wpAny_eqBool_int ?_;by_cases e:p.1=q.1
    .rw[beq_iff_eq.mpr e]
     wp_walk
     show#[rfl,rfl,xs,C,by simpa using H,hrest,by simpa[cX,e]using m]
    .rw[beq_eq_false_iff_ne.mpr e];have J:=zC (prog:=prog) (w:=w) (A:=A.in1) (λi=>if i=0 then p.1 else q.1) λ_ _ q=>q
     have U:=λQ E s h=>by have:=J 0 1 (.int p.1 p.2) (.int q.1 q.2) s Q E #[p.2,03] #[q.2,03];show this h
     calc Zb<|jK<|Zb<|U _ _ _<|Zb<|Zj<|Zj<|Zj #[_,rfl,?_];simpa[cX,e]using m
   |[],C,H,j,m=>cases j
   |_::_,[],H,j,m=>cases j
  case fin=>
   rintro⟨Y,X⟩ I ⟨F,rfl,xs,C,H,j,m⟩;simp only at F;subst F;match xs,C,H,j,m with
   |[],[],_,_,m=>
    wp_walk
    show#[_,rfl,by simpa[Builtin.Tuple.tupleCompareSizes,hl,cX]using m]
   |_::_,_::_,_,j,_=>cases j
  case h=>show#[rfl,rfl,as,bs,hl,03,h]
end
theorem Bk:∀{us:Tv}{ns:Tp},fz us ns->∃l:Wl,us=rX l/\l.map (·.1)=ns|[],[],_=>#[[],rfl,rfl]|[],_::_,h=>by cases h|_::_,[],h=>by cases h|u::us,n::ns,h=>by cases h;rename_i t r;let#[l,e1,e2]:=Bk r;show#[(n,t)::l,by rw[e1];rfl,by rw[<-e2];rfl]
def jG:IV->IV->Ww|.tup xs,.tup ys=>(match JP xs,JP ys with|some as,B bs=>if as.length=bs.length then B (cX as bs)else Ze|_,_=>Ze)|_,_=>Ze
section
variable{V:aF}{X:Cx}
def TV(hu:A.units<ky)(N:az V X L Y bF h U H s)(r:RU X.K Y H k u)(rb:RU X.K Y H kb ub)(e:jG k kb=B b)(q:Q (.bool b) s):Zw (Zy X.prog X.w) A (uM .Lt u ub) Q E s:=by
 cases k with
 |tup xs=>
  cases kb with
  |tup ys=>
   let#[x,rx,a,vs,rfl,sa,ra]:=r;let#[y,ry,c,ws,rfl,sc,rc]:=rb;have ru:=rx;have P:=ry;subst ru P;unfold jG at e;dsimp only at e;cases C:JP xs with|none=>rw[C]at e;cases e|some as=>
    cases F:JP ys with|none=>rw[C,F]at e;cases e|some bs=>
     rw[C,F]at e;dsimp only at e;split at e
     .rename_i hl;cases e;let#[its,Z,#[#[cls,dd,S,sl],W,hc,n,hd],_]:=N.inv.tuple sa;let#[jts,v2,#[#[R,O,D,M],j,I,n2,J],_]:=N.inv.tuple sc;subst hc hd I J;let#[l,rfl,rfl]:=Bk<|Vq C ra Z;let#[m,rfl,rfl]:=Bk<|Vq F rc v2;show richCompare_meets_room #[_,W,rfl] #[_,j,rfl] PySem.F.slot_tuple_lt PySem.F.entry_tuple_lt (PySem.F.args_tuple_lt_2 _ _) (TU a c l m (by simpa using hl) n n2 dd O sl M) #[W,j,show rM (cX (l.map (·.1)) (m.map (·.1)))≠Value.notImplemented/\Q (.bool (cX (l.map (·.1)) (m.map (·.1)))) s from#[(λx=>nomatch x),q]] hu
     .cases e
  |_=>cases e
 |_=>cases e
theorem TX(j:A.units<ky):ji V X A .Lt jG:=λ_ _ _ _ _ _ s _ _ _ _ _ _ _ N r m e q=>TV j N r m e<|q s.heap s.toks λ_ _ e=>e
end
def Bl(h:aM)(wrs:Tu)(C:Z4)(k:Nat)(v:Zo)(ns:Tp):Prop:=∃a l,v=.ref a/\a∉wrs/\a≠C/\IsTup h a (rX l).toArray/\l.map (·.1)=ns/\l.length=k
def Bl.keeps(t:Bl h wrs C k v ns)(q:∀a o,a∉wrs->a≠C->h.get? a=B o->h'.get? a=B o):Bl h' wrs C k v ns:=by let#[a,l,e,n1,n2,#[o,m,r],j,D]:=t;show#[a,l,e,n1,n2,#[o,q a o n1 n2 m,r],j,D]
end L3
namespace L3
open PySem PySem.Spec PyProof.Rows L2 PySem.W
noncomputable def J6 {α:Type}(lt:Nat->Nat->Bool):KasT α->α|.ret a=>a|.ask i j k=>J6 lt<|k<|lt i j
def bN{α:Type}(n:Nat)(P:α->Prop):KasT α->Prop|.ret a=>P a|.ask i j k=>i<n/\j<n/\∀b,bN n P<|k b
theorem bN.mono{P j:α->Prop}(f:∀a,P a->j a):∀{t:KasT α},bN n P t->bN n j t|.ret _,h=>f _ h|.ask _ _ _,⟨h1,J,h3⟩=>#[h1,J,λb=>bN.mono f<|h3 b]
theorem bN.bind{P:α->Prop}(j:∀a,P a->bN n P' (f a)):∀{t:KasT α},bN n P t->bN n P' (t.bind f)|.ret _,h=>j _ h|.ask _ _ _,⟨h1,J,h3⟩=>#[h1,J,λb=>bN.bind j<|h3 b]
theorem bN.run:∀{t:KasT α},bN n P t->P (J6 lt t)|.ret _,h=>h|.ask i j k,⟨_,_,h⟩=>bN.run (t:=k<|lt i j)<|h<|lt i j
theorem bN.wp(m:∀i j,i<n->j<n->∀C:Bool->Zx->Prop,C (lt i j) s->cmp i j C s):∀{t:KasT α},bN n P t->Q (J6 lt t) s->t.kasWp cmp Q s|.ret _,_,q=>q|.ask i j k,⟨h1,J,h3⟩,q=>m i j h1 J _<|bN.wp m (h3<|lt i j) q
def Bd(n:Nat)(p:Tg):Prop:=0<n/\p.toList.Perm (ZK n)
def Bd.at(h:Bd n p)(i):p.getD i 0<n:=by
 by_cases Z:i<p.size
 .rw[sV,lX Z];have:p[i]∈p.toList:=03;show fx.mp<|h.2.mem_iff.mp this
 .rw[sV,zi<|ZO Z];show h.1
theorem Bm(h:Bd n p):∀f m,bN n (λ_=>True) (jA p f m)|0,_=>trivial|f+1,m=>#[h.at _,h.at _,λb=>by
   dsimp only;split
   .trivial
   .show Bm h f _]
theorem Bo(h:Bd n p)(k):∀f l r,bN n (λ_=>True) (pG p k f l r)
 |0,_,_=>trivial
 |f+1,l,r=>by
  unfold pG;split
  .trivial
  .show#[h.at _,h.at _,λb=>by
    dsimp only;split
    .show Bo h k f _ _
    .show Bo h k f _ _]
theorem Bd.perm(h:Bd n p)(r:q.Perm p):Bd n q:=#[h.1,(Array.perm_iff_toList_perm.mp r).trans h.2]
theorem Bd.rev(h:Bd n p)(i j):Bd n (i8 p i j):=h.perm<|mirror_perm _ _ _ _
theorem wI:∀f (p:Tg) m q,Bd n p->bN n (λr=>Bd n r.1) (pH f p m q)|0,_,_,_,h=>h|f+1,p,m,q,h=>#[h.at _,h.at _,λb=>by
   dsimp only;split
   .split
    .show wI f _ _ _<|h.rev _ _
    .show wI f _ _ _ h
   .show#[h.at _,h.at _,λd=>by
     dsimp only;split
     .show h
     .show wI f _ _ _ h]]
def GZ(h:Bd n p)(m r):bN n (λr=>Bd n r.2) (kas_tail3 m r p):=by calc bN.bind (λx _=>?_)<|Bm (h.rev _ _) _ _;show h.rev _ _
theorem G0(h:Bd n p)(m r):bN n (λr=>Bd n r.2) (vE m r p):=bN.bind (λx j=>by
  split
  .show GZ (j.rev _ _) _ _
  .show GZ j _ _) (wI _ _ _ _ h)
theorem TY(h:Bd n p)(r):bN n (λr=>Bd n r.2) (vF r p):=bN.bind (λm _=>by
  split
  .show h
  .split
   .show#[h.at _,h.at _,λb=>by
     dsimp only;split
     .show h
     .show G0 (h.rev _ _) _ _]
   .show G0 h _ _) (Bm h _ _)
theorem G2:∀f (p:Tg) k,Bd n p->bN n (Bd n) (kas_bin f p k)|0,_,_,h=>h|f+1,p,k,h=>bN.bind (λl _=>G2 f _ _<|h.perm<|bubble_perm _ _ _)<|Bo h k _ _ _
theorem G3(hn:0<n):bN n (Bd n) (ow n):=bN.bind (λr j=>by
  split
  .show G2 _ _ _ j
  .show j) (TY #[hn,rO _] n)
theorem G4(r:Vals vs us):∀p:Tq,(∀i∈p,i<vs.length)->Vals (p.map λi=>vs.getD i .ag) (p.map λi=>us.getD i dA)
 |[],_=>.nil
 |i::p,h=>by
  have Z:=h i<|Z7 ..;let#[u,D,m]:=r.get<|Zd Z;refine .cons ?_<|G4 r p λj C=>h j<|Zm _ C
  change L2.RelV (vs.getD i .ag)<|us.getD i dA;rw[Zv,Zv,Zd Z,D];show m
theorem G5{K:W.Frag}(r:aw K Y H xs vs):∀p:Tq,(∀i∈p,i<xs.length)->aw K Y H (p.map λi=>xs.getD i .ag) (p.map λi=>vs.getD i .ag)
 |[],_=>rfl
 |i::p,h=>by have Z:=h i<|Z7 ..;let#[v,ev,C]:=r.get<|Zd Z;calc#[_,_,rfl,?_,G5 r p λj m=>h j<|Zm _ m];change RV K Y H (xs.getD i .ag)<|vs.getD i .ag;rw[Zv,Zv,Zd Z,ev];show C
theorem X1:∀(t:KasT α),J6 lt (t.bind f)=J6 lt (f<|J6 lt t)|.ret _=>rfl|.ask i j k=>X1<|k<|lt i j
section
variable{kf:Nat->Int}{p:Tg}{n i j:Nat}
abbrev dj(kf:Nat->Int)(i j:Nat):Bool:=decide (kf i<kf j)
def bc(kf:Nat->Int)(p:Tg)(i:Nat):Int:=kf<|p.getD i 0
def jW(kf:Nat->Int)(p:Tg)(n:Nat):Prop:=∀i j,i<=j->j<n->bc kf p i<=bc kf p j
def rY(kf:Nat->Int)(p:Tg)(n:Nat):Prop:=∀i j,i<=j->j<n->bc kf p j<=bc kf p i
def Yw(h:p[i]?=q[j]?):bc kf p i=bc kf q j:=by unfold bc;rw[sV,sV,h]
def Bp(C:j<=p.size)(m):bc kf (i8 p i j) m=if i<=m/\m<j then bc kf p (i+j-1-m)else bc kf p m:=by
 have e:=getElem?_mirror_all (i:=i) C m;split at e
 .rename_i c;rw[if_pos c];show Yw e
 .rename_i c;rw[if_neg c];show Yw e
def G6(hs:k<p.size)(hd:d<=k)(m):bc kf (bubble p k d) m=if m=k-d then bc kf p k else if k-d<m/\m<=k then bc kf p (m-1)else bc kf p m:=by
 have e:=getElem?_bubble hs d hd m;split at e
 .rename_i c;rw[if_pos c];show Yw e
 .rename_i c;rw[if_neg c];split at e
  .rename_i c;rw[if_pos c];show Yw e
  .rename_i c;rw[if_neg c];show Yw e
def Bq(C:j<=p.size)(h:∀m,i<=m->m<j->bc kf p m=bc kf p (j-1))(m):bc kf (i8 p i j) m=bc kf p m:=by
 rw[Bp C];split
 .rw[h _ 00 00,h m 05 05]
 .rfl
theorem jW.succ(h:jW kf p n)(h1:1<=n)(q:bc kf p (n-1)<=bc kf p n):jW kf p (n+1):=λi j m D=>by
 by_cases e:j<n
 .show h i j m e
 .obtain rfl:j=n:=gf (qZ (b:=1) D)<|ZO e;by_cases C:i=j
  .subst C;show ZJ _
  .show eN (h i (j-1) (qZ (b:=1)<|Zc (ju m C)<|uU<|Zk _)<|sH _ _ 06) q
theorem rY.succ(h:rY kf p n)(h1:1<=n)(q:bc kf p n<=bc kf p (n-1)):rY kf p (n+1):=λi j m D=>by
 by_cases e:j<n
 .show h i j m e
 .obtain rfl:j=n:=gf (qZ (b:=1) D)<|ZO e;by_cases C:i=j
  .subst C;show ZJ _
  .show eN q<|h i (j-1) (qZ (b:=1)<|Zc (ju m C)<|uU<|Zk _)<|sH _ _ 06
theorem Br:∀(f n:Nat),1<=n->jW kf p n->n<=J6 (dj kf) (jA p f n)/\J6 (dj kf) (jA p f n)<=n+f/\jW kf p (J6 (dj kf)<|jA p f n)/\(J6 (dj kf) (jA p f n)=n+f\/bc kf p (J6 (dj kf)<|jA p f n)<bc kf p (J6 (dj kf) (jA p f n)-1))
 |0,n,_,h=>#[Zk _,Zk _,h,.inl rfl]
 |f+1,n,h1,h=>by
  change n<=J6 (dj kf) (if decide (bc kf p n<bc kf p (n-1))=Zi then .ret n else jA p f (n+1))/\_;have e:J6 (dj kf) (jA p (f+1) n)=J6 (dj kf) (if decide (bc kf p n<bc kf p (n-1))=Zi then .ret n else jA p f (n+1)):=rfl;rw[e];split
  .rename_i c;show#[Zk _,by change n<=_;show Zq _ _,h,.inr<|of_decide_eq_true c]
  .rename_i c;have c:¬bc kf p n<bc kf p (n-1):=by simpa using c
   let#[a,b,d,g]:=Br f (n+1) (gZ _)<|h.succ h1<|hi.mp c;show#[ZC a,05,d,g.imp (λz=>05) id]
structure Dn(kf:Nat->Int)(p:Tg)(n q:Nat):Prop where
 f:rY kf p n
 q1:q+1<=n
 e:∀m,n-(q+1)<=m->m<n->bc kf p m=bc kf p (n-1)
theorem wJ:∀(f:Nat)(p:Tg)(n q:Nat),p.size=z->n+f<=z->Dn kf p n q->∀r,J6 (dj kf) (pH f p n q)=r->r.1.size=z/\n<=r.2.1/\r.2.1<=n+f/\Dn kf r.1 r.2.1 r.2.2
 |0,p,n,q,hz,hf,d,r,e=>by subst e;show#[hz,Zk _,Zk _,d]
 |f+1,p,n,q,hz,hf,d,r,e=>by
  have S:=d.q1;have I:J6 (dj kf) (if decide (bc kf p n<bc kf p (n-1))=Zi then(if q>0 then pH f (i8 p (n-(q+1)) n) (n+1) 0 else pH f p (n+1) 0)
   else .ask (p.getD (n-1) 0) (p.getD n 0) λd=>if d=Zi then .ret (p,n,q)else pH f p (n+1) (q+1))=r:=e
  split at I
  .rename_i c;have c:bc kf p n<bc kf p (n-1):=by simpa using c
   split at I
   .have C:=λm=>Bq (kf:=kf) (i:=n-(q+1)) (j:=n) (p:=p) (Zc (Zc (Zq _ _) hf)<|Zn hz.symm) d.e m
    have d2:Dn kf (i8 p (n-(q+1)) n) (n+1) 0:=by calc#[λi j M R=>?_,gZ _,λm O J=>by rw[show m=n+1-1 by lia]];rw[C,C];show d.f.succ (o7 06) (ZV c) i j M R
    let#[H,F,Q,E]:=wJ f _ (n+1) 0 ((rK _ _ _ _).trans hz) 05 d2 r I;show#[H,ZC F,05,E]
   .have d2:Dn kf p (n+1) 0:=#[d.f.succ (o7 06)<|ZV c,gZ _,λm O J=>by rw[show m=n+1-1 by lia]];let#[H,F,Q,E]:=wJ f _ (n+1) 0 hz 05 d2 r I;show#[H,ZC F,05,E]
  .rename_i c;have c:¬bc kf p n<bc kf p (n-1):=by simpa using c
   have D:J6 (dj kf) (if decide (bc kf p (n-1)<bc kf p n)=Zi then .ret (p,n,q)else pH f p (n+1) (q+1))=r:=I;split at D
   .subst D;show#[hz,Zk _,by change n<=_;show Zq _ _,d]
   .rename_i L;have L:¬bc kf p (n-1)<bc kf p n:=by simpa using L
    have d2:Dn kf p (n+1) (q+1):=by
     calc#[d.f.succ (o7 06)<|hi.mp L,rf 06,λm O J=>?_];by_cases P:m=n
     .subst P;rfl
     .rw[d.e m 05<|ju (qZ (b:=1) J) P];change _=bc kf p n;show zf (hi.mp c)<|hi.mp L
    let#[H,F,Q,E]:=wJ f _ (n+1) (q+1) hz 05 d2 r D;show#[H,ZC F,05,E]
def G7(h1:1<=m)(hm:m<=r)(E:r<=p.size)(h:rY kf p m):∀x,J6 (dj kf) (kas_tail3 m r p)=x->x.2.size=p.size/\1<=x.1/\x.1<=r/\jW kf x.2 x.1:=by
 intro x e;have e:J6 (dj kf) ((jA (i8 p 0 m) (r-m) m).bind λk=>.ret (k,i8 p 0 m))=x:=e;rw[X1]at e;have F:jW kf (i8 p 0 m) m:=λi j C D=>by rw[Bp<|Zc hm E,Bp<|Zc hm E,if_pos<|#[(ZF _),(Zc (Zh C 1) D)],if_pos<|#[(ZF _),D]];show h _ _ (Nat.sub_le_sub_left C _)<|by(rw[mI];show Zc (Zh (nQ _ _) 1)<|Zn<|o5 h1)
 let#[a,b,c,_]:=Br (r-m) m h1 F;subst e;show#[rK _ _ _ _,by change 1<=J6 (dj kf) (jA (i8 p 0 m) (r-m) m);show Zc h1 a,by change J6 (dj kf) (jA (i8 p 0 m) (r-m) m)<=r;show Zc b<|kh hm<|Zk _,c]
def G8(hm:m+1<=r)(F:r<=p.size)(h:rY kf p<|m+1):∀x,J6 (dj kf) (vE m r p)=x->x.2.size=p.size/\1<=x.1/\x.1<=r/\jW kf x.2 x.1:=by
 intro x e;unfold vE at e;rw[X1]at e;let#[D,M,H,E]:=wJ (z:=p.size) (r-(m+1)) p (m+1) 0 rfl (Zc (kh hm<|Zk _) F) #[h,gZ _,λk O J=>by rw[show k=m+1-1 by lia]] _ rfl;generalize J6 (dj kf) (pH (r-(m+1)) p (m+1) 0)=y at D M H E e;have q1:=E.q1;split at e
 .have C:=λk=>Bq (kf:=kf) (i:=y.2.1-(y.2.2+1)) (j:=y.2.1) (p:=y.1) (Zc (Zc (Zc H<|kh hm<|Zk _) F)<|Zn D.symm) E.e k
  have:=G7 (m:=y.2.1) (r:=r) (p:=i8 y.1 (y.2.1-(y.2.2+1)) y.2.1) (o7 06) (Zc H<|kh hm<|Zk _) (by change r<=(mirror _ _ _ _).size;rw[rK];show Zc F<|Zn D.symm) (λi j I L=>by rw[C,C];show E.f i j I L) x e;rw[show(i8 y.1 (y.2.1-(y.2.2+1)) y.2.1).size=y.1.size from rK _ _ _ _,D]at this;show this
 .have:=G7 (m:=y.2.1) (r:=r) (p:=y.1) (o7 06) (Zc H<|kh hm<|Zk _) (Zc F<|Zn D.symm) E.f x e;rw[D]at this;show this
def TZ(h1:1<=r)(I:r<=p.size):∀x,J6 (dj kf) (vF r p)=x->x.2.size=p.size/\1<=x.1/\x.1<=r/\jW kf x.2 x.1:=by
 intro x e;unfold vF at e;rw[X1]at e;let#[a,b,c,d]:=Br (kf:=kf) (p:=p) (r-1) 1 (Zk _) (λi j C F=>by
  obtain rfl:j=0:=by show sG 06
  obtain rfl:i=0:=by show gf C<|ZF _
  show ZJ _)
 generalize J6 (dj kf) (jA p (r-1) 1)=n at a b c d e;split at e
 .subst e;show#[rfl,a,by change n<=r;show Zc b<|kh h1<|Zk _,c]
 .rename_i hn;have hn:n≠r:=by simpa using hn
  have dn:bc kf p n<bc kf p (n-1):=d.resolve_left<|by show Z1<|Zc (ju (Zc b<|kh h1<|Zk _) hn)<|Zn (q7 h1).symm
  split at e
  .have J:J6 (dj kf) (if decide (bc kf p 0<bc kf p (n-1))=Zi then .ret (n,p)else vE n r (i8 p 0 n))=x:=e;split at J
   .subst J;show#[rfl,a,by change n<=r;show ZC<|ju (Zc b<|kh h1<|Zk _) hn,c]
   .rename_i H;have H:¬bc kf p 0<bc kf p (n-1):=by simpa using H
    have E:∀m,0<=m->m<n->bc kf p m=bc kf p (n-1):=λm _ hm=>by
     have:=c 0 m 06 hm;have:=c m (n-1) (by show yL 06)<|by show sH _ _ 06
     show zf this<|eN (hi.mp H) 06
    have D:=λk=>Bq (kf:=kf) (i:=0) (j:=n) (p:=p) (by show ZC<|Zc (ju (Zc b<|kh h1<|Zk _) hn) I) E k
    have:=G8 (m:=n) (r:=r) (p:=i8 p 0 n) (by show ju (Zc b<|kh h1<|Zk _) hn) (by change r<=(mirror _ _ _ _).size;rw[rK];show I) (λi j C F=>by
     rw[D,D];by_cases L:j<n
     .rw[E i (by show ZF _) (by show ki 06 06),E j (by show ZF _) L];show ZJ _
     .obtain rfl:j=n:=by show gf (qZ (b:=1) F)<|ZO L
      by_cases M:i=j
      .subst M;show ZJ _
      .rw[E i (by show ZF _)<|by show ju C M];show ZV dn) x J
    rw[show(i8 p 0 n).size=p.size from rK _ _ _ _]at this;show this
  .obtain rfl:n=1:=by show gf (ZO 06) a
   calc G8 (m:=1) (r:=r) (p:=p) (by show ju h1 hn) I (λi j C F=>?_) x e;have dn:bc kf p 1<bc kf p 0:=dn;match i,j with|0,0=>show ZJ _|0,1=>show ZV dn|1,1=>show ZJ _|_,j+2=>lia|i+2,_=>lia|1,0=>show absurd 06<|i3 _
theorem Bt(h:jW kf p k):∀(f l r:Nat),r<=k->l<=r->r-l<=f->(∀i,i<l->bc kf p i<=bc kf p k)->(∀i,r<=i->i<k->bc kf p k<bc kf p i)->∀x,J6 (dj kf) (pG p k f l r)=x->x<=k/\(∀i,i<x->bc kf p i<=bc kf p k)/\∀i,x<=i->i<k->bc kf p k<bc kf p i
 |0,l,r,hr,hl,hf,h1,J,x,e=>by obtain rfl:l=r:=05;subst e;show#[hr,h1,J]
 |f+1,l,r,hr,hl,hf,h1,J,x,e=>by
  unfold pG at e;split at e
  .obtain rfl:l=r:=gf hl 06;subst e;show#[hr,h1,J]
  .have j:J6 (dj kf) (if decide (bc kf p k<bc kf p ((l+r)/2))=Zi then pG p k f l ((l+r)/2)else pG p k f ((l+r)/2+1) r)=x:=e;split at j
   .rename_i c;have c:bc kf p k<bc kf p ((l+r)/2):=by simpa using c
    show Bt h f _ _ 05 05 05 h1 (λi a b=>jy c<|h _ _ a b) x j
   .rename_i c;have c:¬bc kf p k<bc kf p ((l+r)/2):=by simpa using c
    show Bt h f _ _ hr 05 00 (λi a=>eN (h i _ (show i<=(l+r)/2 by show yL 06) 05)<|hi.mp c) J x j
theorem G9:∀(f:Nat)(p:Tg)(k:Nat),k+f<=p.size->jW kf p k->∀x,J6 (dj kf) (kas_bin f p k)=x->jW kf x (k+f)
 |0,p,k,_,h,x,e=>by subst e;show h
 |f+1,p,k,hk,h,x,e=>by
  unfold kas_bin at e;rw[X1]at e;let#[a,b,c]:=Bt h k 0 k (Zk _) (ZF _) (Zk _) (λi q=>absurd 06<|rj _) (λi q r=>absurd 06<|yM 06) _ rfl;generalize J6 (dj kf) (pG p k k 0 k)=l at a b c e;have:=G9 f (bubble p k<|k-l) (k+1) (by rw[bubble_size];lia) (λi j m D=>by
   have C:k-(k-l)=l:=Nat.sub_sub_self 06;rw[G6 (ki (Zq _ _) 06)<|nQ _ _,G6 (ki (Zq _ _) 06)<|nQ _ _,C];split
   .rename_i E;split
    .show ZJ _
    .split
     .show ZV<|c _ 05 00
     .lia
   .split
    .rename_i n1 y;split
     .lia
     .split
      .show h _ _ (Nat.sub_le_of_le_add<|Zc m<|uU<|Zk _) 00
      .lia
    .split
     .show b i<|ju (Zc m<|Zn 06) 06
     .split
      .show h _ _ 05 05
      .show h _ _ m 05) x e
  rwa [show k+(f+1)=k+1+f by lia]
def T2(hn:0<n):jW kf (J6 (dj kf)<|ow n) n:=by
 unfold ow;rw[X1];have j:(ba<|ZK n).size=n:=03;let#[a,b,c,d]:=TZ (kf:=kf) (p:=ba<|ZK n) (r:=n) (hn) (by rw[j];show Zk _) _ rfl;generalize J6 (dj kf) (vF n<|ba<|ZK n)=y at a b c d;rw[j]at a;split
 .have m:max y.1 1=y.1:=gf (Nat.max_le.mpr #[(Zk _),b])<|Nat.le_max_left _ _;rw[m];have:=G9 (kf:=kf) (n-y.1) y.2 y.1 (Zc (kh (ZC 06)<|Zk _)<|Zn a.symm) d _ rfl;rwa [show y.1+(n-y.1)=n by show q7 06]at this
 .obtain e:y.1=n:=gf c<|ZO 06;rw[<-e];show d
end
def cR(ks:Tp)(n:Nat):Tq:=(J6 (dj λi=>ks.getD i 0)<|ow n).toList
theorem Hb(ks)(hn:0<n):(cR ks n).Perm (ZK n):=((G3 hn).run).2
theorem wK(ks):cR ks 0=[]:=rfl
theorem Bu(ks):∀n:Nat,(cR ks n).Perm (ZK n)|0=>by rw[wK];show .refl _|n+1=>Hb ks<|gZ n
theorem Y2(ks):∀i∈cR ks n,i<n:=λ_ Z=>fx.mp<|(Bu ks n).mem_iff.mp Z
theorem He(ks)(n):(cR ks n).length=n:=(Bu ks n).length_eq.trans ph
def T3(ks)(n):(cR ks n).Pairwise λi j=>ks.getD i 0<=ks.getD j 0:=by
 rcases Nat.eq_zero_or_pos n with e|e
 .subst e;rw[wK];show .nil
 .have r:=T2 (kf:=λi=>ks.getD i 0) e;have l:=He ks n;rw[EJ];intro i j Z E D;have:=r i j (ZC D)<|sI 06 06;have g:∀(m:Nat)(hm:m<(cR ks n).length),(J6 (dj λi=>ks.getD i 0)<|ow n).getD m 0=(cR ks n)[m]:=λm hm=>by
   have C:m<(J6 (dj λi=>ks.getD i 0)<|ow n).size:=by rw[<-iV];show hm
   rw[sV,lX C];rfl
  unfold bc at this;rw[g i Z,g j E]at this;show this
def T4(I:Inv X L U H s)(k:∀b u,b≠it->s.heap.get? b=B u->h'.get? b=B u)(F:aB X L H it)(new:JT X.prog X.w (upd H it o) h' it o):
  Inv X L U (upd H it o) {s with heap:=h',toks:=t'}:=by
 let#[hn,D,_,Q,J,P]:=F;have j:∀b u,H b=B u->b≠it:=λb u e z=>by rw[z,hn]at e;cases e
 refine I.step (ch:=[it]) (λb O=>?_) (λb o _ _ C e _=>k b o (λz=>C<|by simp[z]) e) (λb o _ _ C e _=>#[o.slots,k b o (λz=>C<|by simp[z]) e]) (λb o C _ n=>by rw[Jp λz=>C<|by simp[z]];show n)
  (λb o C e=>#[o,k b o (λz=>C<|by simp[z]) e]) (λb _ e=>by rw[Jp<|j b _ e];show e) (λb _ _ e=>by rw[Jp<|j b _ e];show e) (λb ps e=>#[#[],by rw[Jp<|j b _ e,e];simp]) (λm hm=>?_) (λb u e=>?_) I.bare
 .have e:b=it:=by simpa using O
  subst e;show#[Q,D,J,P]
 .let#[o,M,E,R,r]:=hm;show#[o,M,E,k _ o (ZP D) R,r]
 .by_cases O:b=it
  .subst O;rw[Jx]at e;cases e;show new
  .rw[Jp O]at e;refine(I.au b u e).eS (λc v C q=>k c v ?_ q) (λc q=>by rw[Jp<|j c _ q];show q) λc _ q=>by rw[Jp<|j c _ q];show q
   rcases C with z|z
   .rw[z];show O
   .show j c _ z
def QJ(mk:IV->IH->Res IV):Tw->Tp->IH->Res (Tp)|[],ks,h=>.ok ks h|y::r,ks,h=>(mk y h).nx.bind λk h'=>match k with|.int n=>QJ mk r (ks++[n]) h'|_=>.stuck
def Y9(ys:Tw)(ks:Tp)(h:IH):Res IV:=.ok (.ref h.length)<|h++[.lst ((cR ks ys.length).map λi=>ys.getD i .ag).reverse]
def XE(ys:Tw)(ks:Tp)(h:IH):Res IV:=Y9 ys.reverse ks.reverse h
section
variable{V:aF}{X:Cx}
section
variable{A:bP}{Q E:aH}{P:PySem.Fin->Zx->Prop}{L:aQ}{bF:aA}{U:L2.St}{G:Hp->Prop}{fq D kS:Z4}{mk:IV->IH->Res IV}{ys:Tw}{ws:Uc}{its:Tv}{ks:Tp}{e e1:Nat}{H:Hp}{Y:Tu}{h:IH}{s:Zx}
def Hf{st:SortSt}(N:az V X L Y bF h U H s)(F:aB X L H D)(fK:aB X L H kS)(O:D≠kS)(gD:s.heap.get? D=B (bf "list" #[] e1))(gK:s.heap.get? kS=B (bf "list" kA e))(hz:kA.size<64) (R:Vals ws its)(W:aw X.K Y H ys ws)(C:ys.length<64)(m:(arrOf st).map (·.2)=ba ((cR ks ys.length).map λi=>its.getD i dA))(hf:failedOf st=Ze)(hP:∀s',Q (.ref D) s'->P (.done<|.ret .none) s')(K:Kont V X RU L Y bF U H (Y9 ys ks h) Q E):Zw (Zy X.prog X.w) A (ksk_tail D Zi e1 (.ref kS) st) P E s:=by
 have lo:=He ks ys.length;have lt:=Y2 ks (n:=ys.length);have l1:=W.length;have l2:=R.length;have v:=(G4 R (cR ks ys.length) λi Z=>by have:=lt i Z;show Zc this<|Zn l1.symm).reverse;have I:((cR ks ys.length).map λi=>its.getD i dA).reverse.length=ys.length:=by rw[jw,Zp,lo]
 unfold ksk_tail;dsimp only;rw[m,if_pos rfl,List.reverse_toArray];generalize ((cR ks ys.length).map λi=>its.getD i dA).reverse=J at v I;calc Zb (rJ gK rfl ?_ (by rw[iM];show Zc (ZC hz)<|Zq _ 16777152) (ZF _));have M:∀b u,b≠kS->s.heap.get? b=B u->(s.heap.update kS<|dq λ_=>(#[]:Ti)).get? b=B u:=λb u nb q=>(Z3 _ _<|ZP nb).trans q
 generalize s.heap.update kS (dq λ_=>(#[]:Ti))=UU at M;have j:=M D _ O gD;have S:=N.turned (h':=UU) (t':=s.toks) fK M;calc Zb<|kx ?_;calc Zb<|seqEpoch_at j rfl ?_;calc Zb (rJ j rfl ?_ (ZF _) (by rw[ZI,iM];show Zc (ZC<|Zc (Zh (Zn I) 1) C)<|Zq _ 16777153));rw[hf];simp![bne_self_eq_false,lT,if_false];calc Zj<|hP _ ?_;have hc:=mO j λ_=>J.toArray
 have I':=T4 S.inv (o:=.lst ((cR ks ys.length).map λi=>ws.getD i bB.ag).reverse) (h':=UU.update D<|dq λ_=>J.toArray) (t':=s.toks) (λb u nb q=>(Z3 _ _<|ZP nb).trans q) F #[by rw[v.length,iM];show Zc (ZC<|Zc (Zh (Zn I) 1) C)<|Zq _ 16777152,J,_,v,hc];show eY S K D F.1 #[_,Jx,aw.new F.1 (G5 W _ lt).rev] _ _ I' rfl
def T5(vs)(ks)(h:vs.length<2):(cR ks vs.length).map (λi=>vs.getD i dA)=vs:=by
 rcases vs with _|⟨v,_|⟨w,r⟩⟩
 .rw[List.length_nil,wK];rfl
 .rw[show cR ks [v].length=[0]from List.perm_singleton.mp<|Bu ks 1];rfl
 .show absurd h 03
def T6(N:az V X L Y bF h U H s)(fD:aB X L H D)(fK:aB X L H kS)(R:D≠kS)(gD:s.heap.get? D=B (bf "list" #[] e1))(gK:s.heap.get? kS=B (bf "list" kA e))(hk:fz kA.toList ks)(lk:ks.length=ys.length)
  (rv:Vals ws its)(r3:aw X.K Y H ys ws)(h64:ys.length<64)(hP:∀s',Q (.ref D) s'->P (.done<|.ret .none) s')(K:Kont V X RU L Y bF U H (XE ys ks h) Q E):
  Zw (Zy X.prog X.w) A (ksk_end D Zi its.toArray e1 (.ref kS) kA) P E s:=by
 have l1:=r3.length;have l2:=rv.length;have l3:=hk.length;have F:kA.size=its.length:=by rw[<-iV];lia
 unfold ksk_end;dsimp only;rw[if_pos rfl];calc Zb<|jK ?_;have ez:(kA.zip its.toArray).reverse=kA.toList.reverse.toArray.zip its.reverse.toArray:=by apply Array.toList_inj.mp;rw[Array.toList_reverse,Array.toList_zip,Array.toList_zip];show List.reverse_zipWith<|by simpa using F
 rw[if_pos rfl,ez,ZI];have I:=rv.reverse;have S:=r3.rev;have O:=hk.reverse;have K:Kont V X RU L Y bF U H (Y9 ys.reverse ks.reverse h) Q E:=K;have W:ys.reverse.length=its.length:=by rw[jw];lia
 have M:ks.reverse.length=its.length:=by rw[jw];lia
 have l4:kA.toList.reverse.length=its.length:=by rw[jw,iV,F]
 have l5:its.length<64:=Zc (Zc (Zh (Zn l2.symm) 1)<|Zh (Zn l1) 1) h64;rw[<-jw (as:=its)]at F W M l4 l5 ⊢;by_cases J:its.reverse.length<2
 .rw[if_pos J,if_pos J];calc Zb<|Zj ?_;rw[StateT.run_pure];calc Zb<|Zj ?_;dsimp only;calc Hf N fD fK R gD gK (Zc (Zc (Zh (Zn F) 1) J)<|Zq _ 62) I S (Zc (Zc (Zh (Zn W) 1) J)<|Zq _ 62) ?_ rfl hP K;generalize its.reverse=its at *;have e1:(arrOf<|SortSt.mk' general' (kA.toList.reverse.toArray.zip its.toArray) #[] 7 Ze).map (·.2)=its.toArray:=by apply Array.toList_inj.mp;change((kA.toList.reverse.toArray.zip its.toArray).map (·.2)).toList=_;rw[Array.toList_map,ksk_zip];show List.map_snd_zip<|by rw[List.toList_toArray];show Zn l4.symm
  rw[e1,W];show congrArg ba (T5 its _<|J).symm
 .rw[if_neg J,if_neg J,ksk_kind hk<|Zc (ZO J)<|Zn F.symm];calc Zb<|Zj ?_;generalize its.reverse=its at *;generalize kA.toList.reverse=kl at *;generalize ks.reverse=ks at *;have sp:=G3 (n:=its.length)<|ZC<|ZO J;refine Zb (c6 (kat_run (ks:=kl) (vs:=its) (Q:=λm s'=>s'=s/\failedOf m=Ze/\arrOf m=(J6 (dj λi=>ks.getD i 0)<|ow its.length).map (kas_item<|kl.toArray.zip its.toArray)) (G:=λp s'=>s'=s/\p=J6 (dj λi=>ks.getD i 0) (ow its.length)) l4 (ZO J) (l5)
   (λp m s' a1 a2 a3 a4=>#[a4.1,a3,a4.2▸a2]) (bN.wp (n:=its.length) (lt:=dj λi=>ks.getD i 0) (λi j Z hj C hC=>?_) sp #[rfl,rfl])) ?_ λ_ _ e=>e)
  .unfold kas_ask;let#[t1,e1]:=O.get i _ (Zd<|show i<ks.length by show Zc Z<|Zn M.symm);let#[t2,e2]:=O.get j _ (Zd<|show j<ks.length by lia);rw[Zv,Zv,e1,e2];calc kat_lt_int ?_;have hC:C (decide (ks.getD i 0<ks.getD j 0)) s:=hC;rw[Zv,Zv,Zd (show i<ks.length by lia),Zd<|show j<ks.length by lia]at hC;show hC
  .rintro⟨⟨⟩,m⟩ s' ⟨rfl,hfl,har⟩;dsimp only;calc Hf N fD fK R gD gK (Zc (Zh (Zn F) 1) l5) I S (Zc (Zh (Zn W) 1) l5) ?_ hfl hP K;rw[kat_snds (ks:=kl) (vs:=its) l4 har,W];rfl
def T7(ko:Xq V X A bF U L G (.ref fq) mk)(hG:∀H H',Ext H H'->G H->G H')(N:az V X L Y bF h U H s)(g:G H)(fD:aB X L H D)(fK:aB X L H kS)(O:D≠kS)(gD:s.heap.get? D=B (bf "list" #[] e1))(gK:s.heap.get? kS=B (bf "list" #[] 0)) (rv:Vals ws its)(r3:aw X.K Y H ys ws)(R:ys.length<64)(hP:∀s',Q (.ref D) s'->P (.done<|.ret .none) s')(K:Kont V X RU L Y bF U H ((QJ mk ys [] h).bind<|XE ys) Q E):Zw (Zy X.prog X.w) A (ksk_rest D (.ref fq) Zi its.toArray e1<|.ref kS) P E s:=by
 have l1:=r3.length;have l2:=rv.length;unfold ksk_rest;calc Zb<|jK ?_;rw[List.forIn_toArray];calc Zb (ksk_fold (λj s'=>∃H' Z h' S F e,az V X L Z bF h' U H' s'/\G H'/\aU Y H Z H'/\s'.heap.get? D=B (bf "list" #[] e1)/\s'.heap.get? kS=B (bf "list" F e)/\fz F.toList S/\S.length=j/\H' D=Ze/\H' kS=Ze/\Kont V X RU L Z bF U H' ((QJ mk (ys.drop j) S h').bind<|XE ys) Q E) its 0 s #[H,Y,h,[],#[],0,N,g,.refl,gD,gK,.nil,rfl,fD.1,fK.1,K] ?step ?done);case step=>
  rintro j x s' hx ⟨H',Z,h',S,F,e,N',g',n',W,I,hk,m,J,M,C⟩;simp![yN]at m C ⊢;have fD':=aB.at fD J;have fK':=aB.at fK M;let#[xv,ex,rx]:=Ba rv hx;let#[yv,eyv,qy]:=(r3.mono n').get' ex;have hj:j<ys.length:=(Zu.mp eyv).1;have ed:ys.drop j=yv::ys.drop (j+1):=by rw[pb hj,(Zu.mp eyv).2]
  rw[ed]at C;have C:Kont V X RU L Z bF U H' (((mk yv h').nx.bind λk h''=>match k with|.int n=>QJ mk (ys.drop<|j+1) (S++[n]) h''|_=>.stuck).bind<|XE ys) Q E:=C;rw[Res.c9]at C;have hz:F.size=j:=by rw[<-iV,hk.length,m]
  have N2:=(N'.gO I fK' λv z=>by cases z).gO W (aB.more (p:=(kS,bf "list" F e)) fD'<|ZP O) λv z=>by cases z
  rw[hX]at N2;refine Zb<|nD<|mY<|ko _ _ _ _ _ yv x _ N2 g' #[xv,rx,qy]<|Bb C λk h3 u s3 H3 U3 N3 n3 ru K3=>?_
  have pK:=N3.inv.pin (kS,bf "list" F e)<|Zr _<|Zr _ 03;have pD:=N3.inv.pin (D,bf "list" #[] e1)<|Zr _<|Zr _ 03;have N4:=N3.pins;cases k with
  |int n=>
   let#[v,rv',ev]:=ru;have ev:v=.int n:=ev;subst ev;let#[t,rfl]:=rv';try dsimp only
   calc Zb (rJ pK.1 rfl ?_ (by rw[iM];show Zc (Zc (Zq _ 2)<|Zc (Zh (Zc (Zh (Zn hz) 1) hj) 1) R)<|Zq _ 16777152) (Zc (Zn<|Array.size_push ..)<|by rw[iM];show Zc (ZC<|Zc (Zh (Zc (Zh (Zn hz) 1) hj) 1) R)<|Zq _ 16777153));obtain⟨c2,hc2⟩:∃c2,(s3.heap.update kS (dq (·.push (.int n t)))).get? kS=B (bf "list" (F.push<|.int n t) c2):=#[_,mO pK.1 (·.push (.int n t))];have s1:∀b u,b≠kS->s3.heap.get? b=B u->(s3.heap.update kS (dq (·.push (.int n t)))).get? b=B u:=λb u nb q=>(Z3 _ _<|ZP nb).trans q
   have N5:=N4.turned (h':=s3.heap.update kS (dq (·.push (.int n t)))) (t':=s3.toks) (aB.at fK pK.2.1) s1;calc Zj #[rfl,H3,U3,h3,S++[n],F.push<|.int n t,c2,N5,hG _ _ n3.ext g',n'.trans n3,s1 D _ O pD.1,hc2,by rw[zl];show ksk_snoc hk,by simp[m],pD.2.1,pK.2.1,K3]
  |_=>show Zf K3
 case done=>
  rintro s' ⟨H',Z,h',S,F,e,N',g',n',W,I,hk,m,J,M,C⟩;rw[yN]at m C;rw[List.drop_of_length_le<|Zc (Zn l1.symm)<|Zn l2]at C;try dsimp only
  calc Zb<|listItems_at I rfl ?_;show T6 N' (aB.at fD J) (aB.at fK M) O W I hk 05 rv (r3.mono n') R hP C
def T8(hkw:∀a,dz.«list.sort» #[[.ref a],kw]=ksk_tree a (.ref fq) Zi)(Z:∀a,jL "list.sort" #[[a],kw])(ko:Xq V X bA.in1 bF U L G (.ref fq) mk)(hG:∀H H',Ext H H'->G H->G H')(N:az V X L Y bF h U H s)(g:G H) (keep:∀b o,s.heap.get? b=B o->J.get? b=B o)(I:s.heap.objs.size<=J.objs.size)(W:Vals ws its)(r3:aw X.K Y H ys ws)(F:ys.length<64)(hP:∀D s',Q (.ref D) s'->P (.done<|.ret<|.ref D) s') (K:Kont V X RU L Y bF U H ((QJ mk ys [] h).bind<|XE ys) Q E):Zw (Zy X.prog X.w) bA (do let l<-newList its;let _<-jt [l] (call (.builtin "list.sort") [l] kw);ret l) P E {s with heap:=J,toks:=tk}:=by
 have l1:=r3.length;have l2:=W.length;calc Zb (oV ?_<|by rw[iM];show Zc (ZC<|Zc (Zh (Zc (Zn l2.symm)<|Zn l1) 1) F)<|Zq _ 16777152);have C:(J.push<|bf "list" its.toArray 0).get? J.objs.size=B (bf "list" its.toArray 0):=Zt _ rfl;have j:∀b o,s.heap.get? b=B o->(J.push<|bf "list" its.toArray 0).get? b=B o:=λb o q=>Zg _<|keep b o q
 have S:(J.push<|bf "list" its.toArray 0).objs.size=J.objs.size+1:=pE ..;change Zw _ _ _ _ _ {s with heap:=J.push<|bf "list" its.toArray 0,toks:=tk};generalize J.push (bf "list" its.toArray 0)=M at C j S;calc Zb<|ZT<|wpAny_call_entry_kw slot_list_sort #[_,C,rfl] entry_list_sort ?body<|Z _;case body=>
  change Zw (Zy X.prog X.w) bA.in1 (dz.«list.sort» #[[.ref J.objs.size],kw]) _ _ _;rw[hkw];unfold ksk_tree;calc Zb<|listItems_at C rfl ?_;calc Zb (rJ C rfl ?_ (by rw[ZI,iM];show Zc (ZC<|Zc (Zh (Zc (Zn l2.symm)<|Zn l1) 1) F)<|Zq _ 16777152) (ZF _));obtain⟨ep,R⟩:∃ep,(M.update J.objs.size<|dq λ_=>(#[]:Ti)).get? J.objs.size=B (bf "list" #[] ep):=#[_,mO C λ_=>#[]];calc Zb<|seqEpoch_at R rfl ?_;calc Zb (wpAny_newTuple ?_ (by change its.length<=_;rw[iM];show Zc (ZC<|Zc (Zh (Zc (Zn l2.symm)<|Zn l1) 1) F)<|Zq _ 16777152));calc Zb<|oV ?_<|ZF _;calc ZT ?_;have sz5:((M.update J.objs.size<|dq λ_=>(#[]:Ti)).push<|bf "tuple" its.toArray 0).objs.size=J.objs.size+2:=by rw[pE,Heap.size_update,S]
  obtain⟨O,m⟩:∃O,O=((M.update J.objs.size<|dq λ_=>(#[]:Ti)).push<|bf "tuple" its.toArray 0).objs.size:=#[_,rfl];have gK:(((M.update J.objs.size<|dq λ_=>(#[]:Ti)).push<|bf "tuple" its.toArray 0).push<|bf "list" #[] 0).get? O=B (bf "list" #[] 0):=by rw[m];show Zt _ rfl
  have gD:(((M.update J.objs.size<|dq λ_=>(#[]:Ti)).push<|bf "tuple" its.toArray 0).push<|bf "list" #[] 0).get? J.objs.size=B (bf "list" #[] ep):=Zg _<|Zg _ R;have old:∀b o,s.heap.get? b=B o->(((M.update J.objs.size<|dq λ_=>(#[]:Ti)).push<|bf "tuple" its.toArray 0).push<|bf "list" #[] 0).get? b=B o:=λb o q=>Zg _<|Zg _<|(Z3 _ _<|d0<|ZD (Z0 q) I).trans<|j b o q
  rw[<-m];rw[sz5]at m;have fD:aB X L H J.objs.size:=N.inv.df I<|N.inv.au.fresh I;have le:s.heap.objs.size<=O:=by rw[m];show Zc I<|Zq _ _
  have fK:aB X L H O:=N.inv.df le<|N.inv.au.fresh le;show T7 ko hG (N.jF (t':=tk) old) g fD fK (by rw[m];show Z1<|Nat.lt_add_of_pos_right 01) gD gK W r3 F (λs' q=>#[_,rfl,Zj<|hP _ _ q]) K
end
end
end L3
namespace L3
open PySem PySem.Spec PyProof.Rows L2
abbrev eG(xs:Tg):Prop:=xs.toList.Pairwise (· < ·)
section
variable{xs:Tg}{j:Nat}
def eG.get(r:eG xs)(h:i<k)(j:k<xs.size):xs.getD i 0<xs.getD k 0:=by have:=EJ.mp r i k (by simp;show rl 06 06) (by simpa using j) h;simpa[j,rl h j]using this
def eG.le(r:eG xs)(h:i<=k)(j:k<xs.size):xs.getD i 0<=xs.getD k 0:=by
 rcases Nat.eq_or_lt_of_le h with e|e
 .lia
 .show ZC<|r.get e j
theorem Bv(r:eG xs):∀(f lo Z:Nat),lo<=Z->Z<=xs.size->Z-lo<=f->(∀i,i<lo->xs.getD i 0<j)->(∀i,Z<=i->i<xs.size->j<=xs.getD i 0)->∀x,SetTable.below.go xs j f lo Z=x->x<=xs.size/\(∀i,i<x->xs.getD i 0<j)/\∀i,x<=i->i<xs.size->j<=xs.getD i 0
 |0,lo,Z,h1,J,h3,a,b,x,e=>by obtain rfl:lo=Z:=05;subst e;show#[J,a,b]
 |f+1,lo,Z,h1,J,h3,a,b,x,e=>by
  unfold SetTable.below.go at e;split at e
  .rename_i C;have hm:(lo+Z)/2<xs.size:=05;have gd:xs.getD ((lo+Z)/2) j=xs.getD ((lo+Z)/2) 0:=by simp[hm]
   dsimp only at e;rw[gd]at e;by_cases c:xs.getD ((lo+Z)/2) 0<j
   .rw[if_pos c]at e;show Bv r f _ _ 05 J (MS (zH C).1 h3) (λi m=>ki (r.le (show i<=(lo+Z)/2 by show mH 06) hm) c) b x e
   .rw[if_neg c]at e;show Bv r f _ _ 05 (ZC 06) (MT (zH C).1 (zH C).2 h3) a (λi m D=>Zc (ZO c)<|r.le m D) x e
  .obtain rfl:lo=Z:=gf h1<|ZO 06;subst e;show#[J,a,b]
theorem Bw(r:eG xs)(j):i7 xs j<=xs.size/\(∀i,i<i7 xs j->xs.getD i 0<j)/\∀i,i7 xs j<=i->i<xs.size->j<=xs.getD i 0:=
 Bv r xs.size 0 xs.size (ZF _) (Zk _) (Zk _) (λi h=>absurd 06<|rj _) (λi m J=>absurd 06<|yM 06) _ rfl
def Y8(xs:Tg):Nat->Nat|0=>0|i+1=>xs.getD i 0+1
theorem Hg(r:eG xs):∀{i:Nat},i<=xs.size->i7 xs (Y8 xs i)=i
 |0,_=>by
  let#[m,J,j]:=Bw r 0;rcases Nat.eq_zero_or_pos (i7 xs 0)with e|e
  .show e
  .have:=J 0 e;show absurd 06<|rj _
 |i+1,Z=>by
  let#[m,J,j]:=Bw r<|xs.getD i 0+1;change i7 xs (xs.getD i 0+1)=i+1;generalize i7 xs (xs.getD i 0+1)=x at m J j;rcases Nat.lt_trichotomy x (i+1)with e|e|e
  .have:=j i (mH 06) 05;show absurd 06<|i3 _
  .show e
  .have a:=J (i+1) e;have b:=r.get (show i<i+1 by show ZX _) (show i+1<xs.size by show ZD 06 06);show absurd 06<|sL 06
def eG.insert(r:eG xs)(D:xs[i7 xs j]?≠B j):eG (SetTable.insertAt xs (i7 xs j) j):=by
 let#[H,J,C]:=Bw r j;generalize i7 xs j=p at H J C D;unfold eG;rw[SetTable.toList_insertAt,u5];have E:∀a∈xs.toList.take p,a<j:=λa ha=>by
  let#[i,Z,rfl]:=iO.mp ha;have m:i<p/\i<xs.size:=by
   have:i<min p xs.size:=by simpa using Z
   show#[(Zc this<|Nat.min_le_left _ _),(Zc this<|rh _ _)]
  have:=J i m.1;simpa[m.2]using this
 have Z:∀a∈xs.toList.drop p,j<a:=λa ha=>by
  let#[i,Z,rfl]:=iO.mp ha;have m:p+i<xs.size:=by
   have:i<xs.size-p:=by simpa using Z
   show EF this
  have M:=C (p+i) (Zq _ _) m;have F:p<xs.size:=ki (Zq _ _) 06;have np:j≠xs.getD p 0:=λe=>D<|by simp_all
  have L:=C p (Zk _) F;have I:=r.le (show p<=p+i by show Zq _ _) m;have:j<xs.getD (p+i) 0:=Zc (ju L np) I;simpa[m]using this
 show#[E8 (List.take_sublist _ _) r,nW.mpr #[Z,E8 (List.drop_sublist _ _) r],λa ha b O=>by
  rcases ZA.mp O with rfl|O
  .show E a ha
  .show rl (E a ha)<|Z b O]
end
structure Tb(led:Bool)(t:SetTable):Prop where
 r:eG t.place
 d:t.dummies=#[]
 l:t.led=led
section
variable{t:SetTable}{led:Bool}
theorem Tb.standIn(b:Tb led t)(n):Tb led (t.standIn n):=#[by change(Array.range n).toList.Pairwise _;rw[Array.toList_range];show EM,rfl,b.l]
def Tb.orStandIn(b:Tb led t)(n):Tb led (t.orStandIn n):=by
 unfold SetTable.orStandIn;split
 .show b
 .show b.standIn n
def Hh(j):zq #[] j=Zl:=by unfold zq;simp
theorem Hi(d:t.dummies=#[]):∀(n:Nat)(p:SetTable.Probe),p.dummy=Ze->∀j dm,SetTable.probe.go t f h n p=B (.empty j dm)->dm=Ze/\t.place[i7 t.place j]?≠B j
 |0,p,_,j,dm,e=>by cases e
 |n+1,p,hp,j,dm,e=>by
  have m:(t.advance p).dummy=Ze:=by
   unfold SetTable.advance;split
   .show hp
   .show hp
  unfold SetTable.probe.go at e;unfold SetTable.slot at e;dsimp only at e;by_cases c:(t.place[i7 t.place p.j]?==B p.j)=Zi
  .rw[if_pos c]at e;dsimp only at e;split at e
   .cases e
   .show Hi d n _ m j dm e
  .rw[if_neg c,d,Hh]at e;let#[rfl,rfl]:=e;show#[hp,λz=>c<|beq_iff_eq.mpr z]
def Tb.free(b:Tb led t)(e:t.freeSlot h=B (sl,wd)):t.place[i7 t.place sl]?≠B sl:=by
 unfold SetTable.freeSlot at e;split at e
 .rename_i j dm m;let#[rfl,q]:=Hi b.d _ _ rfl j dm m;simp at e;rw[<-e.1];show q
 .cases e
def Tb.layNew(b:Tb led t)(es:Wm)(h:Int)(x:Zo):Tb led (layNew t es h x).2.1:=by
 unfold PySem.layNew;split
 .rename_i j wd e;calc Tb.orStandIn ?_ _;calc#[b.r.insert<|b.free e,?_,b.l];change(if zq t.dummies j then _ else t.dummies)=#[];rw[b.d,Hh];rfl
 .show b.standIn _
def Tb.laid(e:SetTable.laid mask fi mo led pl hs=B (t',o)):Tb led t':=by unfold SetTable.laid at e;cases q:SetTable.layClean mask hs with|none=>rw[q]at e;cases e|some E=>rw[q]at e;have e:=e;let#[rfl,_]:=e;calc#[?_,rfl,rfl];change(List.map _ _).Pairwise _;rw[yW];calc List.Pairwise.filterMap _ (λa D m b O C j=>?_) EM;let#[_,_,rfl]:=Z6.mp O;let#[_,_,rfl]:=Z6.mp j;show m
def Tb.relayAll(b:Tb led t)(es:Wm)(w:Nat):Tb led (sE t es w).2.1:=by
 unfold PySem.relayAll;split
 .rename_i j o e;dsimp only;split
  .unfold SetTable.relaid at e;rw[b.l]at e;show Tb.laid e
  .show b.standIn _
 .show b.standIn _
end
theorem Bx:∀{l:List α}{i:Nat}{x:α},l[i]?=B x->(x::l.eraseIdx i).Perm l|[],i,x,e=>by simp at e|a::l,0,x,e=>by simp at e;subst e;show rO _|a::l,i+1,x,e=>by simp at e;show(List.Perm.swap a x _).trans<|(Bx e).cons a
theorem Hj:∀(f k:Nat)(l:List α)(j:Array α),l.length<=f->(zG nx f k l j).toList.Perm (j.toList++l)
 |0,k,l,j,h=>by obtain rfl:l=[]:=rm<|sG 06;unfold zG;simp
 |f+1,k,l,j,h=>by
  unfold zG;cases e:l[nx k%l.length]? with
  |none=>
   have:l=[]:=by
    cases l with
    |nil=>rfl
    |cons a l=>have:nx k%(a::l).length<(a::l).length:=Nat.mod_lt _ 03;rw[Zd this]at e;cases e
   subst this;simp
  |some x=>dsimp only;have m:=(Zu.mp e).1;calc(Hj f (k+1) _ _<|by rw[EI m];show Nat.sub_le_of_le_add h).trans ?_;rw[zl,hX];show(Bx e).append_left _
def T9(nx)(xs:Array α):(sA nx xs).toList.Perm xs.toList:=by have:=Hj (nx:=nx) xs.size 0 xs.toList #[] 03;unfold sA;simpa using this
abbrev ents(es:Wm):Tp:=es.toList.map λe=>numOf e.2
def gQ(es:List<|Int×Zo):Prop:=∀e∈es,∃n t,e=(o1 n,l7 n t)
def fg(wd:bq)(h:aM)(a:Z4)(ns:Tp):Prop:=∃o es ep t,h.get? a=B o/\o.ExactSet/\o.data=.set es ep t/\gQ es.toList/\ents es=ns/\es.size<kc/\t.fits es.size=Zi/\Tb (!f7 wd) t
def fg.moved(q:fg wd hp a ns)(m:∀o,hp.get? a=B o->J.get? a=B o):fg wd J a ns:=by let#[o,E,D,t,C,j]:=q;show#[o,E,D,t,m o C,j]
theorem gQ.perm(h:gQ l)(p:l'.Perm l):gQ l':=λe j=>h e<|p.mem_iff.mp j
theorem gQ.elems(h:gQ l):ElemsOf (qP pr wd) l:=λe j=>by let#[n,t,rfl]:=h e j;show#[#[n,uQ _ _ _ _,rfl],rfl]
section
variable{pr:ZU}{wd:bq}{A:bP}{E:aH}{s:Zx}{a:Z4}
def Hk{h:aM}(ho:h.get? a=B o)(hd:o.data=.set es ep t):(h.update a<|Obj.putSet es' t').get? a=B {o with data:=.set es' (ep+1) t'}:=by
 have:=i5 (Obj.putSet es' t') ho<|by rw[putSet_of es' t' hd];rfl
 rwa [putSet_of es' t' hd]at this
def Hl(h:Q () s1):Zw (Zy pr wd) A (match b with|true=>rule "set.scan.the-table-gave-way"|false=>pure ()) Q E s1:=by cases b<;>first|show Zj h|show jK h
def Ud(hS:fg wd s.heap a ns)(room:ns.length+1<kc)
  (h:∀b h' D,jx a s.heap h'->fg wd h' a D->D.Perm (if n∈ns then ns else ns++[n])->Q b {s with heap:=h'}):Zw (Zy pr wd) A (setAddHashed a (.int n tk)<|o1 n) Q E s:=by
 let#[o,J,ep,t,ho,V,hd,ai,en,O,hf,tb]:=hS;have hel:ElemsOf (qP pr wd) J.toList:=ai.elems;have hkey:(qP pr wd).is n (.int n tk)=Zi:=uQ _ _ _ _;have lz:J.size=ns.length:=by rw[<-en,Zp,iV]
 calc ZT<|Zb<|qK ho hd hf ?_;dsimp only;rw[byScan_of rfl O hel];simp![↓reduceIte];unfold setAddByScan;calc Zb ?_;calc Zb<|jK ?_;calc Zb<|wpAny_setScan_of hkey ho hd hf hel ?_;cases hr:List.findIdx? (λe=>(qP pr wd).is n e.2) J.toList with
 |some j=>
  dsimp only;let#[hj,hpj,_]:=EH.mp hr;have mem:n∈ns:=by rw[<-en];calc ZY.mpr #[J.toList[j],Z9 hj,?_];let#[m,t',e]:=ai _<|Z9 hj;rw[e]at hpj ⊢;show(qP pr wd).inj _ _ _ (uQ _ _ _ _) hpj
  calc Zj<|Zj ?_;have e:s={s with heap:=s.heap}:=by cases s;rfl
  rw[e];show h _ s.heap ns (Heap.SameBut.refl a s.heap) #[o,J,ep,t,ho,V,hd,ai,en,O,hf,tb]<|by rw[if_pos mem]
 |none=>
  dsimp only;have nmem:n∉ns:=λm=>by rw[<-en]at m;let#[e,P,q]:=ZY.mp m;let#[m',t',rfl]:=ai e P;have q:m'=n:=q;subst q;have:=EK.mp hr _ P;rw[show(qP pr wd).is m' (.int m' t')=Zi from uQ _ _ _ _]at this;cases this
  have F:=layNew_perm t J (o1 n)<|.int n tk;have H:=layNew_fits t J (o1 n)<|.int n tk;have M:=tb.layNew J (o1 n)<|.int n tk;generalize layNew t J (o1 n) (.int n tk)=bD at F H M ⊢;let#[C,t1,I,gave]:=bD;dsimp only at F H M ⊢;rw[zl]at F;have ai1:=gQ.perm (λe P=>by
   rcases ZQ.mp P with P|P
   .show ai e P
   .rw[Z8.mp P];show#[n,tk,rfl]) F
  have en1:(ents C).Perm (ns++[n]):=by
   have:=F.map λe=>numOf e.2
   rw[kj]at this;rwa [show J.toList.map (λe=>numOf e.2)=ns from en]at this
  have sz1:C.size=J.size+1:=by rw[<-iV,F.length_eq,ZB,iV];rfl
  have L:C.size<kc:=Zc (Zc (Zh (Zn sz1) 1)<|Zh (Zn lz) 2) room;have fin:∀h' D,jx a s.heap h'->fg wd h' a D->D.Perm (ents C)->Q Zi {s with heap:=h'}:=λh' D sb q p=>h Zi h' D sb q<|by rw[if_neg nmem];show p.trans en1
  calc Zb<|Hl ?_;have tail:∀{R:Ww->Zx->Prop},(∀h' D,jx a s.heap h'->fg wd h' a D->D.Perm (ents C)->R (B Zi) {s with heap:=h'})->Zw (Zy pr wd) A (do
    storeSet a C t1
    if (!I&&t1.tooFull)=Zi then do
      (match (sE t1 C<|pF C.size).2.2 with|true=>rule "set.scan.the-table-gave-way"|false=>pure ())
      storeSet a (sE t1 C<|pF C.size).1 (sE t1 C<|pF C.size).2.1
      pure (B Zi)
     else pure (B Zi)) R E s:=λ{R} hR=>by
   calc Zb<|wpAny_storeSet_of ho hd ?_<|yC L;have S:=Hk (es':=C) (t':=t1) ho hd;have Y:=km s.heap a<|Obj.putSet C t1;split
   .have hp:=relayAll_perm t1 C<|pF C.size;have U:=relayAll_fits t1 C<|pF C.size;have W:=M.relayAll C<|pF C.size;generalize sE t1 C (pF C.size)=Rl at hp U W ⊢;let#[X,t3,gave2]:=Rl;dsimp only at hp U W ⊢;have Z:X.size=C.size:=by rw[<-iV,hp.length_eq,iV]
    calc Zb<|Hl ?_;calc Zb<|wpAny_storeSet_of S rfl ?_ (yC<|Zc (Zh (Zn Z) 1) L);show Zj<|hR _ _ (Y.trans<|km _ a _) #[_,X,ep+1+1,t3,Hk S rfl,V,rfl,ai1.perm hp,rfl,Zc (Zh (Zn Z) 1) L,U,W]<|hp.map _
   .show Zj<|hR _ _ Y #[_,C,ep+1,t1,S,V,rfl,ai1,rfl,L,H,M]<|rO _
  split
  .calc Zb ?_;rw[hashByValue_scannable 8 rfl];calc Zj ?_;show tail λh' D sb q p=>by dsimp only;show Zj<|fin h' D sb q p
  .calc Zb<|Zj ?_;simp![↓reduceIte];show tail λh' D sb q p=>by dsimp only;show Zj<|fin h' D sb q p
end
def iE(f:Nat->Int):Nat->Tp|0=>[]|i+1=>if f i∈iE f i then iE f i else iE f i++[f i]
theorem By(f):∀i,(iE f i).length<=i
 |0=>Zk _
 |i+1=>by
  have:=By f i;unfold iE;split
  .show rg 06
  .simp_all
def Ue(p:ms.Perm<|iE f i):(if f i∈ms then ms else ms++[f i]).Perm (iE f<|i+1):=by
 unfold iE;by_cases c:f i∈ms
 .rw[if_pos c,if_pos<|p.mem_iff.mp c];show p
 .rw[if_neg c,if_neg λz=>c<|p.mem_iff.mpr z];show p.append_right _
theorem Hm(f)(x):∀i,x∈iE f i↔∃j,j<i/\x=f j
 |0=>by simp[iE]
 |i+1=>by
  have C:=Hm f x i;unfold iE;constructor
  .intro h;split at h
   .let#[j,m,e]:=C.mp h;show#[j,jv 06,e]
   .rcases ZQ.mp h with h|h
    .let#[j,m,e]:=C.mp h;show#[j,jv 06,e]
    .show#[i,ZX _,Z8.mp h]
  .rintro⟨j,m,rfl⟩;by_cases e:j=i
   .subst e;split
    .assumption
    .simp_all
   .have:=C.mpr #[j,ju (mH m) e,rfl];split
    .show this
    .show ZZ _ this
abbrev Vh(zs:Tp):Nat->Int:=λi=>zs.getD i 0
def tT(wd:bq)(h:aM)(a:Z4)(f:Nat->Int)(i:Nat):Prop:=∃ms,fg wd h a ms/\ms.Perm (iE f i)
section
variable{pr:ZU}{wd:bq}{bA:bP}{E:aH}{z:Zx}{l:Z4}{us:Tv}{zs:Tp}{Q:aH}
def Uh(R:bA.handled=Ze)(hl:z.heap.IsList l us.toArray)(Z:fz us zs)(room:zs.length+1<kc) (fin:∀(J:aM)(tk:Nat),tT wd J z.heap.objs.size (Vh zs) zs.length->(∀b o,z.heap.get? b=B o->J.get? b=B o)->Q (.ref z.heap.objs.size) {z with heap:=J,toks:=tk}):Zw (Zy pr wd) bA (call (.type "set") [.ref l]) Q E z:=by
 have len:us.toArray.size=zs.length:=by rw[ZI,Z.length]
 refine GO (SA:=λh a i=>tT wd h a (Vh zs) i) R hl #[λ⟨F,h,p⟩ m=>#[F,h.moved m,p],λ{A E i v C z Q} q lt ⟨F,hm,I⟩ k=>?_,λg=>#[[],#[_,#[],0,_,g,#[rfl,rfl,rfl],rfl,(λe P=>by simp at P),rfl,01,rfl,#[.nil,rfl,rfl]],rO _]]<|by rw[len];show fin
 rw[len]at lt;let#[t,e]:=Z.get i _<|Zd lt;rw[u3,e]at q;cases q;have O:zs[i]=Vh zs i:=by simp[Vh,lt]
 have L:F.length<=i:=by rw[I.length_eq];show By _ i
 rw[O];show ZT (Zb<|wpAny_pyHash_int<|Ud (s:={z with toks:=z.toks+1}) hm (ZC<|Zc (Zh (Zc (Zh L 2)<|Zh lt 1) 1) room) λ_ M j S H D=>k _ M S #[j,H,D.trans<|Ue I])
end
theorem QV:Slot "set_iterator" "__next__" "set_iterator.__next__" :=.of (owner:="set_iterator") (n:="__next__") (by rw[yF,yA];kernel_rfl) (by decide +kernel) (by decide +kernel) (by decide +kernel) (by first|show .inl (by decide +kernel)|show .inr (by decide +kernel)) (by rw[isSubtype_type];kernel_rfl)
theorem Hn:Slot "set_iterator" "__iter__" "set_iterator.__iter__" :=.of (owner:="set_iterator") (n:="__iter__") (by rw[yF,yA];kernel_rfl) (by decide +kernel) (by decide +kernel) (by decide +kernel) (by first|show .inl (by decide +kernel)|show .inr (by decide +kernel)) (by rw[isSubtype_type];kernel_rfl)
theorem wM:qV table "set_iterator.__next__"=B dz.«set_iterator.__next__» :=entryFor_of_fast 02
def wN(a):jL "set_iterator.__next__" #[[a],[]]:=by unfold jL;kernel_rfl
theorem Ui:qV table "set.__iter__"=B dz.«frozenset.__iter__» :=entryFor_alias (id':="frozenset.__iter__") 02 rfl (by decide +kernel) 02
def cY(h:aM)(it:Z4)(F:Zo)(i:Nat)(a:Z4)(n ep:Nat):Prop:=∃o,h.get? it=B o/\o.cls=.type "set_iterator"/\o.data=.fields (ba [F,.int i 0,.ref a,.int n 0,.int ep 0])
theorem cY.ty{s:Zx}(x:cY s.heap it F i a n ep):s.TypeIs (.ref it) "set_iterator":=let ⟨o,m,j,_⟩:=x;#[o,m,j]
section
variable{pr:ZU}{wd:bq}{A:bP}{E:aH}{s:Zx}{a it:Z4}{o:Obj}{es:Wm}{ep i n sl:Nat}{t:SetTable}
def Ho(O:f7 wd=Zi)(ho:s.heap.get? a=B o)(hd:o.data=.set es ep t)(j:t.fits es.size=Zi) (h:Q (((sA (wd.params.setOrder a ep) es)[i]?).map λe=>(e.2,sl)) s):Zw (Zy pr wd) A (nM a sl i ep) Q E s:=by unfold nM;calc Zb<|qK ho hd j ?_;calc Zb<|Zb<|qL<|Zj ?_;change Zw _ _ (if f7 wd=Zi then _ else _) _ _ s;rw[if_pos O];dsimp only;rw[if_neg 03];calc Zb<|Zb<|qK ho hd j ?_;calc Zb<|Zb<|qL<|Zj ?_;change Zw _ _ (if f7 wd=Zi then _ else _) _ _ s;rw[if_pos O];show Zb<|qL<|Zj<|Zj h
def Hq(O:f7 wd=Zl)(ho:s.heap.get? a=B o)(hd:o.data=.set es ep t)(m:t.fits es.size=Zi)(hp:(!t.plain&&decide (es.size>1))=Zl)(hl:t.led=Zi) (h:Q (match es[i7 t.place sl]?,t.place[i7 t.place sl]? with|some (_,x),B j=>B (x,j+1)|_,_=>Ze) s):Zw (Zy pr wd) A (nM a sl i ep) Q E s:=by unfold nM;calc Zb<|qK ho hd m ?_;calc Zb<|Zb<|qL<|Zj ?_;change Zw _ _ (if f7 wd=Zi then _ else _) _ _ s;rw[if_neg<|by simp_all];change Zw _ _ (if (!t.plain&&decide (es.size>1))=Zi then _ else _) _ _ s;rw[if_neg<|by simp_all];calc Zb<|show Zw _ _ (if (!t.led&&!es.isEmpty)=Zi then _ else _) _ _ s from ?_;rw[hl];simp;show Zj<|Zj h
def Uj(ho:s.heap.get? a=B o)(hd:o.data=.set es ep t)(j:t.fits es.size=Zi)(m:es[p]?=B x)(h:Q x.2 s):Zw (Zy pr wd) A (setNextDrawn a p ep) Q E s:=by calc Zb<|qK ho hd j ?_;dsimp only;rw[if_neg 03,m];show Zj h
def Ul(m:cY s.heap it (.int sl 0) i a n ep)(ho:s.heap.get? a=B o)(hd:o.data=.set es ep t)(L:t.fits es.size=Zi)(hn:es.size=n) (J:∀(C:Wg->Zx->Prop)(H:aH),C (B (x,nx)) s->Zw (Zy pr wd) A.in1 (nM a sl i ep) C H s) (M:∀h',cY h' it (.int nx 0) (i+1) a n ep->jx it s.heap h'->Q (B x) {s with heap:=h'}):Zw (Zy pr wd) A (dX<|.ref it) Q E s:=by
 let#[F,Z,I,j]:=id m;unfold dX;calc Zb<|nD<|mE m.ty QV<|j8 QV m.ty wM ?_<|wN _;calc Zb<|Zj ?_;calc Zb<|uE Z j ?_;calc Zb<|sg ho hd L ?_;rw[if_neg<|by rw[hn];simp];calc Zb<|J _ _ ?_;calc Zb<|iL Z j 03 ?_;have D:(s.heap.update it (eR (·.setIfInBounds 0 (cA (nx:Int))))).get? it=B (F.mapFields (·.setIfInBounds 0 (cA (nx:Int)))):=i5 _ Z<|lW<|ZR j _;have d1:(F.mapFields (·.setIfInBounds 0 (cA (nx:Int)))).data=.fields (ba [.int nx 0,.int i 0,.ref a,.int n 0,.int ep 0]):=by rw[ZR j];simp[cA]
 calc Zb<|iL D d1 03 ?_;calc Zj #[_,rfl,Zj<|M _ #[_,i5 _ D<|lW<|ZR d1 _,(pA ..).trans<|(pA ..).trans I,?_]<|(km ..).trans<|km ..];rw[ZR d1];simp[cA]
def Hr(j:A.handled=Ze)(e1:eQ it s.heap h1)(m:∀h' e,eQ it s.heap h'->(∃o,h'.get? e=B o/\o.cls=.type "StopIteration")->E' (.ref e) {s with heap:=h'}):Zw (Zy pr wd) A.in1 (newExc (.type "StopIteration") []>>=λe=>(sC e:Sem α)) Qf E' {s with heap:=h1}:=by
 calc Zb ?_;calc Zb (j7 ?_<|by size_fits);calc Zb (qQ (by first|rfl|(simp;rfl)) ?_);refine j7 ?_<|by size_fits
 calc Zb<|yH ?_;rw[show A.in1.handled=Ze from j];show Zb<|Zj<|wpAny_throw<|m _ _ ((e1.push _).push _) #[_,Zt _ rfl,rfl]
def Um(O:A.handled=Ze)(j:cY s.heap it (.int sl 0) i a n ep)(ho:s.heap.get? a=B o)(hd:o.data=.set es ep t)(J:t.fits es.size=Zi)(hn:es.size=n) (I:∀(C:Wg->Zx->Prop)(H:aH),C Ze s->Zw (Zy pr wd) A.in1 (nM a sl i ep) C H s) (L:∀h',eQ it s.heap h'->Q Ze {s with heap:=h'}):Zw (Zy pr wd) A (dX<|.ref it) Q E s:=by
 let#[R,Z,P,m]:=id j;calc Zb<|nD<|mE j.ty QV<|j8 QV j.ty wM ?_<|wN _;calc Zb<|Zj ?_;calc Zb<|uE Z m ?_;calc Zb<|sg ho hd J ?_;rw[if_neg<|by rw[hn];simp];calc Zb<|I _ _ ?_;calc Zb<|iL Z m 03 ?_;refine Hr O (km ..).extBut λh' e x ⟨M,D,F⟩=>?_
 show Zb<|sk #[M,D,F] uD<|Zj<|L _ x
def Uo{nt p:Nat}(m:cY s.heap it (.ref T) i a n ep)(ho:s.heap.get? a=B o)(hd:o.data=.set es ep t)(C:t.fits es.size=Zi)(hn:es.size=n) (H:s.heap.get? T=B ot)(F:ot.data=.seq its nt)(hp:its[i]?=B (.int p tk))(J:es[p]?=B x) (I:∀h',cY h' it (.ref T) (i+1) a n ep->jx it s.heap h'->Q (B x.2) {s with heap:=h'}):Zw (Zy pr wd) A (dX<|.ref it) Q E s:=by let#[L,Z,D,j]:=id m;calc Zb<|nD<|mE m.ty QV<|j8 QV m.ty wM ?_<|wN _;calc Zb<|Zj ?_;calc Zb<|uE Z j ?_;calc Zb<|sg ho hd C ?_;rw[if_neg<|by rw[hn];simp];calc Zb<|lM H F ?_;simp![jN,hp];calc Zb<|Uj ho hd C J ?_;calc Zb<|iL Z j 03 ?_;calc Zj #[_,rfl,Zj<|I _ #[_,i5 _ Z<|lW<|ZR j _,(pA ..).trans D,?_]<|km ..];rw[ZR j];simp[cA]
def Up(P:A.handled=Ze)(m:cY s.heap it (.ref T) i a n ep)(ho:s.heap.get? a=B o)(hd:o.data=.set es ep t)(J:t.fits es.size=Zi)(hn:es.size=n) (R:s.heap.get? T=B ot)(H:ot.data=.seq its nt)(hp:its[i]?=Ze)(L:∀h',eQ it s.heap h'->Q Ze {s with heap:=h'}):Zw (Zy pr wd) A (dX<|.ref it) Q E s:=by
 let#[C,Z,S,j]:=id m;unfold dX;calc Zb<|nD<|mE m.ty QV<|j8 QV m.ty wM ?_<|wN _;calc Zb<|Zj ?_;calc Zb<|uE Z j ?_;calc Zb<|sg ho hd J ?_;rw[if_neg<|by rw[hn];simp];calc Zb<|lM R H ?_;simp![jN,hp];calc Zb<|iL Z j 03 ?_;have I:(s.heap.update it (eR (·.setIfInBounds 0 (cA 0)))).get? it=B (C.mapFields (·.setIfInBounds 0 (cA 0))):=i5 _ Z<|lW<|ZR j _;have d1:(C.mapFields (·.setIfInBounds 0 (cA 0))).data=.fields (ba [.int 0 0,.int i 0,.ref a,.int n 0,.int ep 0]):=by rw[ZR j];simp[cA]
 calc Zb<|iL I d1 03 ?_;have O:=((km s.heap it (eR (·.setIfInBounds 0 (cA 0)))).trans (km (s.heap.update it (eR (·.setIfInBounds 0 (cA 0)))) it (eR (·.setIfInBounds 2 .none)))).extBut;refine Hr (s:=s) P O λh' e x ⟨M,D,F⟩=>?_
 show Zb<|sk #[M,D,F] uD<|Zj<|L _ x
end
theorem Uq:qV table "set_iterator.__iter__"=B dz.«dict_keyiterator.__iter__» :=entryFor_alias (id':="dict_keyiterator.__iter__") 02 rfl (by decide +kernel) 02
def Ur(a):jL "set_iterator.__iter__" #[[a],[]]:=by unfold jL;kernel_rfl
section
variable{pr:ZU}{wd:bq}{A:bP}{E:aH}{s:Zx}{a it T:Z4}{o ot:Obj}{es:Wm}{ep n nt:Nat}{t:SetTable}{ord:Tv}
def cY.self(j:cY s.heap it F i a n ep)(h:Q (.ref it) s):Zw (Zy pr wd) A (ke<|.ref it) Q E s:=by calc wpAny_pyIter_slot j.ty Hn<|j8 Hn j.ty Uq ?_<|Ur _;show Zj #[_,rfl,"set_iterator",_,j.ty,QV.lookup,h]
theorem cY.at(x:cY h it F i a n ep)(e:∀o,h.get? it=B o->h'.get? it=B o):cY h' it F i a n ep:=let ⟨o,j,r⟩:=x;#[o,e _ j,r]
theorem Hs(S:A.handled=Ze)(ne:a≠it)(hd:o.data=.set es ep t)(J:t.fits es.size=Zi)(hn:es.size=n)(sl:Nat->Nat)(lo:ord.length=n) (R:∀(i:Nat)(s:Zx)(x:Zo),s.heap.get? a=B o->ord[i]?=B x->∀(j:Wg->Zx->Prop)(F:aH),j (B (x,sl<|i+1)) s->Zw (Zy pr wd) A.in1 (nM a (sl i) i ep) j F s) (P:∀(s:Zx),s.heap.get? a=B o->∀(j:Wg->Zx->Prop)(F:aH),j Ze s->Zw (Zy pr wd) A.in1 (nM a (sl n) n ep) j F s):Walks pr wd A it [it,a] [it] n (λi v=>ord[i]?=B v) (λi h=>cY h it (.int (sl i) 0) i a n ep/\h.get? a=B o) where
 sub:=λb O=>by simp at O;simp[O]
 frame:=λ_ _ _ st L=>#[st.1.at λo e=>L it 03 o e,L a 03 _ st.2]
 item:=λi s Q E Z st C=>by
  have M:ord[i]?=B (ord[i]'(Zc Z<|Zn lo.symm)):=Zd _;refine Ul st.1 st.2 hd J hn (R i s _ st.2 M) λH D m=>?_
  show C _ H s.toks M #[D,(m.2 a ne).trans st.2] λb o O e=>(m.2 b λh=>O<|by simp[h]).trans e
 done:=λs Q E st C=>Um S st.1 st.2 hd J hn (P s st.2) λH I=>C H s.toks λb o O e=>I b o (λh=>O<|by simp[h]) e
 self:=λ_ _ _ _ st C=>st.1.self C
theorem Us(S:A.handled=Ze)(ne:a≠it)(R:T≠it)(hd:o.data=.set es ep t)(P:t.fits es.size=Zi)(hn:es.size=n)(ps:Tq)(L:ps.length=n)(M:ot.data=.seq (ba<|ps.map λ(i:Nat)=>cA i) nt)(hp:∀p∈ps,p<es.size):Walks pr wd A it [it,a,T] [it] n (λi v=>(ps.map λp=>(es.getD p (0,.none)).2)[i]?=B v) (λi h=>cY h it (.ref T) i a n ep/\h.get? a=B o/\h.get? T=B ot) where
 sub:=λb O=>by simp at O;simp[O]
 frame:=λ_ _ _ st I=>#[st.1.at λo e=>I it 03 o e,I a 03 _ st.2.1,I T 03 _ st.2.2]
 item:=λi s Q E Z st C=>by
  have m:i<ps.length:=Zc Z<|Zn L.symm;have J:=hp _<|Z9 m;refine Uo (tk:=0) st.1 st.2.1 hd P hn st.2.2 M (by simp[m,cA]) (lX J) λF D j=>?_
  refine C _ F s.toks ?_ #[D,(j.2 a ne).trans st.2.1,(j.2 T R).trans st.2.2] λb o O e=>(j.2 b λh=>O<|by simp[h]).trans e
  simp[m,Array.getD,J]
 done:=λs Q E st C=>Up S st.1 st.2.1 hd P hn st.2.2 M (by simp[L]) λF H=>C F s.toks λb o O e=>H b o (λh=>O<|by simp[h]) e
 self:=λ_ _ _ _ st C=>st.1.self C
theorem Ut(hm:m≠0)(h:∀i d',i<m->Q i {s with drawn:=d'}):Zw (Zy pr wd) A (choose src m) Q E s:=λΓ p _=>by change Sem.wp _ Γ (.choose src m .pure) _ _ p s;calc#[hm,?_];show h _ _<|Nat.mod_lt _<|sJ hm
theorem Ht:∀(n:Nat)(xs:List α)(s:Zx)(Q:List α->Zx->Prop),xs.length=n->(∀ys d',ys.Perm xs->Q ys {s with drawn:=d'})->Zw (Zy pr wd) A (drawOrder n xs) Q E s
 |0,xs,s,Q,h,hQ=>by obtain rfl:xs=[]:=rm h;show Zj<|hQ [] s.drawn<|rO _
 |n+1,[],s,Q,h,hQ=>by cases h
 |n+1,x::xs,s,Q,h,hQ=>by
  unfold drawOrder;refine Zb<|Ut 03 λi d' Z=>?_
  have e:=Zd Z;have j:((x::xs).eraseIdx i).length=n:=by rw[EI Z,h];rfl
  have m:=Bx e;rw[e];dsimp only;refine Zb<|Ht n _ _ _ j λys d2 p=>?_
  show Zj<|hQ _ d2<|(p.cons _).trans m
structure p9(pr:ZU)(wd:bq)(a lo it:Z4)(h:aM)(ns:Tp)(fp:Tu)(ord:Tv)(St:Nat->aM->Prop):Prop where
 w:∀A:bP,A.handled=Ze->Walks pr wd A it fp [it] ns.length (λi v=>ord[i]?=B v) St
 st:St 0 h
 fp:∀b∈fp,b=a\/lo<=b
 zs:∃ms,fz ord ms/\ms.Perm ns
def Uu(h:gQ l):fz (l.map (·.2)) (l.map λe=>numOf e.2):=by
 have:=intsAre_map (l.map (·.2)) λv j=>by let#[e,m,rfl]:=ZY.mp j;let#[n,t,rfl]:=h e m;show#[n,t,rfl]
 rwa [fy]at this
theorem BA{l j:List (Int×Zo)}(h:gQ l)(en:l.map (λe=>numOf e.2)=ns)(p:j.Perm l):∃ms,fz (j.map (·.2)) ms/\ms.Perm ns:=#[_,Uu<|h.perm p,en▸p.map _]
def Uv(hS:fg wd s.heap a ns)(hQ:∀it h' d' fp ord St,p9 pr wd a s.heap.objs.size it h' ns fp ord St->(∀b o,s.heap.get? b=B o->h'.get? b=B o)->s.heap.objs.size<=it->Q (.ref it) {s with heap:=h',drawn:=d'}):
  Zw (Zy pr wd) A (ke<|.ref a) Q E s:=by
 let#[o,j,ep,t,F,X,hd,U,en,O,m,I]:=hS;have hT:s.TypeIs (.ref a) "set":=#[o,F,X.1];have D:j.size=ns.length:=by rw[<-en,Zp,iV]
 have lt:=Z0 F;calc wpAny_pyIter_slot hT EZ<|j8 EZ hT Ui ?_<|PySem.F.args_set_iter_1 _;unfold dz.«frozenset.__iter__»;calc Zb<|Zj ?_;calc Zb<|Zb<|sg F hd m<|Zj ?_;calc Zb ?_;unfold setDrawn setsByText;calc Zb<|qK F hd m ?_;calc Zb<|Zb<|qL<|Zj ?_;calc Zj ?_;change Zw _ _ (if (!f7 wd&&(!t.plain&&decide (j.size>1)))=Zi then _ else _) _ _ s;cases c:(!f7 wd&&(!t.plain&&decide (j.size>1)))with
 |true=>
  rw[if_pos rfl];refine Zb<|Ht j.size (ZK j.size) s _ 03 λps d' H=>?_
  have lp:ps.length=j.size:=by rw[H.length_eq,ph]
  have hp:∀p∈ps,p<j.size:=λp h=>fx.mp<|H.mem_iff.mp h
  calc Zb (wpAny_newTuple ?_<|by rw[Zp,lp];show yC O);change Zw _ _ (setEpoch a>>=_) _ _ _;calc Zb<|wpAny_setEpoch_of (Zg _ F) hd m ?_;calc Zb<|j7<|Zj #[_,rfl,"set_iterator",_,#[_,Zt _ rfl,rfl],QV.lookup,?_];have sz:(s.heap.push<|bf "tuple" (ba<|ps.map λ(i:Nat)=>cA i) 0).objs.size=s.heap.objs.size+1:=pE ..;refine hQ _ _ d' [(s.heap.push<|bf "tuple" (ba<|ps.map λ(i:Nat)=>cA i) 0).objs.size,a,s.heap.objs.size] (ps.map λp=>(j.getD p (0,.none)).2) (λi h=>cY h (s.heap.push<|bf "tuple" (ba<|ps.map λ(i:Nat)=>cA i) 0).objs.size (.ref s.heap.objs.size) i a ns.length ep/\h.get? a=B o/\h.get? s.heap.objs.size=B (bf "tuple" (ba<|ps.map λ(i:Nat)=>cA i) 0)) #[λA L=>?_,?_,?_,?_] (λb o e=>Zg _<|Zg _ e)<|by rw[sz];show hb _
  .show Us (nt:=0) (o:=o) (ep:=ep) L (by rw[sz];show Z1<|jv lt) (by rw[sz];show Z1<|ZX _) hd m D ps (by rw[lp,D]) rfl hp
  .calc#[#[_,Zt _ rfl,rfl,?_],Zg _<|Zg _ F,Zg _<|Zt _ rfl];simp[cA,D]
  .intro b O;simp![ZA,iR,or_false]at O;rcases O with rfl|rfl|rfl
   .show .inr<|by rw[sz];show hb _
   .show .inl rfl
   .show .inr<|Zk _
  .have e1:(ps.map λp=>(j.getD p (0,.none)).2)=(ps.map λp=>j.getD p (0,.none)).map (·.2):=by rw[fy];rfl
   rw[e1];calc BA U en ?_;have e2:(ZK j.size).map (λp=>j.getD p (0,.none))=j.toList:=by
    refine mL 03 λi h1 J=>?_
    have h3:i<j.size:=by simpa using h1
    simp[Array.getD,h3]
   rw[<-e2];show H.map _
 |false=>
  rw[if_neg Zz];calc Zb<|Zj ?_;calc Zb<|wpAny_setEpoch_of F hd m ?_;calc Zb<|j7<|Zj #[_,rfl,"set_iterator",_,#[_,Zt _ rfl,rfl],QV.lookup,?_];have S:∀b∈[s.heap.objs.size,a],b=a\/s.heap.objs.size<=b:=λb O=>by
   simp![ZA,iR,or_false]at O;rcases O with rfl|rfl
   .show .inr<|Zk _
   .show .inl rfl
  have go:∀(Y:Nat->Nat)(ord:Tv),Y 0=0->(∀A:bP,A.handled=Ze->Walks pr wd A s.heap.objs.size [s.heap.objs.size,a] [s.heap.objs.size] ns.length (λi v=>ord[i]?=B v) (λi h=>cY h s.heap.objs.size (.int (Y i) 0) i a ns.length ep/\h.get? a=B o))->(∃ms,fz ord ms/\ms.Perm ns) ->
    Q (.ref s.heap.objs.size) {s with heap:=s.heap.push {cls:=.type "set_iterator",data:=.fields (ba [.int 0 0,.int 0 0,.ref a,.int ns.length 0,.int ep 0])} }:=λY ord h0 w q=>
   hQ _ _ s.drawn _ ord _ #[w,#[#[_,Zt _ rfl,rfl,by rw[h0];rfl],Zg _ F],S,q] (λb o e=>Zg _ e) (Zk _)
  have ne:a≠s.heap.objs.size:=Z1 lt;rw[D];cases C:f7 wd with
  |true=>
   have H:=T9 (wd.params.setOrder a ep) j;have lo:((sA (wd.params.setOrder a ep) j).toList.map (·.2)).length=ns.length:=by rw[Zp,H.length_eq,iV,D]
   refine go (λ_=>0) ((sA (wd.params.setOrder a ep) j).toList.map (·.2)) rfl (λA L=>Hs L ne hd m D (λ_=>0) lo (λi R x g e V W q=>Ho C g hd m ?_) λR g V W q=>Ho C g hd m ?_) (BA U en H)
   .rw[Z5,vq]at e;let#[y,P,rfl]:=Z6.mp e;rw[P];show q
   .rw[zi<|by simp_all];show q
  |false=>
   rw[C]at c I;have c:=c;have M:t.place.size=j.size:=by unfold SetTable.fits at m;simp![Zs,beq_iff_eq]at m;show m.1
   have lo:(j.toList.map (·.2)).length=ns.length:=by rw[Zp,iV,D]
   refine go (Y8 t.place) (j.toList.map (·.2)) rfl (λA L=>Hs L ne hd m D (Y8 t.place) lo (λi R x g e V W q=>Hq C g hd m c I.l ?_) λR g V W q=>Hq C g hd m c I.l ?_) (BA U en<|rO _)
   .rw[Z5,vq]at e;let#[y,P,rfl]:=Z6.mp e;have Z:i<j.size:=(pB.mp P).1;rw[Hg I.r<|ZC<|Zc Z<|Zn M.symm,P,lX<|show i<t.place.size by show Zc Z<|Zn M.symm];have:Y8 t.place (i+1)=t.place[i]+1:=by simp[Y8,Array.getD,show i<t.place.size by show Zc Z<|Zn M.symm]
    rw[this]at q;show q
   .rw[Hg I.r<|Zc (Zn D.symm)<|Zn M.symm,zi<|Zn D];show q
end
def Uw:uP (.type "set") "__len__"=pure (B<|.builtin "set.__len__"):=by rw[yF,yA];kernel_rfl
section
variable{pr:ZU}{wd:bq}{A:bP}{E:aH}{s:Zx}{a:Z4}
def Ux(j:s.TypeIs (.ref a) "set")(h:Q Zl s):Zw (Zy pr wd) A (Builtin.List.listLengthHint<|.ref a) Q E s:=by calc Zb<|yD j Uw ?_;dsimp only;calc Zb<|sk j PySem.sub_set_self ?_;simp;show Zb<|sv j<|Zj h
def Uy(hh:A.handled=Ze)(hS:fg wd s.heap a ns)(O:ns.length<4096)(hQ:∀h' d' tk ord ms,fz ord ms->ms.Perm ns->(∀b o,s.heap.get? b=B o->h'.get? b=B o)->s.heap.objs.size<h'.objs.size->Q ord {s with heap:=h',drawn:=d',toks:=tk}):
  Zw (Zy pr wd) A (collect<|.ref a) Q E s:=by
 obtain⟨o,F⟩:∃o,s.heap.get? a=B o/\o.cls=.type "set":=by let#[o,es,ep,t,ho,hex,_]:=hS;show#[o,ho,hex.1]
 have la:=Z0 F.1;unfold collect;calc Zb<|uC<|iK EU ?_;rw[kH PySem.F.plain_proto_collect _];calc Zb<|oV ?_<|ZF _;calc Zj #[jJ vy _,iK EX ?_];rw[kH vy _];change Zw _ A.in1 (E3 (.ref s.heap.objs.size) (.ref a)<|.ref s.heap.objs.size) _ _ _;unfold E3;have j:∀b o,s.heap.get? b=B o->(s.heap.push<|bf "list" #[] 0).get? b=B o:=λb o e=>Zg _ e
 have gL:(s.heap.push<|bf "list" #[] 0).get? s.heap.objs.size=B (bf "list" #[] 0):=Zt _ rfl;have R:zE {s with heap:=s.heap.push (bf "list" #[] 0)} (.ref a) "set":=#[o,j _ _ F.1,F.2];calc Zb<|sv R ?_;have h1:E4 (.ref s.heap.objs.size) (.ref a)=Zl:=by simp[E4,d0 la]
 rw[if_neg<|by rw[h1];decide];refine Zb<|Uv (hS.moved λo e=>j _ _ e) λit J d2 fp ord St W C le=>?_
 have L:(s.heap.push<|bf "list" #[] 0).objs.size=s.heap.objs.size+1:=pE ..;have M:=C _ _ gL;have P:zE {s with heap:=J,drawn:=d2} (.ref a) "set":=#[o,C _ _<|j _ _ F.1,F.2];calc Zb<|ZT<|Ux P ?_;rw[if_pos<|by decide +kernel];calc Zb<|jK ?_;have nS:s.heap.objs.size∉fp:=λO=>by
  rcases W.fp _ O with e|e
  .show absurd e<|d0 la
  .rw[show({s with heap:=s.heap.push (bf "list" #[] 0)}:Zx).heap.objs.size=s.heap.objs.size+1 from L]at e;show absurd e<|Nat.not_le_of_gt<|ZX _
 have bg:10<=sizeLine:=01;unfold Builtin.List.listTouch;calc Zb (Zb (rJ (f:=(·.push .none)) M rfl ?_ (ZF _) (show 1<=sizeLine+1 by show gZ _)));obtain⟨c3,g3⟩:∃c3,(J.update s.heap.objs.size (dq (·.push .none))).get? s.heap.objs.size=B (bf "list" #[.none] c3):=#[_,mO M (·.push .none)];calc rJ (f:=(·.pop)) g3 rfl ?_ (show 1<=sizeLine by show gZ _) (ZF _);obtain⟨c4,g4⟩:∃c4,((J.update s.heap.objs.size (dq (·.push .none))).update s.heap.objs.size (dq (·.pop))).get? s.heap.objs.size=B (bf "list" #[] c4):=#[_,mO g3 (·.pop)];have D:∀b o,b≠s.heap.objs.size->J.get? b=B o->((J.update s.heap.objs.size (dq (·.push .none))).update s.heap.objs.size (dq (·.pop))).get? b=B o:=λb o nb e=>(Z3 _ _<|ZP nb).trans<|(Z3 _ _<|ZP nb).trans e
 generalize (J.update s.heap.objs.size (dq (·.push .none))).update s.heap.objs.size (dq (·.pop))=h4 at g4 D;have Y:=(W.w A.in1 hh).frame 0 J h4 W.st λb O o e=>D b o (λz=>nS<|z▸O) e
 calc Zj #[jJ PySem.F.plain_extend_loop _,codeAny_extend_loopS (W.w A.in1 hh).toS (Zc (ZC O) 01) _ nS _ ns.length 0 _ #[] c4 rfl (ZF _) Y g4 (ItemsOf.nil _) λs5 I c5 mv g5 m=>?_];calc Zb<|uO g5 ?_;calc Zj ?_;let#[ms,Z,hp]:=W.zs;have eo:I.toList=ord:=by
  have lo:ord.length=ns.length:=by rw[Z.length,hp.length_eq]
  refine nX λi=>?_
  by_cases H:i<ns.length
  .have e1:I.toList[i]?=B (I[i]'(by rw[m.1];show H)):=by simp[m.1,H]
   rw[e1];show(m.2 i _<|by simp[m.1,H]).symm
  .rw[nU (by rw[iV,m.1];show ZO H),nU<|Zc (Zn lo)<|ZO H]
 rw[eo];let#[h5,g5',d5,S,V]:=s5;have eg:g5'=s.gens:=mv.gens;have ed:d5=d2:=mv.drawn;have X:V=s.os:=mv.os;subst eg;subst ed;subst X;calc hQ h5 d5 S ord ms Z hp (λb o e=>?_)<|Z0 g5;have lb:=Z0 e;have b1:b≠s.heap.objs.size:=Z1 lb;have U:s.heap.objs.size+1<=it:=by rw[<-L];show le
 have b2:b≠it:=Z1<|ZD lb<|Zc (hb _) U;show mv.heap b o (by simp_all)<|D b o b1<|C _ _<|j _ _ e
def Uz{ns:Tp}{Q:aH}(U:A.handled=Ze)(Y:fg wd s.heap a ns)(P:ns.length<64)
  (h:∀D h' d' tk m C c,fz m C->C.Perm ns->C.Pairwise (· <= ·)->s.heap.objs.size<=D->(∀b o,s.heap.get? b=B o->h'.get? b=B o)->h'.get? D=B (bf "list" (ba m) c)->Q (.ref D) {s with heap:=h',drawn:=d',toks:=tk}):
  Zw (Zy pr wd) A (call (.builtin "sorted") [.ref a]) Q E s:=by
 calc Calls.call_function_entry kind_sorted plain_sorted entry_sorted (args_sorted1 _) ?_;unfold dz.«sorted»;calc Zb<|Zj ?_;refine Zb<|Uy U Y 00 λJ d2 F j ms Z O keep V=>?_
 have W:j.length=ns.length:=by rw[Z.length,O.length_eq]
 calc Zb (oV ?_<|by rw[W,iM];omega);have M:(J.push<|bf "list" j.toArray 0).get? J.objs.size=B (bf "list" j.toArray 0):=Zt _ rfl;calc Zb<|ZT<|j8 slot_list_sort #[_,M,rfl] entry_list_sort (list_sort_tree M Z 00 λm C S R X=>#[_,rfl,?_])<|args_list_sort _;obtain⟨H,L⟩:∃H,((J.push<|bf "list" j.toArray 0).update J.objs.size<|dq λ_=>#[]).get? J.objs.size=B (bf "list" #[] H):=#[_,mO M λ_=>#[]];have I:((((J.push<|bf "list" j.toArray 0).update J.objs.size<|dq λ_=>#[]).push<|bf "tuple" j.toArray 0).push<|bf "list" #[] 0).get? J.objs.size=B (bf "list" #[] H):=Zg _<|Zg _ L;obtain⟨c,hc⟩:∃c,(sortedHeap (J.push<|bf "list" j.toArray 0) J.objs.size j m).get? J.objs.size=B (bf "list" m c):=#[_,mO I λ_=>m];calc Zj #[_,rfl,h J.objs.size _ d2 F m.toList C c S (R.trans O) X (ZC V) (λb o e=>?_)<|by simp_all];have nb:=Z1<|Z0<|keep b o e;show(Z3 _ _<|ZP nb).trans<|Zg _<|Zg _<|(Z3 _ _<|ZP nb).trans<|Zg _<|keep b o e
end
theorem UA(I:Inv X L U H s):Inv X L U H {s with drawn:=d}:=#[I.ok,I.os,I.bare,I.base,I.loc,I.cell,I.free,I.bT,I.pin,I.au,I.len]
section
variable{V:aF}{X:Cx}
def Yp(aa:A1):E1:=λU h=>(aa U h).bind λxs h1=>match xs with|[.ref i]=>(match h1[i]? with|some (.lst ys)=>(match JP ys with|some zs=>if zs.length<64 then .ok (.ref h1.length) (h1++[.lst<|(VI<|iE (Vh zs) zs.length).map .int])else .stuck|none=>.stuck)|_=>.stuck)|_=>.stuck
theorem UB(hh:X.A.handled=Ze)(g1:Gl X "sorted")(m1:X.mg "sorted"=Ze)(g2:Gl X "set")(m2:X.mg "set"=Ze)(ha:dG V X [a] aa)(hs:ZH [a] X.env=[(Zl,a0 a X.env)]):
  ah V X (.Call (.Name "sorted" p) [.Call (.Name "set" p2) [a] [] pos2] [] pos) (Yp aa):=λL s U H Y bF h Q E N K=>by
 calc hV<|Qj N.inv g1 m1 rfl ?_;calc sW ?_ rfl rfl;calc zm ?_;calc hV<|Qj N.inv g2 m2 rfl ?_;calc om ?_ hs rfl;refine(ha pos2).run N K λxs h1 us s1 H1 U1 C n1 r1 j=>?_
 let#[vs,rv,qs]:=r1;match xs,j with
 |[.ref i],j=>
  let#[w,rfl,ad,rfl,R]:=qs.bQ;let#[u,rfl,ru]:=Qz rv;cases ru;dsimp only at j;cases Z:h1[i]? with|none=>rw[Z]at j;show(j).elim|some ob=>
   rw[Z]at j;cases ob with
   |lst ys=>
    dsimp only at j;cases O:JP ys with|none=>rw[O]at j;show(j).elim|some zs=>
     rw[O]at j;dsimp only at j;split at j
     .rename_i room;let#[ws,e1,r3]:=C.at Z R;let#[its,S,pl,_]:=C.inv.list<|bU.of e1;have P:=Vq O r3 S;have dl:=By (Vh zs) zs.length;refine Uh hh pl.isList P (show zs.length+1<4096 by show Zc (Zh room 1)<|Zq _ 4031) λJ tk hS keep=>zo ?_
      let#[ms,hm,I]:=hS;have lm:ms.length<=zs.length:=by rw[I.length_eq];show dl
      refine Uz hh hm (Zc (Zh lm 1) room) λD h3 d3 W M ns' c a1 a2 a3 le m hc=>?_
      have en:=Sf (a2.trans I) a3;subst en;have F:s1.heap.objs.size<=D:=by let#[o,es,ep,t,ho,_]:=hm;show Zc (ZC<|Z0 ho) le
      have hl:((VI<|iE (Vh zs) zs.length).map bB.int).length<=sizeLine:=by have:=(a2.trans I).length_eq;rw[Zp,this,iM];show mH<|Zc (Zc (Zh dl 1) room)<|Zq _ 16777153
      have I':=C.inv.laid (a:=D) (o:=.lst<|(VI<|iE (Vh zs) zs.length).map bB.int) (h':=h3) (t':=W) (λb u q=>m _ _<|keep _ _ q) F #[hl,M,c,XJ a1,hc];show eY C j D (C.inv.au.fresh F) #[_,Jx,A4 _] _ _ (UA (d:=d3) I') rfl
     .show(j).elim
   |_=>show(j).elim
 |[],j=>show(j).elim
 |[.ag],j=>show(j).elim
 |[.bl _],j=>show(j).elim
 |[.int _],j=>show(j).elim
 |[.str _],j=>show(j).elim
 |[.tup _],j=>show(j).elim
 |[.bX _],j=>show(j).elim
 |x::_::_,j=>cases x<;>show(j).elim
end
end L3
namespace L3
open PySem PySem.Spec PyProof.Rows L2 PySem.W
noncomputable def VC (x:IV)(h:IH):Option (Nat×Tw):=match x with|.ref i=>(match h[i]? with|some (.lst xs)=>B (i,xs)|_=>Ze)|_=>Ze
def Hu(e:VC x h=B (i,xs)):x=.ref i/\h[i]?=B (.lst xs):=by
 unfold VC at e;split at e
 .lia
 .cases e
def X8(x:IV)(as:Tw)(h:IH):Res IV:=match VC x h,as with|some (i,xs),[]=>(match xs[xs.length-1]? with|some y=>.ok y<|h.set i<|.lst xs.dropLast|none=>.stuck)|_,_=>.stuck
def XA(x:IV)(as:Tw)(h:IH):Res IV:=match VC x h,as with|some (i,xs),[.int k]=>(match JP xs with|some ns=>(match ns.findIdx? (· ==k)with|some j=>.ok .ag<|h.set i<|.lst<|xs.eraseIdx j|none=>.stuck)|none=>.stuck)|_,_=>.stuck
section
variable{V:aF}{X:Cx}
def UC:oH V X "list" "list.pop" X8:=by
 intro L s U H Y P h x xs v R Q E N m F K;unfold X8 at K;split at K
 .rename_i i zs e;let#[rfl,Z]:=Hu e;split at K
  .rename_i y D;let#[S,m,a,rfl,ha]:=m;let#[W,J,O]:=F;cases (O);let#[ws,C,j]:=N.at Z ha;let#[z,I,M]:=j.get D;show AZ (Ov) N.inv m J #[a,ws,z,rfl,rfl,C,by rw[j.length];show I,m4 N K ha C (by rw[EN,EN,j.length];show j.take _) M]
  .show(K).elim
 .show(K).elim
def UD:oH V X "list" "list.remove" XA:=by
 intro L s U H Y bF h x xs v us Q E N W rs K;unfold XA at K;split at K
 .rename_i i zs k e;let#[rfl,Z]:=Hu e;split at K
  .rename_i ns O;split at K
   .rename_i j hj;let#[xv,W,a,rfl,ha]:=W;let#[vs,rv,qs]:=rs;let#[w,rfl,qw]:=qs.bQ;cases (qw);let#[u,rfl,t,rfl]:=Qz rv;cases W;let#[ws,P,r1]:=N.at Z ha;let#[z,D,n,r,hl,R]:=N.inv.gp P;have I:=Vq O r1 r;have ln:=wy I;let#[C,hp,J]:=EH.mp hj;have at_:∀m (hm:m<D.toArray.size),∃t,D.toArray[m]=.int (ns.getD m 0) t:=λm hm=>zA I m _<|by simp at hm;simp[hm]
    refine qR F.slot_list_remove #[_,R,rfl] F.entry_list_remove (F.args_list_remove_2 _ _)
     (MeetsSeq.list_remove a D.toArray n (.int k t) (A6 k) (λy hy=>?_) j (by simp;show Zc C<|Zn ln.symm) ?_ (λm hm S=>?_)<|by rw[ZI];show Zc (Zn hl.symm) z) #[R,?_]
    .let#[m,hm,rfl]:=Array.mem_iff_getElem.mp hy;let#[t',e]:=at_ m hm;rw[e];show MeetsSeq.EqGives.int _ _ _ _
    .let#[t',e]:=at_ j<|by simp;show Zc C<|Zn ln.symm
     rw[e];simpa[A6,Zv,C]using hp
    .let#[t',e]:=at_ m hm;rw[e];have:=J m S;have M:m<ns.length:=rl 06 06;simpa[A6,Zv,M]using this
    .show m4 N K ha P (r1.erase _) rfl _ _ (N.inv.mT P R (by simp_all) (r.eraseIdx j) (by have:=FO ws j;show Zc this z)) rfl
   .show(K).elim
  .show(K).elim
 .show(K).elim
end
section
variable{pr:ZU}{wd:bq}{A:bP}{E:aH}{s:Zx}
def UE{n:Nat}(H:A.handled=Ze)(D:IsRange s.heap r a b c t u v)(hsmall:Builtin.Range.small a b c=Zi) (hn:E7 a b c=n)(j:n<=2^24)(F:∀h' tk acc,(∀b o,s.heap.get? b=B o->h'.get? b=B o)->s.heap.objs.size<=h'.objs.size->ItemsOf (λi v=>∃t,v=.int (a+i*c) t) acc n->Q acc.toList {s with heap:=h',toks:=tk}):Zw (Zy pr wd) A (collect<|.ref r) Q E s:=by
 unfold collect;calc Zb<|uC<|iK EU ?_;calc Zb<|oV ?_<|ZF _;calc Zj #[jJ vy _,iK EX ?_];rw[kH vy _];refine wpAny_extend_range (R:=λr C=>match r with|.ok (.ret v)=>Zw (Zy pr wd) A (match v with|.ref a=>(do match (<-load a).data with|.seq xs _=>pure xs.toList|_=>unsupported "internal:collect")|_=>unsupported "internal:collect") Q E C|.ok _=>False|.error e=>E e C) H (Zg _ D) hsmall hn j s.heap.objs.size _ 0 (Zt _ rfl) λh' tk acc I keep g m=>?_
 calc Zb<|uO g ?_;show Zj<|F h' tk acc (λb o e=>keep b o (Z1<|Z0 e)<|Zg _ e) (ZC<|Z0 g) m
end
section
variable{V:aF}{X:Cx}
def Yo(q:Str)(j:Nat)(js:Tq)(aa:A1)(m:E1):E1:=λU h=>(aa U h).bind λxs h1=>match xs,h1[j]? with|[.int n],B (.tab q')=>if q'=q/\0<=n/\n<64 then(QJ (λv h'=>m (B v::js.map λj=>(U[j]?).join) h') (aN 0 n) [] h1).bind (XE<|aN 0 n)else .stuck|_,_=>.stuck
theorem UG(hh:X.A.handled=Ze)(hg:Gl X "sorted")(hm:X.mg "sorted"=Ze)(g2:Gl X "range")(m2:X.mg "range"=Ze)(ha:dG V X [a] aa)(hs:ZH [a] X.env=[(Zl,a0 a X.env)])
  (hn:X.A.handled=Ze)(hr:bj κ (k+3) X.A)(R:W.codeIn X.K X.env.code q=Zi)(hq:X.env.qual=q++".<locals>.")(bA:Q0 X.mg X.base)(hx:QK params=B x)(S:iD X.N X.env.scope.names x caps js scope)
  (O:∀f cd s' H',ah V (mn X X.A.in1.in1 (x::caps) q scope f cd s' H') body m):
  ah V X (.Call (.Name "sorted" p) [.Call (.Name "range" p2) [a] [] pos2] [#[B "key",.Lambda params body scope lp,kp],#[B "reverse",.Constant (.bool Zi) ck cp,kp2]] pos) (Yo q j js aa m):=λL s U H Y bF h Q E N K=>by
 have hcl:oY scope X.env=pure (b0 X.env.cells scope.names []):=wk λy hm hk=>N.inv.ok.has y.1<|.inl<|S.free y hm hk
 calc hV<|Qj N.inv hg hm rfl ?_;calc vv ?_ rfl rfl rfl rfl;calc zm ?_;calc hV<|Qj N.inv g2 m2 boot_range ?_;calc om ?_ hs rfl;refine(ha pos2).run N K λxs h1 us C H1 U1 P n1 r1 J=>?_
 let#[vs,rv,qs]:=r1;split at J
 .rename_i n q' ej;split at J
  .rename_i hc;let#[rfl,n0,n64]:=hc;let#[w,rfl,qw]:=qs.bQ;cases (show w=.int n from qw);let#[u,rfl,t,rfl]:=Qz rv;calc call_range_1<|zo ?_;have gr:(C.heap.push {cls:=.type "range",data:=.fields (ba [.int 0 C.toks,.int n t,.int 1<|C.toks+1])}).get? C.heap.objs.size=B {cls:=.type "range",data:=.fields (ba [.int 0 C.toks,.int n t,.int 1<|C.toks+1])}:=Zt _ rfl;have N1':=(P.jF (h':=C.heap.push {cls:=.type "range",data:=.fields (ba [.int 0 C.toks,.int n t,.int 1<|C.toks+1])}) (t':=C.toks+1+1) λb o e=>Zg _ e);have F1:aB X L H1 C.heap.objs.size:=P.inv.df (Zk _)<|P.inv.au.fresh<|Zk _;have N2:=N1'.gO gr F1 λv z=>by cases z
   have K2:=Kont.more (pl:=[(C.heap.objs.size,({cls:=.type "range",data:=.fields (ba [.int 0 C.toks,.int n t,.int 1<|C.toks+1])}:Obj))]) J;refine rF<|Zb<|A8 N2 ej R hq (Bc hx) hcl bA λf c pm I s3 H3 N3 n3 LC=>Zb<|jI<|Zj ?_
   calc rF<|Zb<|Zj<|Zb<|jI<|Zj<|vr ?_;have K3:=Kont.more (pl:=[(f,gM q' params body scope (b0 X.env.cells scope.names []) pm I c)])<|Kont.mono K2 n3;have pr:=N3.inv.pin (C.heap.objs.size,{cls:=.type "range",data:=.fields (ba [.int 0 C.toks,.int n t,.int 1<|C.toks+1])})<|Zr _<|ZZ _<|Zr _<|Z8.mpr rfl;calc call_function_entry_kw kind_sorted plain_sorted entry_sorted (ksk_s2 _ _ _) ?_;unfold dz.«sorted»;calc Zb (m:=checkCount "sorted" 1 1 _)<|Zj ?_;refine Zb<|UE (n:=n.toNat) hh pr.1 (small_one 01 01 05 05) ?_ 05 λh4 tk M keep le F=>?_
   .rw[rangeSize_one];split<;>lia
   have are:fz M.toList ((ZK n.toNat).map λk=>((k:Nat):Int)):=by
    refine GR _ _ (by simp[F.1]) λi v hv=>?_
    let#[t,rfl]:=F.2 i v<|by simpa using hv
    have Z:i<n.toNat:=by have:=(Zu.mp hv).1;simp![iV,F.1]at this;show this
    show#[t,by simp[Zv,Z]]
   calc T8 (G:=λH=>QC H q'<|.ref c) (mk:=λv h'=>m (B v::js.map λj=>(bF[j]?).join) h') (ys:=aN 0 n) (λa=>ksk_t2 f a Zi) (λa=>ksk_l2 a _ _) ?_ (λH H' e g=>g.mono e.aO) N3 LC keep le (XJ are) (by rw[XB];show A4 _) (by rw[XB];simp;show n64) (λD s' q=>#[_,rfl,q]) K3;intro pl s4 H4 W4 h4 v u Q4 N4 g4 ru4 K4;have pf:=N4.inv.pin (f,gM q' params body scope (b0 X.env.cells scope.names []) pm I c)<|Zr _<|ZZ _<|Zr _<|Z8.mpr rfl;show A9 (A:=X.A.in1.in1) N.inv.ok.frames hr.in1.in1 (.inl hn) N4 pf.1 g4 hx S (O f<|.ref c) ru4 K4
  .show Zf J
 .show Zf J
end
end L3
namespace L3
open PySem PySem.Spec PyProof.Rows L2
def tU{α:Type}:List α->List α|a::_::l=>a::tU l|l=>l
theorem aw.tU{K:W.Frag}:∀{xs:Tw}{vs:Uc},aw K Y H xs vs->aw K Y H (L3.tU xs) (L3.tU vs)|[],_,h=>by cases (show _=[]from h);show rfl|[_],_,h=>by let#[v,r,rfl,q,e]:=h;cases (show r=[]from e);show#[v,[],rfl,q,rfl]|_::_::_,_,h=>by let#[v,r,rfl,q,u,j,rfl,_,t]:=h;show#[v,_,rfl,q,aw.tU t]
end L3
namespace L4
open PySem PySem.Spec PyProof.Rows L2 L3
noncomputable def bw:E1:=λ_ _=>.stuck
noncomputable def m9:T1:=λ_ _=>.stuck
noncomputable def UH:O1:=λ_ _=>.stuck
noncomputable def stI:I1:=λ_ _=>.stuck
noncomputable def mq:G1:=λ_ _ _=>.stuck
noncomputable def b8:S1:=λ_ _=>.stuck
structure Fn where
 np:Nat
 aL:Tw
 run:Tw->IH->Res IV
 cl:Bool
abbrev _root_.Th:=Option Fn
set_option genInjectivity false in
structure Pg where
 fn:Str->Th
 cls:Str->Th
 fh:Str->Str->Th
 mw:Str->Bool
 con:Str->Tf
 mu:Str->Option (Str->Bool)
 fld:Str->Bool
 free:Str->Bool
 tabs:Str->Ta
 mx:Str->Bool
 xi:Str->Option (Str->Ww)
 xo:Str->Th
 xf:Str->Str->Bool
 xb:Str->Bool
structure Sc where
 N:Tk
 names:Wj
 own:Bool
 q:Str
 cl:Bool
noncomputable def dD (x:Str):Tk->Ta|[]=>Ze|y::r=>if y==x then B 0 else(dD x r).map (· + 1)
noncomputable def Sc.nc (S:Sc)(x:Str):Ta:=match S.names.lookup x with|some .local=>if x=="__debug__"||x=="__classdict__" then Ze else dD x S.N|some .cell=>if x=="__debug__"||x=="__classdict__" then Ze else dD x S.N|some .free=>if x=="__debug__"||x=="__classdict__" then Ze else dD x S.N|_=>Ze
noncomputable def Sc.gl (S:Sc)(x:Str):Bool:=S.names.lookup x==B .globalImplicit&&!(x=="__debug__")&&!(x=="__name__")
noncomputable def Sc.hJ (S:Sc)(x:Str):Ta:=match S.names.lookup x with|some .local=>dD x S.N|some .cell=>if S.own then dD x S.N else Ze|_=>Ze
def Hv:Const->E1|.int i=>eC<|.int i|.bool b=>eC<|.bl b|.none=>eC .ag|.str x=>eC<|.str x|_=>bw
def binI:sF->IV->IV->IH->Res IV|.Add=>Jq|.Sub=>Qe|.Mult=>Qd|.FloorDiv=>JQ|.Mod=>J0|.Pow=>JK|_=>λ_ _ _=>.stuck
def fS:CmpOp->IV->IV->IH->Res IV|.Lt=>mf|.LtE=>fA|.Gt=>f6|.GtE=>pX|.Eq=>kX|.NotEq=>kY|.Is=>oF|.IsNot=>VV|.In=>oE|.NotIn=>AN
def vQ:UnaryOp->IV->IH->Res IV|.Not=>VF cH|.USub=>VE|_=>λ_ _=>.stuck
def BB:Tx->E1|[]=>bw|[a]=>a|a::b::r=>iw a (BB<|b::r) cH
def qe:Tx->E1|[]=>bw|[a]=>a|a::b::r=>pW a (qe<|b::r) cH
def BC:List T1->T1|[]=>m9|[a]=>a|a::b::r=>Qy a<|BC<|b::r
def qf:List T1->T1|[]=>m9|[a]=>a|a::b::r=>iy a<|qf<|b::r
def cb:Tx->A1|[]=>Jc|a::r=>Jb a<|cb r
noncomputable def Jy:Expr->Bool|.Starred .. =>Zl|_=>Zi
def X4:Expr->Bool|.Set .. =>Zl|_=>Zi
def Xf:Expr->Bool|.Slice .. =>Zl|_=>Zi
def Vy:Expr->Bool|.ListComp .. =>Zl|.SetComp .. =>Zl|.DictComp .. =>Zl|_=>Zi
def Vj:Expr->Bool|.Call (.Name ..) [] [] _=>Zl|_=>Zi
def ng:Expr->Bool|.UnaryOp .USub (.Constant (.int 1) _ _) _=>Zi|_=>Zl
noncomputable def Fn.fill (f:Fn)(c:Bool)(n:Nat):Option (Tw):=if n<=f.np/\f.np<=n+f.aL.length/\(!f.cl||c)=Zi then B (f.aL.drop<|f.aL.length-(f.np-n))else Ze
def VX(c:Bool)(f:Fn)(n:Nat)(a:A1):E1:=match f.fill c n with|some d=>Ji f.run d a|none=>bw
def wO(b:Bool)(c:Str)(f:Fn)(n:Nat)(a:A1):E1:=match f.fill b (n+1)with|some d=>JV c f.run d a|none=>bw
def tV(x:Str):Tw->IH->Res IV:=if x=="len" then bu bH else if x=="all" then bu allI else if x=="sum" then bu eF else if x=="min" then bu VD else if x=="max" then bu Vw else λ_ _=>.stuck
def tW(x:Str):Tw->IH->Res IV:=if x=="list" then bu QM else if x=="tuple" then bu VM else λ_ _=>.stuck
noncomputable def BD (x:Str):Bool:=x=="len"||x=="all"||x=="sum"||x=="min"||x=="max"
noncomputable def BE (x:Str):Bool:=x=="list"||x=="tuple"
def wQ(P:Pg)(x:Str):Option (Ty->Ww):=match P.mu x with
 |some g=>B λt=>match t with|.ins c=>B (g c)|.exc _=>Ze|_=>B Zl
 |none=>if P.free x then(if x=="int" then B AP else if x=="bool" then B AQ else if x=="str" then B AR else if x=="list" then B XY else if x=="tuple" then B AS else Ze)else Ze
def BF(o:Option<|Ty->Ww)(e:E1):E1:=match o with|some ans=>dC ans e|none=>bw
def dN(T:String)(m:Str)(n:Nat):Option (IV->Tw->IH->Res IV):=if T=="list"&&m=="append"&&n==1 then B VS else if T=="list"&&m=="extend"&&n==1 then B Xa else if T=="list"&&m=="pop"&&n==0 then B X8 else if T=="list"&&m=="remove"&&n==1 then B XA else if T=="str"&&m=="join"&&n==1 then B Xz else Ze
def JE(P:Pg)(m:Str)(n:Nat):Str->Option ((Tw->IH->Res IV)×Tw):=λc=>match P.fh c m with|some f=>(match f.fill Zi (n+1)with|some d=>B (f.run,d)|none=>Ze)|none=>Ze
def Xy(v:IV)(h:IH):Bool:=match v with|.ref i=>(match h[i]? with|some (.ins ..)=>Zi|_=>Zl)|_=>Zl
def rZ(v:IV)(h:IH):String:=match v with|.str _=>"str"|.bX _=>"list"|.ref i=>(match h[i]? with|some (.lst _)=>"list"|some (.aY _)=>"dict"|_=>"")|_=>""
def Jo(P:Pg)(m:Str)(n:Nat)(o:E1)(a:A1):E1:=λU h=>match o U h with|.ok v h1=>if Xy v h1 then v8 m (JE P m n) o a U h else(match dN (rZ v h1) m n with|some g=>rW (rZ v h1) g o a U h|none=>.stuck)|_=>.stuck
def Hw(n:Nat)(a:A1):I1:=match n with|1=>cT JX a|2=>cT VB a|_=>stI
def nh:List G1->Tw->aA->IH->bM|[]=>gN|g::r=>gC g<|nh r
noncomputable def Vv (sc:eL):Tk:=sc.names.filterMap λx=>if x.2==.local&&!(x.1==(".0":Str))then B x.1 else Ze
noncomputable def Q6 (sc:eL):Tk:=sc.names.filterMap λx=>if x.2==.free then B x.1 else Ze
def dE(S:Sc)(sc:eL):Tq:=(Q6 sc).map λx=>(dD x S.N).getD 0
def Sc.comp(S:Sc)(sc:eL):Sc where
 N:=Vv sc++Q6 sc
 names:=sc.names.map λx=>if x.2==.free&&S.names.lookup x.1==B .cell then(x.1,.cell)else x
 own:=Zl
 q:=""
 cl:=S.cl
def Sc.lam(S:Sc)(x:Str)(sc:eL):Sc where
 N:=x::Q6 sc
 names:=sc.names
 own:=Zl
 q:=""
 cl:=S.cl
def Qx(S:Sc)(x:Str)(sc:eL):Bool:=sc.kind==.function&&!sc.isCoroutine&&!sc.isGenerator&&sc.names.all (λy=>!(y.2==.cell))&&sc.names.lookup x==B .local&&sc.names.all (λy=>!(y.2==.free)||S.names.lookup y.1==B .cell) && (Q6 sc).all (λy=>decide (S.N[(dD y S.N).getD 0]?=B y)&&sc.names.lookup y==B .free)&&decide (x::Q6 sc).Nodup
def Sc.lg(S:Sc):eL:={kind:=.function,names:=S.names,isGenerator:=Zl,isCoroutine:=Zl}
noncomputable def BG:Expr->Bool|.Name x _=>x=="last_come"||x=="tops"||x=="last"||x=="_law_last"||x=="_law_last_here"||x=="_law_lows_here"|_=>Zl
def BH(a:Expr):IV->IV->IH->Res IV:=if BG a then QT else Jh
def BI:Expr->Bool|.Name x _=>x=="_law_word_here"||x=="_law_name"|.Subscript .. =>Zi|.Constant (.str _) _ _=>Zi|_=>Zl
def BJ(a:Expr):IV->Wz->Wz->IH->Res IV:=if BI a then oK else kW
def jX(o:CmpOp)(b:Expr):IV->IV->IH->Res IV:=match o with|.In=>if BG b then fQ else oE|o=>fS o
def qg(a:Expr)(o i:E1):G1:=if BG a then gJ o i else mq
def wR:Expr->Wv|.Call (.Name y _) [e] [] _=>if y=="set"&&Jy e then B e else Ze|_=>Ze
def wU:Expr->Wv|.Call (.Name y _) [e] [] _=>if y=="range"&&Jy e then B e else Ze|_=>Ze
def BK:Expr->Bool|.Call (.Name y _) _ _ _=>y=="ceilings"|_=>Zl
def BL(P:Pg)(S:Sc)(x:Str)(f:Expr->E1):Te->E1|[a,b]=>if x=="max" then bt (mj jS) (Jb (f a)<|Jb (f b) Jc)else if x=="min" then bt (mj m6) (Jb (f a)<|Jb (f b) Jc)else(match b with|.Name y _=>if x=="isinstance"&&S.gl y then BF (wQ P y) (f a)else bw|_=>bw)|[a]=>(match (if x=="len"&&S.gl "set"&&P.free "set" then wR a else Ze)with|some e=>Ym<|Jb (f e) Jc|none=>match (if x=="list"&&S.gl "range"&&P.free "range" then wU a else Ze)with|some _=>bw|none=>if x=="len"&&BK a then bt (bu Xd) (Jb (f a) Jc)else if BD x then bt (tV x) (Jb (f a) Jc)else if BE x then bt (tW x) (Jb (f a) Jc)else bw)|_=>bw
def isNm:Expr->Bool|.Call .. =>Zl|_=>Zi
def wV(x:Str)(args:Te):Bool:=x=="max"||x=="isinstance"||((x=="len"||x=="list")&&args.all isNm)
def Hx:Te->Wv|[a]=>wR a|_=>Ze
def wW(P:Pg)(S:Sc)(x:Str)(f:Expr->E1)(args:Te):E1:=if (S.cl||wV x args)=Zl then bw else match (if x=="sorted"&&S.gl "set"&&P.free "set" then Hx args else Ze)with|some e=>Yp<|Jb (f e) Jc|none=>BL P S x f args
def Hy:Expr->Bool|.Constant (.bool Zi) _ _=>Zi|_=>Zl
def BM(P:Pg)(S:Sc)(f:Sc->Expr->E1)(x:Str)(a:Expr)(k:Str)(ps:uS)(body:Expr)(sc:eL)(k2:Str)(d:Expr):E1:=match wU a,QK ps,P.tabs S.q with|some e,B y,B j=>if x=="sorted"&&k=="key"&&k2=="reverse"&&Hy d&&S.gl x&&P.free x&&S.gl "range"&&P.free "range"&&S.own&&Qx S y sc then Yo S.q j (dE S sc) (Jb (f S e) Jc) (f (S.lam y sc) body)else bw|_,_,_=>bw
def tX(P:Pg)(S:Sc)(f:Sc->Expr->E1)(x:Str)(a:Expr)(k:Str):Expr->E1|.Lambda ps body sc _=>(match QK ps,P.tabs S.q with|some y,B j=>if x=="min"&&k=="key"&&S.gl x&&P.free x&&Jy a&&S.own&&Qx S y sc then Xw jG S.q j (dE S sc) (Jb (f S a) Jc) (f (S.lam y sc) body)else bw|_,_=>bw)|_=>bw
def BN(P:Pg)(S:Sc)(f:Sc->Expr->E1)(x:Str)(args:Te)(kws:To):E1:=match args,kws with|[a],[⟨B k,d,_⟩]=>if x=="max"&&k=="default"&&S.gl x&&P.free x&&Jy a then VY (Jb (f S a) Jc) (f S d)else tX P S f x a k d|[a],[⟨B k,.Lambda ps body sc _,_⟩,⟨B k2,d,_⟩]=>if x=="sorted" then(if S.cl then BM P S f x a k ps body sc k2 d else bw)else(match QK ps,P.tabs S.q with|some y,B j=>if x=="max"&&k=="key"&&k2=="default"&&S.gl x&&P.free x&&Jy a&&S.own&&Qx S y sc then Yn m8 S.q j (dE S sc) (Jb (f S a) Jc) (f (S.lam y sc) body) (f S d)else bw|_,_=>bw)|_,_=>bw
def wX(P:Pg)(S:Sc)(m:Str):Expr->Th|.Name x _=>if m=="__init__"&&S.gl x&&P.mx x then P.cls x else Ze|_=>Ze
def BO(P:Pg)(S:Sc)(m:Str):Expr->Bool|.Name x _=>m=="__init__"&&S.gl x&&P.xb x|_=>Zl
def wY(P:Pg)(S:Sc)(m:Str)(n:Nat)(o:Expr)(a:A1)(e:E1):E1:=if BO P S m o&&decide (n≠0)then Yk (λc=>(P.xo c).isSome) a else e
def BP(P:Pg)(c:Bool)(m:Str)(n:Nat)(b:Th)(o:E1)(a:A1):E1:=match b with|some f=>if n=0 then bw else VX c f n a|none=>if c||P.mw m then Jo P m n o a else bw
def BQ(ifs:Te)(f:Expr->T1)(m:T1->E1):E1:=match ifs with|[]=>m J7|[c]=>m<|f c|_=>bw
section
mutual
def ev(P:Pg):Nat->Sc->Expr->E1|0,_,_=>bw|n+1,S,e=>match e with
  |.Constant c _ _=>Hv c
  |.Name x _=>(match S.nc x with|some i=>Ja i|none=>if S.gl x then(match P.con x with|some v=>eC v|none=>bw)else bw)
  |.BinOp a op b _=>Je (binI op) (ev P n S a)<|ev P n S b
  |.UnaryOp op a _=>dH (vQ op)<|ev P n S a
  |.BoolOp .And vs _=>BB<|vs.map<|ev P n S
  |.BoolOp .Or vs _=>qe<|vs.map<|ev P n S
  |.IfExp t a b _=>kQ (lh P n S t) (ev P n S a)<|ev P n S b
  |.Compare a [o] [b] _=>if qO o b then bw else Je (jX o b) (ev P n S a) (ev P n S b)
  |.Compare a [o,o'] [b,c] _=>if qT [o,o'] [b,c]then bw else JU (fS o) (fS o') (ev P n S a) (ev P n S b) (ev P n S c)
  |.JoinedStr (a::b::r) _=>k9<|(a::b::r).map<|ev P n S
  |.FormattedValue a c Ze _=>if c=-1 then dH fb (ev P n S a)else bw
  |.Tuple es _ _=>if es.all Jy then cG (cb<|es.map<|ev P n S)else bw
  |.Dict [] [] _=>Xv
  |.List es _=>if es.all Jy then J2 (cb<|es.map<|ev P n S)else bw
  |.Subscript a (.Slice lo Z Ze _) _=>kn (BJ a) (ev P n S a) (BR P n S lo)<|BR P n S Z
  |.Subscript a (.Slice Ze Ze (B st) _) _=>if ng st then dH gG (ev P n S a)else bw
  |.Subscript a i _=>if Xf i then Je (BH a) (ev P n S a) (ev P n S i)else bw
  |.Attribute o f _=>if Vj o then(if P.fld f then Jk f (ev P n S o)else Yl (P.xf f) f (ev P n S o))else bw
  |.Call (.Name x _) args [] _=>if S.gl x&&args.all Jy then BS P n S x args else bw
  |.Call (.Name x _) args (kw::kws) _=>BN P S (λS e=>ev P n S e) x args<|kw::kws
  |.Call (.Attribute o m ap) args [] p=>if args.all Jy&&Vj o&&(ap.endLine==p.line)&&decide (args.length<30)then wY P S m args.length o (cb<|args.map<|ev P n S) (BP P S.cl m args.length (wX P S m o) (ev P n S o)<|cb<|args.map<|ev P n S)else bw
  |.ListComp elt [⟨tg,iter,ifs,as⟩] sc _=>
   if as=0/\X4 iter=Zi/\QF S.N (Vv sc) (Q6 sc) (dE S sc) S.lg sc=Zi then BQ ifs (lh P n<|S.comp sc) λmt=>Jv (r7 P n S tg iter) (Vv sc).length (dE S sc) (my P n (S.comp sc) tg) mt<|ev P n (S.comp sc) elt
   else bw
  |_=>bw
def lh(P:Pg):Nat->Sc->Expr->T1|0,_,_=>m9|n+1,S,e=>match e with|.UnaryOp .Not a _=>Qa<|lh P n S a|.BoolOp .And vs _=>BC<|vs.map<|lh P n S|.BoolOp .Or vs _=>qf<|vs.map<|lh P n S|.IfExp .. =>m9|.Compare a [o] [b] _=>if qO o b then m9 else Jl aV (Je (jX o b) (ev P n S a)<|ev P n S b)|.Compare a [o,o'] [b,c] _=>if qT [o,o'] [b,c]then m9 else Jl aV (JU (fS o) (fS o') (ev P n S a) (ev P n S b)<|ev P n S c)|.Compare .. =>m9|e=>Jl cH<|ev P n S e
def BR(P:Pg):Nat->Sc->Wv->O1|0,_,_=>UH|_+1,_,Ze=>Xg|n+1,S,B e=>Qp<|ev P n S e
def BS(P:Pg):Nat->Sc->Str->Te->E1|0,_,_,_=>bw|n+1,S,x,args=>match P.fn x with|some f=>VX S.cl f args.length<|cb<|args.map<|ev P n S|none=>match P.cls x with|some f=>wO S.cl x f args.length<|cb<|args.map<|ev P n S|none=>if P.free x then wW P S x (ev P n S) args else bw
def r7(P:Pg):Nat->Sc->Expr->Expr->I1|0,_,_,_=>stI|n+1,S,tg,e=>match e with
  |.Call (.Name x _) args [] _=>
   if S.gl x&&P.free x&&args.all Jy&&(x=="range")then Hw args.length (cb<|args.map<|ev P n S)
   else if S.gl x&&P.free x&&args.all Jy&&(x=="enumerate")then(match tg,args with|.Tuple ..,[a]=>cT Vs<|Jb (ev P n S a) Jc|_,_=>stI)
   else Ju (ev P n S e)
  |e=>Ju<|ev P n S e
def my(P:Pg):Nat->Sc->Expr->G1|0,_,_=>mq|n+1,S,e=>match e with|.Name x _=>(match S.hJ x with|some i=>br i|none=>mq)|.Tuple es _ _=>if es.all Jy then oB es.length (nh<|es.map<|my P n S)else mq|.Subscript o i _=>if Xf i then qg o (ev P n S o) (ev P n S i)else mq|_=>mq
end
end
noncomputable def VO (t:T1)(b:S1):Nat->S1|0,_,_=>.stuck|n+1,U,h=>match t U h with|.ok c h1=>if c then(match b U h1 with|.next W2 J=>VO t b n W2 J|.cont W2 J=>VO t b n W2 J|.brk W2 J=>.next W2 J|.ret v J=>.ret v J|.exc m W2 J=>(match J[m]? with|some (.exc _ _)=>.exc m W2 J|_=>.stuck)|_=>.stuck)else .next U h1|_=>.stuck
@[irreducible] def YE:Nat:=1000000
def BU(o:Bool)(t:T1)(b:S1):S1:=match o with|true=>VO t b YE|false=>b8
def Xk(t:T1)(b:S1):S1:=BU Zi t b
theorem UI(t)(b):Xk t b=VO t b YE:=rfl
noncomputable def mz:sF->IV->IV->IH->Res IV|.Add,.int i,.int j,h=>.ok (.int<|i+j) h|_,_,_,_=>.stuck
def ni(op:sF)(i:Nat)(e:E1):S1:=λU h=>rS U (Ja i U h) λx h1=>rS U (e U h1) λy J=>rS U (mz op x y J) λz h3=>.next (U.set i<|B z) h3
def XC(op:sF)(f:Str)(o e:E1):S1:=λU h=>rS U (o U h) λov h1=>match ov with|.ref i=>(match h1[i]? with|some (.ins _ fs)=>(match fs.lookup f with|some x=>rS U (e U h1) λy J=>rS U (mz op x y J) λz h3=>(match h3[i]? with|some (.ins c gs)=>if gs.length<1000 then .next U (h3.set i<|.ins c<|bG f z gs)else .stuck|_=>.stuck)|none=>.stuck)|_=>.stuck)|_=>.stuck
def wZ:IV->IV->IH->Res IV
 |.ref i,.int k,h=>match h[i]? with
  |some (.lst xs)=>(match bW xs k with
   |some v=>if 0<=k then .ok v h else .stuck
   |none=>.stuck)
  |_=>.stuck
 |_,_,_=>.stuck
def XD(op:sF)(o k e:E1):S1:=λU h=>rS U (o U h) λov h1=>rS U (k U h1) λkv J=>rS U (wZ ov kv J) λx h3=>rS U (e U h3) λy h4=>rS U (mz op x y h4) λz h5=>m5 ov kv z U h5
def dO:List S1->S1|[]=>Jw|[a]=>a|a::b::r=>Jg a<|dO<|b::r
def BV:Expr->Bool|.Tuple .. =>Zl|_=>Zi
def w3:Expr->Bool|.Tuple .. =>Zi|_=>Zl
def lq:Expr->Bool|.ListComp .. =>Zi|_=>Zl
def w5:Expr->Bool|.Subscript .. =>Zi|_=>Zl
abbrev Xi:=Str->Option (Str->Ww)
section
def BW(S:Sc):Wx->Option (Ta)|none=>B Ze|some x=>if S.names.lookup x==B .local then(dD x S.N).map B else Ze
def qh(S:Sc):dZ->S1|.Assign [.Name x _] (.Constant c _ _) _=>(match S.hJ x with|some i=>Jj i<|Hv c|none=>b8)|_=>b8
def BX(S:Sc)(m:dZ->S1)(sl:Ta)(suite:Tn):S1:=match sl with|some i=>if i<S.N.length then Xj i (dO<|suite.map m)else b8|none=>dO<|suite.map<|qh S
def BY(P:Pg)(S:Sc)(m:dZ->S1):Eu->Option GV|.ExceptHandler (B (.Name D _)) nm (b::suite) _=>if S.gl D then(match P.xi D,BW S nm with|some g,B sl=>B (g,sl,BX S m sl<|b::suite)|_,_=>Ze)else Ze|_=>Ze
def lu(P:Pg)(S:Sc)(m:dZ->S1):Ts->Option (Tr)|[]=>B []|h::r=>match BY P S m h,lu P S m r with|some q,B l=>B<|q::l|_,_=>Ze
end
def qj(K:W.Frag)(mg:Str->Tc)(xi:Xi)(xf:Str->Str->Bool):Prop:=(∀D g,xi D=B g->∃v,(mg D=B v\/(mg D=Ze/\ka D=B v)) /\ ∀c C b,g c=B b->W.nsIn K Z2 c=B (B<|.ref C)->gF K C/\W.kitOne K (.ref C) v=B b/\W.exmOne K (.ref C) v=B b) /\ ∀f c C,xf f c=Zi->W.nsIn K Z2 c=B (B<|.ref C)->fR K C f/\gF K C/\W.findIn K (.ref C) f=B Ze
section
def BZ(P:Pg)(S:Sc)(m:Expr->E1)(x:Str)(e:Expr):S1:=match P.xo x with|some f=>if S.cl&&S.gl x&&Jy e&&decide (f.np<=8)then(match f.fill S.cl 2 with|some d=>Y6 (λc=>c==x)<|wG x f.run d<|cb<|[e].map m|none=>b8)else b8|none=>b8
def B0(P:Pg)(S:Sc)(m:Expr->E1)(exc cause:Wv):S1:=match exc,cause with|some (.Call (.Name x _) [e] [] _),Ze=>BZ P S m x e|_,_=>b8
def qk(P:Pg)(S:Sc)(m mw:dZ->S1)(body:Tn)(hs:Ts)(o f:Tn):S1:=match hs,o,f with|h::r,[],[]=>if S.own then(match lu P S mw (h::r)with|some ms=>jj (dO<|body.map m) ms|none=>b8)else b8|_,_,_=>b8
end
def B1(P:Pg)(f:Str)(o e:E1):S1:=if P.fld f then JJ f o e else wH (P.xf f) f o e
section
def ex(P:Pg):Nat->Sc->dZ->S1|0,_,_=>b8|n+1,S,st=>match st with|.Pass _=>F4|.Break _=>F5|.Continue _=>F6|.Expr e _=>if Vy e then JA (ev P n S e)else b8|.Return Ze _=>F9|.Return (B e) _=>Jm<|ev P n S e|.If c a b _=>bY (lh P n S c) (dO<|a.map<|ex P n S)<|dO<|b.map<|ex P n S|.While c a [] _=>BU S.own (lh P n S c)<|dO<|a.map<|ex P n S|.For tg it a [] _=>if X4 it&&S.own then cz (r7 P n S tg it) (my P n S tg) (dO<|a.map<|ex P n S)else b8|.Assign [.Name x _] e _=>if Vy e||lq e then(match S.hJ x with|some i=>Jj i<|ev P n S e|none=>b8)else b8|.Assign [.Attribute o f _] e _=>if Vy e||lq e then B1 P f (ev P n S o) (ev P n S e)else b8|.Assign [tg] e _=>if Vy e&&((w3 tg&&BV e)||w5 tg)then eZ (ev P n S e) (my P n S tg)else b8|.Raise exc cause _=>B0 P S (ev P n S) exc cause|.Try body hs o f _=>qk P S (ex P n S) (ex P n {S with cl:=Zl}) body hs o f|.AugAssign (.Name x _) op e _=>(match S.hJ x with|some i=>ni op i<|ev P n S e|none=>b8)|.AugAssign (.Attribute o f _) op e _=>if P.fld f then XC op f (ev P n S o) (ev P n S e)else b8|.AugAssign (.Subscript o k _) op e _=>if Xf k then XD op (ev P n S o) (ev P n S k) (ev P n S e)else b8|_=>b8
end
structure qm(V:aF)(prog:ZU)(w:bq)(K:W.Frag)(mg:Str->Tc)(base:aM)(k:Nat)(f:Fn)(fa:Z4)(fd:gY)(ps:Tk):Prop where
 len:ps.length=f.np
 ok:bx prog w K mg base (d9 prog w) f.cl k fa fd ps<|i2 V K ps f.run
 dv:∀j,j<=f.aL.length->∃ds,JO K fd ps ds/\ds.length=f.aL.length-j/\∃vs,Vals vs ds/\∀Y H,aw K Y H (f.aL.drop j) vs
structure tZ(V:aF)(k:Nat)(P:Pg)(prog:ZU)(w:bq)(K:W.Frag)(mg:Str->Tc)(base:aM):Prop where
 fn:∀x f,P.fn x=B f->∃fa fd ps,mg x=B (.ref fa)/\W.keepIn K (.ref fa)=Zi/\qm V prog w K mg base k f fa fd ps
 cls:∀x f,P.cls x=B f->∃C fa fd ps,mg x=B (.ref C)/\V x=B C/\Mk K C fa/\qm V prog w K mg base k f fa fd ps
 fh:∀c m f,P.fh c m=B f->∃C fa fd ps,V c=B C/\kM K C/\Meth K C m fa/\qm V prog w K mg base k f fa fd ps
 mw:∀m,P.mw m=Zi->∀c f,P.fh c m=B f->f.cl=Zl
 con:∀x v,P.con x=B v->∃u y,mg x=B u/\RelV y u/\∀Y H,RV K Y H v y
 mu:∀D g,P.mu D=B g->∃c,mg D=B c/\fP V K c λt=>match t with|.ins c=>B (g c)|.exc _=>Ze|_=>B Zl
 fld:∀f,P.fld f=Zi->XX V K f
 free:∀x,P.free x=Zi->mg x=Ze
 blt:∀q j,P.tabs q=B j->Q0 mg base
 xi:qj K mg P.xi P.xf
 mx:∀x,P.mx x=Zi->∃C,mg x=B (.ref C)/\jU K C
 xo:∀x f,P.xo x=B f->∃C fa fd ps,mg x=B (.ref C)/\W.nsIn K Z2 x=B (B<|.ref C)/\Qh K C fa=Zi/\W.keepIn K (.ref C)=Zi/\(∀h:aM,K.In h->oM h C)/\qm V prog w K mg base k f fa fd ps
 xb:∀x,P.xb x=Zi->∃C,mg x=B (.ref C)/\jV K C
structure Good(V:aF)(k:Nat)(P:Pg)(S:Sc)(X:Cx):Prop where
 n:X.N=S.N
 sc:X.env.scope.names=S.names
 nd:S.N.Nodup
 fk:X.env.scope.kind=.function
 calm:X.calm=Zi
 room:bj S.cl (k+1) X.A
 st:S.own=Zi->∀x,X.fn x=Zi
 pg:tZ V k P X.prog X.w X.K X.mg X.base
 code:S.own=Zi->W.codeIn X.K X.env.code S.q=Zi/\X.env.qual=S.q++".<locals>."
 fj:S.own=Zi->bj S.cl (k+3) X.A
 top:S.own=Zi->X.stack=X.env::X.outer/\X.env.frame=B X.env.locals
section
variable{V:aF}{k:Nat}{P:Pg}{S:Sc}{X:Cx}{α β:Type}{R:pV α β}
theorem Jn:PX V X R t (λ_ _=>.stuck):=λ_ _ _ _ _ _ _ _ _ _ K=>(K).elim
def UJ(C:∀bF h,∃j,m bF h=j bF h/\PX V X R t j):PX V X R t m:=by intro L s U H Y bF h Q E N K;let#[j,e,p]:=C bF h;rw[e]at K;show p L s U H Y bF h Q E N K
theorem w6:jf V X tg e stI:=λ_ _ _ _ _ _ _ _ _ _ K=>(K).elim
theorem X6:je V X e mq:=λ_ _ _ _ _ _ _ _ _ _ _ _ _ K=>(K).elim
theorem JI:Aw V X t b8:=λ_ _ _ _ _ _ _ _ _ _ K=>(K).elim
theorem Yv:∀{l:Tk}{i:Nat},dD x l=B i->l[i]?=B x
 |[],_,h=>by cases h
 |y::r,i,h=>by
  unfold dD at h;split at h
  .rename_i e;cases h;simp[beq_iff_eq.mp e]
  .let#[j,m,rfl]:=Z6.mp h;simpa using Yv m
def Good.kind(G:Good V k P S X)(x):X.env.kindOf x=S.names.lookup x:=by change X.env.scope.names.lookup x=_;rw[G.sc]
def Good.nc(G:Good V k P S X)(h:S.nc x=B i):X.N[i]?=B x/\pM X.env.scope x/\(x==("__debug__":Str))=Zl/\(x==("__classdict__":Str))=Zl:=by
 unfold Sc.nc at h;have fin:∀{o:nB},(o=.local\/o=.cell\/o=.free)->S.names.lookup x=B o->(if (x==("__debug__":Str)||x==("__classdict__":Str))=Zi then Ze else dD x S.N)=B i ->X.N[i]?=B x/\pM X.env.scope x/\(x==("__debug__":Str))=Zl/\(x==("__classdict__":Str))=Zl:=λm e h=>by
  split at h
  .cases h
  .rename_i hd;have j:=rC.mpr hd;rw[Bool.or_eq_false_iff]at j;calc#[by rw[G.n];show Yv h,?_,j.1,j.2];unfold pM;rw[G.sc,e];rcases m with rfl|rfl|rfl
   .show .inl rfl
   .show .inr<|.inl rfl
   .show .inr<|.inr rfl
 cases e:S.names.lookup x with|none=>rw[e]at h;cases h|some o=>rw[e]at h;cases o with| «local» =>show fin (.inl rfl) e h|cell=>show fin (.inr<|.inl rfl) e h|free=>show fin (.inr<|.inr rfl) e h|_=>cases h
def Good.gl(G:Good V k P S X)(h:S.gl x=Zi):Gl X x/\(x==("__debug__":Str))=Zl/\x≠"__name__":=by
 unfold Sc.gl at h;simp![Zs,beq_iff_eq,nZ]at h;refine#[?_,h.1.2,λe=>?_]
 .change X.env.kindOf x=_;rw[G.kind];show h.1.1
 .lia
def Good.hJ(G:Good V k P S X)(h:S.hJ x=B i):X.N[i]?=B x/\Loc X.env.scope x/\(X.fn x=Zi\/X.env.scope.names.lookup x=B .local):=by
 unfold Sc.hJ at h;unfold L2.Loc;rw[G.sc];cases e:S.names.lookup x with|none=>rw[e]at h;cases h|some o=>
  rw[e]at h;cases o with
  | «local» =>show#[by rw[G.n];show Yv h,.inl rfl,.inr rfl]
  |cell=>
   dsimp only at h;split at h
   .rename_i j;show#[by rw[G.n];show Yv h,.inr rfl,.inl<|G.st j x]
   .cases h
  |_=>cases h
def Good.nodup(G:Good V k P S X):X.N.Nodup:=by rw[G.n];show G.nd
theorem Good.r8(G:Good V k P S X)(h:b=Zi->S.cl=Zi):Roo b (k+1) X:=#[#[λz=>G.room.hd<|h z,G.room.dp,G.room.un],G.calm]
def Jz(h:Jy a=Zi):ZH (a::es) env=(Zl,a0 a env)::ZH es env:=by cases a<;>first|rfl|cases h
theorem VJ:∀{es:Te},es.all Jy=Zi->(dY pos<|ZH es env).any (·.1)=Zl|[],_=>rfl|a::es,h=>by simp![fG,Zs]at h;rw[Jz h.1];change(Zl||(dY pos (ZH es env)).any (·.1))=Zl;rw[VJ h.2]<;>rfl
theorem B2:∀{es:Te},es.all Jy=Zi->(dY pos<|ZH es env).all (λx=>!x.1)=Zi|[],_=>rfl|a::es,h=>by simp![fG,Zs]at h;rw[Jz h.1];change(Zi&&(dY pos<|ZH es env).all (λx=>!x.1))=Zi;rw[B2 h.2]<;>rfl
def UK(ha:es.all Jy=Zi)(hn:es.length<30):((dY pos<|ZH es env).all (λx=>!x.1)&&(nJ pos<|nE [] env).all (λx=>x.1.isSome) && decide (es.length+([]:To).length+(if ([]:To).isEmpty then 0 else 1)<30))=Zi:=by change((dY pos<|ZH es env).all (λx=>!x.1)&&Zi&&decide (es.length+0+0<30))=Zi;rw[B2 ha];simpa using hn
theorem Xr:∀(l:Tx),mZ l.length (cb l)|[]=>P6|_::r=>P7<|Xr r
theorem QQ:∀{es:Te},es.all Jy=Zi->(∀e,ah V X e<|f e)->dG V X es (cb<|es.map f)|[],_,_=>QD|a::es,h,hf=>by simp![fG,Zs]at h;show Q3 (hf a) (QQ h.2 hf)<|Jz h.1
theorem Hz(j:∀e,ah V X e<|f e):∀(vs:Te),ah V X (.BoolOp .And vs pos) (BB<|vs.map f)|[]=>Jn|[a]=>F0<|j a|a::b::r=>OV YD (j a)<|Hz j<|b::r
theorem HA(j:∀e,ah V X e<|f e):∀(vs:Te),ah V X (.BoolOp .Or vs pos) (qe<|vs.map f)|[]=>Jn|[a]=>F0<|j a|a::b::r=>Ap YD (j a)<|HA j<|b::r
theorem HB(j:∀e,gz V X e<|f e):∀(vs:Te),l9 V X (.BoolOp .And vs pos) (BC<|vs.map f)|[]=>λ_=>Jn|[a]=>OQ<|j a|a::b::r=>OS (j a)<|HB j<|b::r
theorem HD(j:∀e,gz V X e<|f e):∀(vs:Te),l9 V X (.BoolOp .Or vs pos) (qf<|vs.map f)|[]=>λ_=>Jn|[a]=>OR<|j a|a::b::r=>OT (j a)<|HD j<|b::r
theorem HE:∀{es:Te},es.all Jy=Zi->(∀e,je V X e<|f e)->kR V X es (nh<|es.map f)|[],_,_=>Pq|a::es,h,hf=>by simp![fG,Zs]at h;calc Pr (hf a) (HE h.2 hf) ?_;cases a<;>first|rfl|show absurd h.1 Zz
theorem HF:∀{es:Te},es.all Jy=Zi->(fY es env).length=es.length
 |[],_=>rfl
 |a::es,h=>by
  simp![fG,Zs]at h;have:fY (a::es) env=(Zl,lO a env)::fY es env:=by cases a<;>first|rfl|show absurd h.1 Zz
  rw[this,iP,iP,HF h.2]
theorem HG:∀{es:Te},es.all Jy=Zi->(fY es env).findIdx? (·.1)=Ze
 |[],_=>rfl
 |a::es,h=>by
  simp![fG,Zs]at h;have:fY (a::es) env=(Zl,lO a env)::fY es env:=by cases a<;>first|rfl|show absurd h.1 Zz
  rw[this,List.findIdx?_cons,HG h.2];rfl
def UL(op):dt V X (fE op) (binI op):=by
 cases op with
 |Add=>show O0
 |Sub=>show O2
 |Mult=>show R8
 |FloorDiv=>show O6
 |Mod=>show O7
 |Pow=>show O8
 |_=>show λ_ _ _ _ _ _ _ _ _ _ _ _ _ _ _ _ K=>(K).elim
def Y1(j:X.A.units+64<ky)(op):dt V X (dU op) (fS op):=by cases op with|Lt=>show Aq|LtE=>show Ar|Gt=>show As|GtE=>show Au|Eq=>show AL j|NotEq=>show AM j|Is=>show AO|IsNot=>show Ra|In=>show tJ j|NotIn=>show P9 j
def HH(m:X.A.units+64<ky)(j:CmpOp)(b:Expr):dt V X (dU j) (jX j b):=by
 unfold jX;split
 .split
  .show Sb
  .show tJ m
 .show Y1 m j
def UM(a):we V X (BJ a):=by
 unfold BJ;split
 .show SI
 .show tM
def UN(a):wb V X (BH a):=by
 unfold BH;split
 .show Sa
 .show AJ
def B3(op):vZ V X (unaryOp op) (vQ op):=by cases op with|Not=>show OW YD|USub=>show F2|_=>show λ_ _ _ _ _ _ _ _ _ _ _ _ _ K=>(K).elim
def Yc(h:Vj o=Zi):qN o m env w=w:=by
 cases o with
 |Call f j C p=>
  cases f with
  |Name x q=>
   cases j with
   |nil=>cases C with|nil=>cases h|cons _ _=>rfl
   |cons _ _=>rfl
  |_=>rfl
 |_=>rfl
def Yt(h:X4 e=Zi)(x):si e env x=pure x:=by cases e<;>first|rfl|cases h
def YC(h:Vy e=Zi):nH e t l env=pure Zl:=by cases e<;>first|rfl|cases h
theorem UO(h:Xf i=Zi):FH i:=λ_ _=>by cases i<;>first|rfl|cases h
def w7(O:Vj o=Zi)(hs:es.all Jy=Zi)(hl:(ap.endLine==pos.line)=Zi)(hn:es.length<30):a0 (.Call (.Attribute o m ap) es [] pos) env=(do
   let ov<-a0 o env
   nL ap.atName
   let (f,first)<-jt [ov] (oZ ov m (do return(<-importBound o env).getD Zi))
   sD pos f first (dY pos<|ZH es env) (nJ pos<|nE [] env)):=by
 have j:methodCallForm (es.length+([]:To).length) (dY pos<|ZH es env) (nJ pos<|nE [] env)=Zi:=by change((dY pos<|ZH es env).all (λx=>!x.1)&&Zi&&decide (es.length+0+0<30))=Zi;rw[B2 hs];simpa using hn
 have C:methodCallPos Zi o env ap pos=pure pos:=by unfold methodCallPos;simp[hl]
 rw[arm_eval_Call,Yc O];unfold methodCall;rw[j,C];rfl
end
section
variable{V:aF}{k:Nat}{P:Pg}{S:Sc}{X:Cx}
def HI(G:Good V k P S X)(N0 l c)(js)(sc):QF N0 l c js X.env.scope sc=QF N0 l c js S.lg sc:=by unfold QF;rw[G.fk,G.sc];rfl
def Good.comp(G:Good V k P S X){sc:eL}(h:QF S.N (Vv sc) (Q6 sc) (dE S sc) S.lg sc=Zi)(C)(s)(H)(fp):Good V k P (S.comp sc) (fB X (Vv sc++Q6 sc) sc C s H fp):=by
 simp![QF,Zs,decide_eq_true_eq]at h;let#[#[#[#[#[#[#[#[#[kF,kF0],kNC],kL],kFr],kFx],kJ],kLen],kNd],kLo]:=h;calc#[rfl,?_,kNd,kF,G.calm,G.room,λz=>absurd z Zz,G.pg,λz=>absurd z Zz,λz=>absurd z Zz,λz=>absurd z Zz];change(relabel sc X.env).names=_;unfold relabel Sc.comp;dsimp only;refine rn λx _=>?_
 let#[n,j]:=x;dsimp only;rw[G.fk,G.kind];simp
end
structure w8(V:aF)(k:Nat)(P:Pg)(n:Nat):Prop where
 e:∀S X e,Good V k P S X->ah V X e (ev P n S e)
 t:∀S X e,Good V k P S X->gz V X e (lh P n S e)
 o:∀S X e,Good V k P S X->tI V X e (BR P n S e)
 c:∀S X x args p pos,Good V k P S X->S.gl x=Zi->args.all Jy=Zi->ah V X (.Call (.Name x p) args [] pos) (BS P n S x args)
 i:∀S X tg e,Good V k P S X->jf V X tg e (r7 P n S tg e)
 g:∀S X e,Good V k P S X->je V X e (my P n S e)
section
variable{V:aF}{k:Nat}{P:Pg}{n:Nat}{S:Sc}{X:Cx}
theorem UP:w8 V k P 0:=#[λ_ _ _ _=>Jn,λ_ _ _ _=>Jn,λ_ _ _ _=>Jn,λ_ _ _ _ _ _ _ _ _=>Jn,λ_ _ _ _ _=>w6,λ_ _ _ _=>X6]
def Yj{K:W.Frag}(D:qm V prog w K mg base k f fa fd ps)(h:f.fill b m=B d):(f.cl=Zi->b=Zi)/\∃ds,JO K fd ps ds/\m+ds.length=ps.length/\∃vs,Vals vs ds/\∀Y H,aw K Y H d vs:=by
 unfold Fn.fill at h;split at h
 .rename_i C;cases h;let#[ds,O,j,q]:=D.dv (f.aL.length-(f.np-m))<|nQ _ _;show#[λz=>by simpa[z]using C.2.2,ds,O,by rw[j,D.len];lia,q]
 .cases h
def UQ(G:Good V k P S X)(L:P.fn x=B f)(M:S.gl x=Zi)(ha:args.all Jy=Zi)(J:∀e,ah V X e<|g e):ah V X (.Call (.Name x p) args [] pos) (VX S.cl f args.length<|cb<|args.map g):=by
 let#[R,W,ps,hm,H,D]:=G.pg.fn x f L;let#[gl,m,_]:=G.gl M;unfold VX;cases hd:f.fill S.cl args.length with|none=>show Jn|some d=>let#[C,ds,O,F,q]:=Yj D hd;have E:=(G.r8 C).mono<|hb k;cases args with|nil=>show PQ D.ok E gl hm H O q (by simpa using F) m|cons a Q=>have j:=ha;simp![fG,Zs]at j;calc PO D.ok E gl hm H O q (QQ ha J) (λU h xs I e=>?_) m (Jz j.1)<|VJ j.2;have:=Xr _ U h xs I e;rw[Zp]at this;rw[this];show F
def UR(G:Good V k P S X)(L:P.cls x=B f)(Q:S.gl x=Zi)(ha:args.all Jy=Zi)(J:∀e,ah V X e<|g e):ah V X (.Call (.Name x p) args [] pos) (wO S.cl x f args.length<|cb<|args.map g):=by
 let#[C,W,Y,ps,hm,H,M,D]:=G.pg.cls x f L;let#[gl,E,_]:=G.gl Q;unfold wO;cases hd:f.fill S.cl (args.length+1)with|none=>show Jn|some d=>let#[m,ds,O,F,q]:=Yj D hd;cases args with|nil=>show PS M D.ok H (G.r8 m) gl hm O q (by simp at F;(rw[mI];show gf (Zn F)<|Zn F.symm)) E|cons a R=>have j:=ha;simp![fG,Zs]at j;calc PR M D.ok H (G.r8 m) gl hm O q (QQ ha J) (λU h xs I e=>?_) E (Jz j.1)<|VJ j.2;have:=Xr _ U h xs I e;rw[Zp]at this;lia
def HJ(G:Good V k P S X)(L:(S.cl||P.mw m)=Zi)(n):AI V X m n (JE P m n):=by
 intro c f aL h;unfold JE at h;cases hm:P.fh c m with|none=>rw[hm]at h;cases h|some fn=>rw[hm]at h;dsimp only at h;cases hd:fn.fill Zi (n+1)with|none=>rw[hd]at h;cases h|some d=>rw[hd]at h;cases h;let#[C,H,J,ps,F,j,I,D]:=G.pg.fh c m fn hm;let#[_,ds,O,E,q]:=Yj D hd;show#[C,H,J,_,k,ps,ds,F,j,I,D.ok,(G.r8 λz=>(za.mp L).elim id λy=>by rw[G.pg.mw m y c fn hm]at z;cases z).mono<|hb k,O,q,by(rw[nO];show gf (Zn E)<|Zn E.symm)]
def US(h:dN T m n=B g):∃id,PlainAttrs T/\Slot T m id/\lP (.builtin id)=pure (.type "method_descriptor")/\oH V X T id g:=by
 unfold dN at h;split at h
 .rename_i hm;simp![Zs,beq_iff_eq]at hm;let#[#[rfl,rfl],_]:=hm;cases h;show#[_,vz,PySem.F.slot_list_append,PySem.F.type_list_append,RC]
 .split at h
  .rename_i hm;simp![Zs,beq_iff_eq]at hm;let#[#[rfl,rfl],_]:=hm;cases h;show#[_,vz,PySem.F.slot_list_extend,PySem.F.type_list_extend,Si]
  .split at h
   .rename_i hm;simp![Zs,beq_iff_eq]at hm;let#[#[rfl,rfl],_]:=hm;cases h;show#[_,vz,PySem.F.slot_list_pop,PySem.F.type_list_pop,UC]
   .split at h
    .rename_i hm;simp![Zs,beq_iff_eq]at hm;let#[#[rfl,rfl],_]:=hm;cases h;show#[_,vz,PySem.F.slot_list_remove,PySem.F.type_list_remove,UD]
    .split at h
     .rename_i hm;simp![Zs,beq_iff_eq]at hm;let#[#[rfl,rfl],_]:=hm;cases h;show#[_,PySem.F.plainAttrs_str,PySem.F.slot_str_join,PySem.F.type_str_join,RF]
     .cases h
def UT(F:dN T m n=B g)(ho:ah V X o mo)(H:∀e,ah V X e<|f e)(ha:args.all Jy=Zi)(O:Vj o=Zi)(hl:(ap.endLine==pos.line)=Zi)(hn:args.length<30):ah V X (.Call (.Attribute o m ap) args [] pos) (rW T g mo<|cb<|args.map f):=by let#[id,C,D,ty,E]:=US F;cases args with|nil=>show RA C D ty E ho (Yc O) hl|cons a I=>have j:=ha;simp![fG,Zs]at j;show AY C D ty E ho (QQ ha H) (Yc O) (UK ha hn) hl (Jz j.1)<|VJ j.2
def UW(G:Good V k P S X)(C:(S.cl||P.mw m)=Zi)(ho:ah V X o mo)(E:∀e,ah V X e<|f e)(ha:args.all Jy=Zi)(O:Vj o=Zi)(hl:(ap.endLine==pos.line)=Zi)(hn:args.length<30):ah V X (.Call (.Attribute o m ap) args [] pos) (Jo P m args.length mo<|cb<|args.map f):=by
 refine UJ λH h=>?_
 unfold Jo;cases e:mo H h with|exc n D=>show#[λ_ _=>.stuck,rfl,Jn]|stuck=>show#[λ_ _=>.stuck,rfl,Jn]|ok v D=>
  dsimp only;split
  .calc#[_,rfl,?_];cases args with|nil=>show PV ho (HJ G C 0)<|w7 O ha hl hn|cons a J=>have j:=ha;simp![fG,Zs]at j;calc PU ho (HJ G C (a::J).length) (QQ ha E) (λU h xs F e=>?_) (Jz j.1) (VJ j.2)<|w7 O ha hl hn;have:=Xr _ U h xs F e;rwa [Zp]at this
  .cases I:dN (rZ v D) m args.length with|none=>show#[λ_ _=>.stuck,rfl,Jn]|some g=>show#[_,rfl,UT I ho E ha O hl hn]
def UX(G:Good V k P S X)(ho:ah V X o mo)(W:∀e,ah V X e<|f e)(ha:args.all Jy=Zi)(O:Vj o=Zi)(hl:(ap.endLine==pos.line)=Zi)(hn:args.length<30):ah V X (.Call (.Attribute o m ap) args [] pos) (BP P S.cl m args.length (wX P S m o) mo<|cb<|args.map f):=by
 cases L:wX P S m o with
 |none=>
  change ah V X _ (if S.cl||P.mw m then _ else _);split
  .rename_i hw;show UW G hw ho W ha O hl hn
  .show Jn
 |some g=>
  cases o with
  |Name x q=>
   have j:(if m=="__init__"&&S.gl x&&P.mx x then P.cls x else Ze)=B g:=L;clear L;split at j
   .rename_i R;simp![Zs,beq_iff_eq]at R;let#[#[rfl,Z],hx]:=R;let#[C,fa,fd,ps,hm,hC,M,D]:=G.pg.cls x g j;let#[C',F,bA]:=G.pg.mx x hx;rw[hm]at F;cases F;let#[gl,H,_]:=G.gl Z;change ah V X _ (if args.length=0 then bw else VX S.cl g args.length (cb<|args.map f));split
    .show Jn
    rename_i hz;unfold VX;cases hd:g.fill S.cl args.length with|none=>show Jn|some d=>let#[Q,ds,I,J,q]:=Yj D hd;have hr:=(G.r8 Q).mono<|hb k;cases args with|nil=>show absurd rfl hz|cons a es=>have E:=ha;simp![fG,Zs]at E;calc SN D.ok hr gl hm bA M I q (QQ ha W) (λU h xs Y e=>?_) H (Jz E.1) (VJ E.2)<|w7 O ha hl hn;have:=Xr _ U h xs Y e;rw[Zp]at this;rw[this];show J
   .cases j
  |_=>cases L
def UY(G:Good V k P S X)(R:ah V X (.Call (.Attribute o m ap) args [] pos) e)(M:∀e,ah V X e<|f e)(ha:args.all Jy=Zi)(O:Vj o=Zi)(hl:(ap.endLine==pos.line)=Zi)(hn:args.length<30):ah V X (.Call (.Attribute o m ap) args [] pos) (wY P S m args.length o (cb<|args.map f) e):=by
 unfold wY;split
 .rename_i E;cases o with
  |Name x q=>simp![BO,Zs,beq_iff_eq,decide_eq_true_eq]at E;let#[#[#[rfl,H],Z],L]:=E;let#[D,hm,Y]:=G.pg.xb x Z;let#[gl,F,_]:=G.gl H;cases args with|nil=>show absurd rfl L|cons a es=>have j:=ha;simp![fG,Zs]at j;calc S9 (λc C W J=>?_) gl hm Y (QQ ha M) F (Jz j.1) (VJ j.2)<|w7 O ha hl hn;let#[g,H]:=qI.mp W;let#[C',Q,fd,ps,_,I,U,_]:=G.pg.xo c g H;rw[J]at I;cases I;show#[Q,U]
  |_=>simp[BO]at E
 .show R
def UZ(G:Good V k P S X)(ha:ah V X a ma)(hs:Jy a=Zi)(I:S.gl "isinstance"=Zi)(F:P.free "isinstance"=Zi)(J:S.gl y=Zi):ah V X (.Call (.Name "isinstance" p) [a,.Name y p2] [] pos) (BF (wQ P y) ma):=by
 unfold BF;cases e:wQ P y with|none=>show Jn|some D=>
  let#[m,j,C]:=G.gl J;have fin:∀{c:Zo},k6 X (.Name y p2) c->fP V X.K c D->ah V X (.Call (.Name "isinstance" p) [a,.Name y p2] [] pos) (dC D ma):=λH E=>
   Rc H E ha (G.gl I).1 (G.pg.free _ F) rfl (Jz hs) rfl rfl
  unfold wQ at e;cases Z:P.mu y with|some g=>rw[Z]at e;cases e;let#[c,hm,E]:=G.pg.mu y g Z;show fin (Gx m hm j) E|none=>
   rw[Z]at e;dsimp only at e;split at e
   .rename_i L;have hm:=G.pg.free y L;split at e
    .rename_i q;cases (beq_iff_eq.mp q);cases e;show fin (Xu m hm rfl C j) Rj
    .split at e
     .rename_i q;cases (beq_iff_eq.mp q);cases e;show fin (Xu m hm rfl C j) Rf
     .split at e
      .rename_i q;cases (beq_iff_eq.mp q);cases e;show fin (Xu m hm rfl C j) Rg
      .split at e
       .rename_i q;cases (beq_iff_eq.mp q);cases e;show fin (Xu m hm rfl C j) Rh
       .split at e
        .rename_i q;cases (beq_iff_eq.mp q);cases e;show fin (Xu m hm rfl C j) Ri
        .cases e
   .cases e
def U0(G:Good V k P S X){a:Expr}{ma:E1}{x:Str}{p pos:Pos}(ha:ah V X a ma)(hs:Jy a=Zi)(J:S.gl x=Zi)(F:P.free x=Zi)(H:BD x=Zi)(I:(S.cl||wV x [a])=Zi):ah V X (.Call (.Name x p) [a] [] pos) (bt (tV x)<|Jb ma Jc):=by
 let#[D,j,C]:=G.gl J;have hm:=G.pg.free x F;have E:wV x [a]=Zl->X.A.handled=Ze:=λz=>G.room.hd<|by simpa[z]using I
 have m:dG V X [a] (Jb ma Jc):=Q3 ha QD<|Jz hs;unfold BD at H;simp![kD,beq_iff_eq]at H;rcases H with(((rfl|rfl)|rfl)|rfl)|rfl
 .show VA P5 D hm rfl m C j (Jz hs) rfl
 .show VA (Rz<|E rfl) D hm rfl m C j (Jz hs) rfl
 .show VA (RG<|E rfl) D hm rfl m C j (Jz hs) rfl
 .show VA (Sh<|E rfl) D hm rfl m C j (Jz hs) rfl
 .show VA (SK G.calm) D hm rfl m C j (Jz hs) rfl
def WA(G:Good V k P S X)(ha:ah V X a ma)(hs:Jy a=Zi)(H:S.gl x=Zi)(C:P.free x=Zi)(m:BE x=Zi):ah V X (.Call (.Name x p) [a] [] pos) (bt (tW x)<|Jb ma Jc):=by
 let#[F,j,E]:=G.gl H;have hm:=G.pg.free x C;have D:dG V X [a] (Jb ma Jc):=Q3 ha QD<|Jz hs;unfold BE at m;simp![kD,beq_iff_eq]at m;rcases m with rfl|rfl
 .show Gp Rw F hm rfl D E j (Jz hs) rfl
 .show Gp Rx F hm rfl D E j (Jz hs) rfl
def WB(G:Good V k P S X){f:Expr->E1}(D:∀e,ah V X e<|f e){x:Str}{args:Te}{p pos:Pos}(F:S.gl x=Zi)(ha:args.all Jy=Zi)(m:P.free x=Zi)(U:(S.cl||wV x args)=Zi):
  ah V X (.Call (.Name x p) args [] pos) (BL P S x f args):=by
 unfold BL;split
 .rename_i a b;simp![fG,Zs]at ha;let#[Q,H,R]:=G.gl F;have hm:=G.pg.free x m;have J:dG V X [a,b] (Jb (f a)<|Jb (f b) Jc):=Q3 (D a) (Q3 (D b) QD<|Jz ha.2.1)<|Jz ha.1;have M:∀pos,(dY pos<|ZH [b] X.env).any (·.1)=Zl:=λpos=>VJ<|by simp[ha.2.1]
  split
  .rename_i E;cases (beq_iff_eq.mp E);show VA (RD G.calm) Q hm rfl J R H (Jz ha.1) (M _)
  .split
   .rename_i E;cases (beq_iff_eq.mp E);show VA (RE G.calm) Q hm rfl J R H (Jz ha.1) (M _)
   .split
    .rename_i y Y _;split
     .rename_i E;simp![Zs,beq_iff_eq]at E;let#[rfl,W]:=E;show UZ G (D a) ha.1 F m W
     .show Jn
    .show Jn
 .rename_i a;simp![fG,Zs]at ha;split
  .rename_i e j;split at j
   .rename_i I;simp![Zs,beq_iff_eq]at I;let#[#[rfl,g2],L]:=I;unfold wR at j;split at j
    .split at j
     .rename_i C;simp![Zs,beq_iff_eq]at C;let#[rfl,ns]:=C;cases j;show RY (G.room.hd<|(za.mp U).resolve_right Zz) (G.gl F).1 (G.pg.free _ m) (G.gl g2).1 (G.pg.free _ L) (Q3 (D e) QD<|Jz ns) (Jz ns)
     .cases j
    .cases j
   .cases j
  .split
   .rename_i e j;split at j
    .rename_i I;simp![Zs,beq_iff_eq]at I;let#[#[rfl,g2],L]:=I;unfold wU at j;split at j
     .split at j
      .rename_i C;simp![Zs,beq_iff_eq]at C;let#[rfl,ns]:=C;cases j;show Jn
      .cases j
     .cases j
    .cases j
   .split
    .rename_i C;simp![Zs,beq_iff_eq]at C;let#[rfl,_]:=C;show VA SM (G.gl F).1 (G.pg.free _ m) rfl (Q3 (D a) QD<|Jz ha.1) 01 rfl (Jz ha.1) rfl
    split
    .rename_i O;show U0 G (D a) ha.1 F m O U
    .split
     .rename_i O;show WA G (D a) ha.1 F m O
     .show Jn
 .show Jn
def WC(G:Good V k P S X){f:Expr->E1}(H:∀e,ah V X e<|f e){x:Str}{args:Te}{p pos:Pos}(F:S.gl x=Zi)(ha:args.all Jy=Zi)(m:P.free x=Zi):ah V X (.Call (.Name x p) args [] pos) (wW P S x f args):=by
 unfold wW;split
 .show Jn
 rename_i C;rw[Bool.not_eq_false]at C;split
 .rename_i e j;split at j
  .rename_i E;simp![Zs,beq_iff_eq]at E;let#[#[rfl,g2],I]:=E;unfold Hx at j;split at j
   .unfold wR at j;split at j
    .split at j
     .rename_i D;simp![Zs,beq_iff_eq]at D;let#[rfl,ns]:=D;cases j;show UB (G.room.hd<|(za.mp C).resolve_right Zz) (G.gl F).1 (G.pg.free _ m) (G.gl g2).1 (G.pg.free _ I) (Q3 (H e) QD<|Jz ns) (Jz ns)
     .cases j
    .cases j
   .cases j
  .cases j
 .show WB G H F ha m C
def Qx.of(G:Good V k P S X)(h:Qx S y sc=Zi):iD X.N X.env.scope.names y (Q6 sc) (dE S sc) sc:=by rw[G.n,G.sc];simp![Qx,Zs,beq_iff_eq,nZ,decide_eq_true_eq,mK,kD,beq_eq_false_iff_ne]at h;let#[#[#[#[#[#[#[h1,J],h3],h4],h5],h6],h7],h8]:=h;calc#[h1,J,h3,h4,h5,λz D e=>(h6 z D).resolve_left λq=>q e,λz e=>jH e,λi j z m C=>?_,by simp[dE],h8];unfold dE at m;rw[Z5,C]at m;cases m;show h7 z<|u4 C
def Good.lam(G:Good V k P S X)(ho:S.own=Zi){sc:eL}(h:Qx S y sc=Zi)(f)(cd)(s)(H):Good V k P (S.lam y sc) (mn X X.A.in1 (y::Q6 sc) S.q sc f cd s H):=by have j:=Qx.of G h;show#[rfl,rfl,j.nd,j.kind,rfl,(G.fj ho).in1.deeper _,λz=>absurd z Zz,G.pg,λz=>absurd z Zz,λz=>absurd z Zz,λz=>absurd z Zz]
def Good.B4(G:Good V k P S X)(ho:S.own=Zi){sc:eL}(h:Qx S y sc=Zi)(f)(cd)(s)(H):Good V k P (S.lam y sc) (mn X X.A.in1.in1 (y::Q6 sc) S.q sc f cd s H):=by
 have j:=Qx.of G h;have R:=G.fj ho;refine#[rfl,rfl,j.nd,j.kind,rfl,#[R.hd,?_,?_],λz=>absurd z Zz,G.pg,λz=>absurd z Zz,λz=>absurd z Zz,λz=>absurd z Zz]
 .have:=R.dp;change X.A.depth+1+3*(k+1)+5<_;lia
 .have:=R.un;change X.A.units+1+1+3+16*(k+1)+200<_;lia
def WG(G:Good V k P S X)(C:S.cl=Zi)(F:∀S X e,Good V k P S X->ah V X e (f S e)):ah V X (.Call (.Name x p) [a] [#[B y,.Lambda ps body sc lp,kp],#[B y2,d,kp2]] pos) (BM P S f x a y ps body sc y2 d):=by
 unfold BM;split
 .rename_i e z j m L I;split
  .rename_i D;simp![Zs,beq_iff_eq]at D;let#[#[#[#[#[#[#[#[#[rfl,rfl],rfl],ht],g1],f1],g2],f2],ho],ok]:=D;unfold wU at m;unfold Hy at ht;split at m
   .split at m
    .rename_i E;simp![Zs,beq_iff_eq]at E;let#[rfl,ns]:=E;cases m;split at ht
     .show UG (k:=k) (G.room.hd C) (G.gl g1).1 (G.pg.free _ f1) (G.gl g2).1 (G.pg.free _ f2) (Q3 (F _ _ _ G) QD<|Jz ns) (Jz ns) (G.room.hd C) (G.fj ho) (G.code ho).1 (G.code ho).2 (G.pg.blt _ _ I) L (Qx.of G ok) λf cd H J=>F _ _ _<|G.B4 ho ok f cd H J
     .cases ht
    .cases m
   .cases m
  .show Jn
 .show Jn
def WH(G:Good V k P S X)(C:∀S X e,Good V k P S X->ah V X e (f S e)):ah V X (.Call (.Name x p) [a] [#[B y,d,kp]] pos) (tX P S f x a y d):=by
 cases d with
 |Lambda ps m sc J=>
  change ah V X _ (match QK ps,P.tabs S.q with|some z,B j=>if x=="min"&&y=="key"&&S.gl x&&P.free x&&Jy a&&S.own&&Qx S z sc then Xw jG S.q j (dE S sc) (Jb (f S a) Jc) (f (S.lam z sc) m)else bw|_,_=>bw);cases I:QK ps with|none=>show Jn|some z=>
   cases F:P.tabs S.q with|none=>show Jn|some j=>
    dsimp only;split
    .rename_i D;simp![Zs,beq_iff_eq]at D;let#[#[#[#[#[#[rfl,rfl],g1],f1],ns],ho],ok]:=D;show TR (k:=k+1) (G.gl g1).1 (G.pg.free _ f1) (Q3 (C _ _ _ G) QD<|Jz ns) (λA h=>TX<|ki (Zq _ _) 06) (Jz ns) #[G.fj ho,G.calm] (G.code ho).1 (G.code ho).2 (G.pg.blt _ _ F) I (Qx.of G ok) λf cd E H=>C _ _ _<|G.lam ho ok f cd E H
    .show Jn
 |_=>show Jn
def WI(G:Good V k P S X)(m:∀S X e,Good V k P S X->ah V X e (f S e)):ah V X (.Call (.Name x p) args kws pos) (BN P S f x args kws):=by
 unfold BN;split
 .split
  .rename_i C;simp![Zs,beq_iff_eq]at C;let#[#[#[#[rfl,rfl],g1],f1],ns]:=C;show RR G.calm (G.gl g1).1 (G.pg.free _ f1) (Q3 (m _ _ _ G) QD<|Jz ns) (m _ _ _ G) (Jz ns)
  .show WH G m
 .split
  .split
   .rename_i D;show WG G D m
   .show Jn
  split
  .rename_i y j I F;split
   .rename_i C;simp![Zs,beq_iff_eq]at C;let#[#[#[#[#[#[#[rfl,rfl],rfl],g1],f1],ns],ho],ok]:=C;show Sz (k:=k+1) (G.gl g1).1 (G.pg.free _ f1) (Q3 (m _ _ _ G) QD<|Jz ns) (m _ _ _ G) (Jz ns) #[G.fj ho,G.calm] (G.code ho).1 (G.code ho).2 (G.pg.blt _ _ F) I (Qx.of G ok) λf cd E H=>m _ _ _<|G.lam ho ok f cd E H
   .show Jn
  .show Jn
 .show Jn
def WJ{st:Expr}(h:ng st=Zi):∃j p m,st=.UnaryOp .USub (.Constant (.int 1) j p) m:=by
 unfold ng at h;split at h
 .show#[_,_,_,rfl]
 .cases h
def WK(I:w8 V k P n):w8 V k P (n+1):=by
 refine#[λS X e G=>?_,λS X e G=>?_,λS X e G=>?_,λS X x E p pos G M ha=>?_,λS X Q e G=>?_,λS X e G=>?_]
 .have D:=λe=>I.e S X e G
  have hu:=G.room.units;cases e with
  |Constant c j p=>cases c with|int i=>show Ao|bool b=>show tG|none=>show FX|str x=>show FY|_=>show Jn
  |Name x p=>
   change ah V X (.Name x p) (match S.nc x with|some i=>Ja i|none=>if S.gl x then(match P.con x with|some v=>eC v|none=>bw)else bw);cases hv:S.nc x with|some i=>let#[h1,J,h3,h4]:=G.nc hv;show OL i h1 J h3 h4|none=>
    dsimp only;split
    .rename_i M;let#[gx,xdb,_]:=G.gl M;cases hc:P.con x with|none=>show Jn|some v=>let#[u,y,hm,r,q]:=G.pg.con x v hc;show OM gx hm r q xdb
    .show Jn
  |BinOp a U b p=>show ON (UL U) (D a)<|D b
  |UnaryOp U a p=>show tH (B3 U)<|D a
  |BoolOp U Y p=>cases U with|And=>show Hz D Y|Or=>show HA D Y
  |IfExp t a b p=>show OX (I.t S X t G) (D a)<|D b
  |Compare a ops cs p=>
   match ops,cs with
   |[o],[b]=>
    change ah V X _ (if qO o b then bw else Je (jX o b) (ev P n S a) (ev P n S b));split
    .show Jn
    .rename_i O;show OO (HH hu o b) (D a) (D b)<|rC.mpr O
   |[o,o'],[b,c]=>
    change ah V X _ (if qT [o,o'] [b,c]then bw else JU (fS o) (fS o') (ev P n S a) (ev P n S b) (ev P n S c));split
    .show Jn
    .rename_i O;show OY (Y1 hu o) (Y1 hu o') (D a) (D b) (D c)<|rC.mpr O
   |[],_=>show Jn
   |[_],[]=>show Jn
   |[_],_::_::_=>show Jn
   |[_,_],[]=>show Jn
   |[_,_],[_]=>show Jn
   |[_,_],_::_::_::_=>show Jn
   |_::_::_::_,_=>show Jn
  |JoinedStr L p=>match L with|a::b::r=>show SR D|[]=>show Jn|[_]=>show Jn
  |FormattedValue a c sp p=>
   cases sp with
   |none=>
    change ah V X _ (if c=-1 then dH fb (ev P n S a)else bw);split
    .rename_i hc;subst hc;show SO<|D a
    .show Jn
   |some _=>show Jn
  |Tuple L j p=>
   change ah V X _ (if L.all Jy then cG (cb<|L.map<|ev P n S)else bw);split
   .rename_i F;show O9<|QQ F D
   .show Jn
  |List L p=>
   change ah V X _ (if L.all Jy then J2 (cb<|L.map<|ev P n S)else bw);split
   .rename_i F;show Pa<|QQ F D
   .show Jn
  |Dict ks Y p=>match ks,Y with|[B k],[v]=>show Jn|[],[]=>show R9|[],_::_=>show Jn|[Ze],_=>show Jn|[B _],[]=>show Jn|[B _],_::_::_=>show Jn|some _::_::_,_=>show Jn|none::_::_,_=>show Jn
  |Subscript a i p=>
   cases i with
   |Slice lo Z st q=>
    cases st with|none=>show P4 (UM a) (D a) (I.o S X lo G)<|I.o S X Z G|some st=>
     cases lo with|some _=>show Jn|none=>
      cases Z with|some _=>show Jn|none=>
       change ah V X _ (if ng st then dH gG (ev P n S a)else bw);split
       .rename_i hm;let#[j,p1,p2,rfl]:=WJ hm;show Rv (D a) (tH F2 Ao) λ_ _=>rfl
       .show Jn
   |_=>show AK (UN a) (D a) (D _)<|UO rfl
  |Attribute o f p=>
   change ah V X _ (if Vj o then(if P.fld f then Jk f (ev P n S o)else Yl (P.xf f) f (ev P n S o))else bw);split
   .rename_i F;split
    .rename_i hf;show PY (D o) (G.pg.fld f hf)<|Yc F
    .show TM (D o) (λc C hc hC=>(G.pg.xi.2 f c C hc hC).2)<|Yc F
   .show Jn
  |Call f E R p=>
   cases R with
   |cons kw R=>cases f with|Name x q=>show WI G λS X e G=>I.e S X e G|_=>show Jn
   |nil=>
    cases f with
    |Name x q=>
     change ah V X _ (if S.gl x&&E.all Jy then BS P n S x E else bw);split
     .rename_i F;simp![Zs]at F;show I.c S X x E q p G F.1 F.2
     .show Jn
    |Attribute o m ap=>
     change ah V X _ (if E.all Jy&&Vj o&&(ap.endLine==p.line)&&decide (E.length<30)then wY P S m E.length o (cb<|E.map<|ev P n S) (BP P S.cl m E.length (wX P S m o) (ev P n S o)<|cb<|E.map<|ev P n S)else bw);split
     .rename_i F;simp![Zs,decide_eq_true_eq]at F;show UY G (UX G (D o) D F.1.1.1 F.1.1.2 F.1.2 F.2) D F.1.1.1 F.1.1.2 F.1.2 F.2
     .show Jn
    |_=>show Jn
  |ListComp W gens sc p=>
   match gens with
   |[⟨Q,iter,ifs,as⟩]=>
    change ah V X _ (if as=0/\X4 iter=Zi/\QF S.N (Vv sc) (Q6 sc) (dE S sc) S.lg sc=Zi then
     BQ ifs (lh P n<|S.comp sc) (λmt=>Jv (r7 P n S Q iter) (Vv sc).length (dE S sc) (my P n (S.comp sc) Q) mt<|ev P n (S.comp sc) W)else bw)
    split
    .rename_i F;let#[rfl,Z,ok]:=F;have Gc:=G.comp ok;have ok':=ok;rw[<-HI G]at ok';match ifs with|[]=>show GF G.calm (I.i S X Q iter G) (λC s H fp=>I.g _ _ Q<|Gc C s H fp) (λC s H fp=>GA) (λC s H fp=>I.e _ _ W<|Gc C s H fp) ok' G.n rfl (Yt Z)|[c]=>show GF G.calm (I.i S X Q iter G) (λC s H fp=>I.g _ _ Q<|Gc C s H fp) (λC s H fp=>GB<|I.t _ _ c<|Gc C s H fp) (λC s H fp=>I.e _ _ W<|Gc C s H fp) ok' G.n rfl (Yt Z)|_::_::_=>show Jn
    .show Jn
   |[]=>show Jn
   |⟨_,_,_,_⟩::_::_=>show Jn
  |_=>show Jn
 .have D:=λe=>I.e S X e G
  have hu:=G.room.units;cases e with
  |UnaryOp U a p=>cases U with|Not=>show OU<|I.t S X a G|_=>show FZ YD<|D _
  |BoolOp U Y p=>cases U with|And=>show(HB (λe=>I.t S X e G) Y).t|Or=>show(HD (λe=>I.t S X e G) Y).t
  |IfExp t a b p=>show Jn
  |Compare a ops cs p=>
   match ops,cs with
   |[o],[b]=>
    change gz V X _ (if qO o b then m9 else Jl aV (Je (jX o b) (ev P n S a)<|ev P n S b));split
    .show Jn
    .rename_i O;show OP (HH hu o b) (D a) (D b)<|rC.mpr O
   |[o,o'],[b,c]=>
    change gz V X _ (if qT [o,o'] [b,c]then m9 else Jl aV (JU (fS o) (fS o') (ev P n S a) (ev P n S b)<|ev P n S c));split
    .show Jn
    .rename_i O;show OZ (Y1 hu o) (Y1 hu o') (D a) (D b) (D c)<|rC.mpr O
   |[],_=>show Jn
   |[_],[]=>show Jn
   |[_],_::_::_=>show Jn
   |[_,_],[]=>show Jn
   |[_,_],[_]=>show Jn
   |[_,_],_::_::_::_=>show Jn
   |_::_::_::_,_=>show Jn
  |_=>show FZ YD<|D _
 .cases e with|none=>show P1|some e=>show P2<|I.e S X e G
 .have D:=λe=>I.e S X e G
  change ah V X _ (match P.fn x with|some f=>VX S.cl f E.length<|cb<|E.map<|ev P n S|none=>match P.cls x with|some f=>wO S.cl x f E.length<|cb<|E.map<|ev P n S|none=>if P.free x then wW P S x (ev P n S) E else bw);cases hx:P.fn x with|some f=>show UQ G hx M ha D|none=>
   dsimp only;cases hc:P.cls x with|some f=>show UR G hc M ha D|none=>
    dsimp only;split
    .rename_i hfr;show WC G D M ha hfr
    .show Jn
 .have D:=λe=>I.e S X e G
  cases e with
  |Call f E R p=>
   cases R with|cons _ _=>cases f<;>show wx<|D _|nil=>
    cases f with
    |Name x q=>
     change jf V X Q _ (if S.gl x&&P.free x&&E.all Jy&&(x=="range")then Hw E.length (cb<|E.map<|ev P n S)
      else if S.gl x&&P.free x&&E.all Jy&&(x=="enumerate")then(match Q,E with|.Tuple ..,[a]=>cT Vs<|Jb (ev P n S a) Jc|_,_=>stI)
      else Ju (ev P n S<|.Call (.Name x q) E [] p))
     split
     .rename_i F;simp![Zs,beq_iff_eq]at F;let#[#[#[M,hf],ha],rfl]:=F;let#[gx,_,_]:=G.gl M;have hm:=G.pg.free _ hf;have pa:=QQ ha D;match E,ha,pa with|[],_,_=>show w6|[a],ha,pa=>simp![fG,Zs]at ha;show PH gx hm pa<|Jz ha.1|[a,b],ha,pa=>simp![fG,Zs]at ha;show PJ gx hm pa (by rw[Jz ha.1,Jz ha.2.1];rfl)<|Jz ha.2.1|_::_::_::_,_,_=>show w6
     .split
      .rename_i F;simp![Zs,beq_iff_eq]at F;let#[#[#[M,hf],ha],rfl]:=F;let#[gx,_,_]:=G.gl M;have hm:=G.pg.free _ hf;split
       .simp only[fG,Zs]at ha;show Sq gx hm (Q3 (D _) QD<|Jz ha.1)<|Jz ha.1
       .show w6
      .show wx<|D _
    |_=>show wx<|D _
  |_=>show wx<|D _
 .cases e with
  |Name x p=>change je V X _ (match S.hJ x with|some i=>br i|none=>mq);cases hv:S.hJ x with|none=>show X6|some i=>let#[h1,J,h3]:=G.hJ hv;show Az G.nodup h1 J h3
  |Tuple L j p=>
   change je V X _ (if L.all Jy then oB L.length (nh<|L.map<|my P n S)else mq);split
   .rename_i F;show Pt G.calm (HE F λe=>I.g S X e G) (HF F)<|HG F
   .show X6
  |Subscript o i p=>
   change je V X _ (if Xf i then qg o (ev P n S o) (ev P n S i)else mq);split
   .rename_i F;unfold qg;split
    .refine Sd (I.e S X o G) (I.e S X i G) λv=>?_
     cases i<;>first|rfl|cases F
    .show X6
   .show X6
  |_=>show X6
theorem w9(V)(k)(P):∀n,w8 V k P n|0=>UP|n+1=>WK<|w9 V k P n
end
section
variable{V:aF}{X:Cx}{pos:Pos}
def WL{mt:T1}(hst:X.stack=X.env::X.outer)(hf:X.env.frame=B X.env.locals)(hc:gz V X c mt)(O:jD V X body mb):cD V X (.While c body [] pos) (Xk mt mb):=by
 intro L s U H Y bF h Q E N K;rw[UI]at K;generalize YE=m0 at K;calc wpAny_While<|codeAny_whileLoop (λn s'=>∃Pk Uk hk U' H',az V X L Pk Uk hk U' H' s'/\aU Y H Pk H'/\JC V X L Pk H' (VO mt mb n Uk hk) Q E) ?_ m0 #[Y,bF,h,U,H,N,.refl,K];rintro n s1 ⟨U1,I,h1,W1,H1,N1,n1,j⟩;cases n with|zero=>show(j).elim|succ n=>
  unfold VO at j;calc mY<|hc L s1 W1 H1 U1 I h1 _ (λ_ _=>False) N1 ?_;cases et:mt I h1 with|exc m J=>rw[et]at j;show(j).elim|stuck=>rw[et]at j;show(j).elim|ok b J=>
   rw[et]at j;intro b' s2 H2 U2 N2 n2 r2;have r':b'=b:=r2;subst r';dsimp only at j;cases b' with|false=>show su<|j s2 W1 H2 U2 N2 n2|true=>
    rw[if_pos rfl];rw[if_pos rfl]at j;calc O L s2 W1 H2 U2 I J _ _ N2 ?_;cases Z:mb I J with
    |next W3 S=>rw[Z]at j;show λs3 D R W P F=>#[n,ZX n,W,W3,S,D,R,P,(n1.trans n2).trans F,JC.mono j<|n2.trans F]
    |cont W3 S=>rw[Z]at j;show λs3 D R W P F=>#[n,ZX n,W,W3,S,D,R,P,(n1.trans n2).trans F,JC.mono j<|n2.trans F]
    |brk W3 S=>rw[Z]at j;show λs3 D R W P F=>j s3 D R W P<|n2.trans F
    |ret v S=>rw[Z]at j;show λu s3 U3i D R W P F r=>j u s3 U3i D R W P (n2.trans F) r
    |exc m W3 S=>
     rw[Z]at j;dsimp only at j;cases hj:S[m]? with|none=>rw[hj]at j;show(j).elim|some ob=>
      cases ob with
      |exc c fs=>
       rw[hj]at j;intro pl a s7 U7 H7 W7 N7 n7 q s8 fl;let#[C,tv,d,fe,hC,ha,ht]:=N7.rel.get hj q;have M:∀h8,d8 X.env.locals (eV X.stack) a s7.heap h8->cameBackBy (Zy X.prog X.w) X.A X.env E (.ref a) {s7 with heap:=h8}:=λh8 n8=>
        Ge hf n8 λh9 n9=>j pl a s7 U7 H7 W7 N7 (n2.trans n7) q _<|.inr #[h9,rfl,n9]
       rcases fl with rfl|⟨h8,rfl,n8⟩
       .show AB N7.inv hst hf ha ht M
       .show AD hf n8<|M h8 n8
      |_=>rw[hj]at j;show(j).elim
    |stuck=>rw[Z]at j;show(j).elim
def WM(no:¬ ∃i j,op=.Add/\x=.int i/\y=.int j):mz op x y h=.stuck:=by
 unfold mz;split
 .simp_all
 .rfl
def qp(op):dt V X (inplaceOp op) (mz op):=by
 intro L s U H Y I h x y v u Q E N C m K;by_cases c:∃i j,op=.Add/\x=.int i/\y=.int j
 .let#[i,j,rfl,rfl,rfl]:=c;let#[J,C,D]:=C;let#[O,m,F]:=m;cases (D);cases (F);let#[t,rfl]:=C;let#[M,rfl]:=m;show iadd_int<|K _ _ H Y #[N.inv.tok _,N.rel,N.st] .refl #[.int<|i+j,#[_,rfl],rfl]
 .rw[WM c]at K;show(K).elim
def WN(hN:X.N.Nodup)(he:ah V X e me)(Z:X.N[i]?=B x)(F:Loc X.env.scope x)(hf:X.fn x=Zi\/X.env.scope.names.lookup x=B .local):cD V X (.AugAssign (.Name x pos') op e pos) (ni op i me):=by
 intro L s U H Y D h Q E N K;calc wpAny_AugAssign_Name ?_;unfold ni at K;cases ev:Ja i D h with|exc n P=>exfalso;unfold Ja at ev;split at ev<;>cases ev|stuck=>rw[ev]at K;show(K).elim|ok v P=>
  rw[ev]at K;obtain⟨e1,rfl⟩:D[i]?=B (B v)/\P=h:=by
   unfold Ja at ev;split at ev
   .rename_i q;cases ev;show#[q,rfl]
   .cases ev
  let#[w,hw,S]:=N.st.at_ i v e1;let#[m,hn,hl]:=N.inv.loc;have nc:pM X.env.scope x:=by rcases F with k|k;show .inl k;show .inr (.inl k)
  let#[u,r,l]:=hl i x w Z hw nc;have go:Zw (Zy X.prog X.w) X.A (a0 e X.env) (λw s₂=>Zw (Zy X.prog X.w) X.A (inplaceOp op u w) (λr s₃=>Zw (Zy X.prog X.w) X.A (storeName X.env x r) (λ_=>Q .next) E s₃) E s₂) E s:=by
   refine cQ he N K λy J uy s2 R U2 N2 n2 r2 C=>?_
   calc qp op L s2 U R U2 D J v y u uy _ E N2 #[w,r,RV.mono n2 _ _ S] r2 ?_;cases I:mz op v y J with|exc n h3=>rw[I]at C;show λpl a O H' Y' N' n' q=>C pl a O U H' Y' N' n' q O<|.inl rfl|stuck=>rw[I]at C;show C|ok z h3=>rw[I]at C;intro uz s3 H3 U3 M W r3;let#[zv,rz,qz]:=r3;show YA M.inv hN Z F rz (λs4 I4=>C s4 _ H3 U3 #[I4,M.rel,M.st.set i qz] W) hf
  rcases l with⟨j,hm⟩|⟨j,c,hc,hcell⟩
  .show wpAny_loadName_local N.inv.ok.kind j hn hm go
  .rcases j with j|j
   .show wpAny_loadName_cell N.inv.ok.kind j hc hcell go
   .rcases F with k|k
    .have:X.env.scope.names.lookup x=B .free:=j;rw[k]at this;cases this
    .have:X.env.scope.names.lookup x=B .free:=j;rw[k]at this;cases this
def WO(ho:ah V X o mo)(he:ah V X e me)(hf:XX V X.K fl):cD V X (.AugAssign (.Attribute o fl tpos) op e pos) (XC op fl mo me):=by
 intro L s U H Y bF h Q E N K;refine wpAny_AugAssign_AttributeAny<|cQ ho N K λov h1 w s1 H1 U1 P n1 r1 m=>?_
 cases ov with
 |ref i=>
  let#[w,rw',a,e1,Z]:=r1;subst e1;cases rw';dsimp only at m;cases W:h1[i]? with|none=>rw[W]at m;show(m).elim|some ob=>
   cases ob with
   |ins c fs=>
    rw[W]at m;dsimp only at m;cases hl:fs.lookup fl with|none=>rw[hl]at m;show(m).elim|some x=>
     rw[hl]at m;let#[C,dx,vs,hC,hH,rp]:=P.at W Z;let#[cl,na]:=hf c C hC;let#[y,hy,q]:=(cq.lookup rp).1 x hl;refine Fq P.inv hH cl na hy λu' s2 I2 ru=>?_
     refine cQ he (#[I2,P.rel,P.st]:az V X L U1 bF h1 U H1 s2) m λz h3 uz s3 H3 U3 N3 n3 r3 j=>?_
     calc qp op L s3 U H3 U3 bF h3 x z u' uz _ E N3 #[y,ru,RV.mono n3 _ _ q] r3 ?_;cases ez:mz op x z h3 with|exc n h4=>rw[ez]at j;show λpl a s' H' Y' N' n' q=>j pl a s' U H' Y' N' n' q s'<|.inl rfl|stuck=>rw[ez]at j;show j|ok v h4=>
      rw[ez]at j;intro uv s4 H4 W4 S n4 r4;dsimp only[rS]at j;have I:=n4.at<|n3.at Z;cases F:h4[i]? with|none=>rw[F]at j;show(j).elim|some ob=>
       cases ob with
       |ins c' gs=>
        rw[F]at j;dsimp only at j;split at j
        .rename_i hz;let#[C',O,vs',J,D,M]:=S.at F I;let#[cl',na']:=hf c' C' J;let#[yv,ryv,qv]:=r4;refine Ft S.inv D cl' na' (by rw[M.length];show hz) ryv λs5 I5=>?_
         have R:aU W4 H4 W4 (upd H4 a<|.ins C' O<|cI fl yv vs'):=#[#[[],03],Ext.cJ D<|by rw[D];show fJ];let#[R5,_]:=S.rel.write (io:=.ins c'<|bG fl v gs) I D (by rw[D];show fJ) #[C',O,_,J,Jx,cq.put (RV.mono R _ _ qv)<|cq.mono R _ _ M];show j s5 U _ W4 #[I5,R5,S.st.mono R]<|n4.trans R
        .show(j).elim
       |_=>rw[F]at j;show(j).elim
   |_=>rw[W]at m;show(m).elim
 |_=>show(m).elim
def WQ:dt V X lN wZ:=by
 intro L s U H Y bF h x y v u Q E N F D K;let#[xv,F,M]:=F;let#[yv,D,O]:=D;cases x with
 |ref i=>
  cases y with
  |int k=>
   let#[a,rfl,ha]:=M;cases (O);cases F;let#[t,rfl]:=D;dsimp only[wZ]at K;cases Z:h[i]? with|none=>rw[Z]at K;show(K).elim|some P=>
    rw[Z]at K;cases P with
    |lst xs=>
     dsimp only at K;cases C:bW xs k with|none=>rw[C]at K;show(K).elim|some z=>
      rw[C]at K;dsimp only at K;split at K
      .rename_i I;let#[vs,e1,W]:=N.at Z ha;let#[w,hw,J]:=v9 W C;let#[S,r,pl,hz]:=N.inv.list<|bU.of e1;let#[j,g1,g2,g3,g4,R]:=vT hw;let#[w',ew,m]:=r.get g2;have hn:=Xe;have hj:k.toNat=j:=by rw[uK I R]at g1;show i6 g1
       show wpAny_getItem_list pl.isList I 05 (by simp_all)<|K _ _ H Y N .refl #[w,m,J]
      .show(K).elim
    |_=>show(K).elim
  |_=>show(K).elim
 |_=>cases y<;>show(K).elim
def HK(p:dt V X f g)(N:az V X L Y bF h U H s)(O:RU X.K Y H x v)(M:RU X.K Y H y u) (K:JC V X L Y H (rS bF (g x y h) k) Q E) (step:∀z h1 w s1 H1 C,az V X L C bF h1 U H1 s1->aU Y H C H1->RU X.K C H1 z w->JC V X L C H1 (k z h1) Q E->Q1 w s1):Zw (Zy X.prog X.w) X.A (f v u) Q1 E s:=by calc p L s U H Y bF h x y v u Q1 E N O M ?_;cases e:g x y h with|ok z J=>rw[e]at K;show λw j I D F m r=>step z J w j I D F m r<|JC.mono K m|exc n J=>rw[e]at K;show λpl a j I D F m q=>K pl a j U I D F m q j<|.inl rfl|stuck=>rw[e]at K;show K
def WT(N:az V X L Y bF h U H s)(P:RU X.K Y H o ou)(I:RU X.K Y H i iu)(rv:RU X.K Y H v u) (K:JC V X L Y H (m5 o i v bF h) Q E):Zw (Zy X.prog X.w) X.A (setItem ou iu u) (λ_=>Q .next) E s:=by
 let#[ox,P,W]:=P;let#[ix,I,Z]:=I;let#[J,M,qv]:=rv;cases o with
 |ref i=>
  rename_i iv;cases iv with
  |int k=>
   let#[a,rfl,C]:=W;cases (Z);dsimp only[m5]at K;cases O:h[i]? with|none=>rw[O]at K;show(K).elim|some ob=>
    rw[O]at K;cases ob with
    |lst xs=>
     dsimp only at K;cases F:jP xs.length k with|none=>rw[F]at K;show(K).elim|some j=>
      rw[F]at K;let#[ws,m,D]:=N.at O C;refine c6 (Ol (X:=X.aT E) L s U H (.ref a) (.int k) J ou iu u (λR=>R=upd H a (.lst<|ws.set j J)) (N.inv.aT E) P I M #[a,ws,k,j,rfl,rfl,m,by rw[D.length];show F,rfl]) (λ_ s3 hq=>?_) λ_ _ z=>z
      let#[R,S,rfl]:=hq;have n:aU Y H Y (upd H a<|.lst<|ws.set j J):=#[#[[],03],Ext.cJ m<|by rw[m];show fJ];let#[R3,_]:=N.rel.write (io:=.lst<|xs.set j v) C m (by rw[m];show fJ) #[_,Jx,(aw.mono n _ _ D).set (RV.mono n _ _ qv) j];show K s3 U _ Y #[S.aG,R3,N.st.mono n] n
    |_=>show(K).elim
  |_=>show(K).elim
 |_=>cases i<;>show(K).elim
def WU(ho:ah V X o mo)(Z:ah V X i mi)(he:ah V X e me)(hs:Xf i=Zi):cD V X (.AugAssign (.Subscript o i tpos) op e pos) (XD op mo mi me):=by
 intro L s U H Y bF h Q E N K;calc wpAny_AugAssign_SubscriptAny (cQ ho N K λov h1 ou s1 H1 U1 R n1 D K1=>cQ Z R K1 λkv J ku s2 H2 U2 N2 n2 C K2=>?_) (λ_ _ _=>by cases i<;>first|rfl|cases hs);refine HK WQ N2 (D.mono n2) C K2 λx h3 xu s3 H3 U3 N3 m W S=>?_
 refine cQ he N3 S λy h4 yu s4 H4 W4 O j M I=>?_
 refine HK (qp op) O (W.mono j) M I λz h5 zu s5 H5 U5 N5 F r5 P=>?_
 show WT N5 ((((D.mono n2).mono m).mono j).mono F) (((C.mono m).mono j).mono F) r5 P
end
section
variable{V:aF}{k:Nat}{P:Pg}{n:Nat}{S:Sc}{X:Cx}
theorem Vz(j:∀s,cD V X s<|f s):∀(l:Tn),jD V X l (dO<|l.map f)|[]=>Pd|[a]=>Pf<|j a|a::b::r=>Pe (j a)<|Vz j<|b::r
end
section
variable{V:aF}{k:Nat}{P:Pg}{S:Sc}{X:Cx}{xi:Xi}{xf:Str->Str->Bool}{fr:Str->Bool}
theorem WV:tR V X a sl suite b8:=λ_ _ _ _ _ _ _ _ _ _ _ _ _ _ _ _ _ K=>(show False from K).elim
def WW(G:Good V k P S X)(a)(st):cD V (JY X a) st (qh S st):=by
 unfold qh;split
 .rename_i x q c j p m;cases E:S.hJ x with|none=>show JI|some i=>let#[D,J,C]:=G.hJ E;calc Ay (X:=JY X a) G.nodup ?_ D J (YC rfl) C;cases c with|int i=>show Ao|bool b=>show tG|none=>show FX|str x=>show FY|_=>show Jn
 .show JI
def WX(G:Good V k P S X)(hm:∀X,Good V k P {S with cl:=Zl} X->∀st,cD V X st<|m st)(a)(sl)(suite):tR V X a sl suite (BX S m sl suite):=by
 unfold BX;split
 .rename_i i;split
  .rename_i h;show TN (e:=S.N[i]) (by rw[G.n];show Zd h) λj=>Vz (hm (wF X a j) #[G.n,G.sc,G.nd,G.fk,G.calm,#[nofun,G.room.dp,G.room.un],G.st,G.pg,G.code,λz=>#[nofun,(G.fj z).dp,(G.fj z).un],G.top]) suite
  .show WV
 .show(Vz (WW G a) suite).h
def WY(G:Good V k P S X)(bE:qj X.K X.mg xi xf)(hx:xi D=B g)(J:S.gl D=Zi)(a)(c)(C)(b)(L)(U)(H)(s)(Q)(E)(O:g c=B b) (Y:W.nsIn X.K Z2 c=B (B<|.ref C))(I:Inv (JY X a) L U H s)(ho:∃oe,s.heap.get? a=B oe/\oe.cls=.ref C)(Z:Q b s):Zw (Zy X.prog X.w) (JY X a).A (a0 (.Name D q) X.env) (λv s₁=>Zw (Zy X.prog X.w) (JY X a).A (excMatches (.ref a) v) Q E s₁) E s:=by
 let#[v,hv,hg]:=bE.1 D g hx;let#[j,m,nn]:=G.gl J;have hc:k6 (JY X a) (.Name D q) v:=by
  rcases hv with z|⟨z,w⟩
  .show Gx j z m
  .show Xu j z w nn m
 calc hc L U H s _ E I ?_;let#[_,_,M]:=hg c C b O Y;let#[oe,h1,J]:=ho;let#[F,gg,d,tk,os]:=s;have R:W.Looks (Zy X.prog X.w) F (lP<|.ref a) (.ref C):=J▸(W.Looks.ld h1).andThen .now;show(W.exm_one (I.cF:X.K.In F) R M).at Z
theorem HL(G:Good V k P S X)(hm:∀X,Good V k P {S with cl:=Zl} X->∀st,cD V X st<|m st):∀{l:Ts}{ms:Tr},lu P S m l=B ms->f9 V X l ms
 |[],ms,e=>by cases e;show .nil
 |h::r,ms,e=>by
  unfold lu at e;cases j:BY P S m h with
  |none=>rw[j]at e;cases e
  |some q=>
   cases M:lu P S m r with
   |none=>rw[j,M]at e;cases e
   |some l=>
    rw[j,M]at e;cases e;unfold BY at j;split at j
    .rename_i D q2 nm b R Z;split at j
     .rename_i hD;cases J:P.xi D with
      |none=>rw[J]at j;cases j
      |some g=>
       cases F:BW S nm with
       |none=>rw[J,F]at j;cases j
       |some sl=>
        rw[J,F]at j;cases j;calc .cons #[λa c C b L U H s Q E O hC I ho Y=>WY G G.pg.xi J hD a c C b L U H s Q E O hC I ho Y,?_,λa=>WX G hm a sl _]<|HL G hm M;unfold BW at F;cases nm with
        |none=>cases F;show .inl #[rfl,rfl]
        |some x=>
         dsimp only at F;split at F
         .rename_i hl;let#[i,W,rfl]:=Z6.mp F;calc .inr #[x,i,rfl,rfl,by rw[G.n];show Yv W,?_];rw[G.kind];show beq_iff_eq.mp hl
         .cases F
     .cases j
    .cases j
end
section
variable{V:aF}{k:Nat}{P:Pg}{n:Nat}{S:Sc}{X:Cx}
def WZ(G:Good V k P S X)(hm:∀e,ah V X e<|m e):cD V X (.Raise (B<|.Call (.Name x q) [e] [] q2) Ze p) (BZ P S m x e):=by
 unfold BZ;split
 .rename_i f hf;split
  .rename_i h;simp![Zs,decide_eq_true_eq]at h;let#[#[#[E,h1],J],h3]:=h;split
   .rename_i d hd;let#[C,fa,fd,ps,c1,H,R,L,Z,D]:=G.pg.xo x f hf;let#[Q,W,_]:=G.gl h1;let#[F,ds,O,hl,I]:=Yj D hd;have Y:ps.length<=sizeLine:=by have:=D.len;rw[iM];show Zc (Zc (Zn this) h3)<|Zq _ 16777208
    refine SY (G.room.hd E) (S6 R L D.ok H (G.r8 F) Q c1 O I (QQ (es:=[e]) (by simp[J]) hm) (λU h xs M z=>?_) Y W (Jz J) rfl) λc C' F j h hK=>?_
    .have:=Xr _ U h xs M z;rw[Zp]at this;simp at this;lia
    .have e1:c=x:=beq_iff_eq.mp F;subst e1;rw[H]at j;cases j;show Z h hK
   .show JI
  .show JI
 .show JI
def W0(G:Good V k P S X)(hm:∀e,ah V X e<|m e):cD V X (.Raise exc cause p) (B0 P S m exc cause):=by
 unfold B0;split
 .rename_i x q e j;show WZ G hm
 .show JI
def W5(G:Good V k P S X)(hm:∀s,cD V X s<|m s)(j:∀X,Good V k P {S with cl:=Zl} X->∀st,cD V X st<|mw st):cD V X (.Try body hs o f p) (qk P S m mw body hs o f):=by
 unfold qk;split
 .split
  .rename_i h;let#[C,D]:=G.top h;split
   .rename_i E e;show SH G.nodup C D (Vz hm body)<|HL G j e
   .show JI
  .show JI
 .show JI
def W8(h:Jy tg=Zi):(fY [tg] env).map (·.2)=[lO tg env]:=by cases tg<;>first|rfl|cases h
def W9(G:Good V k P S X)(i)(h:lq e=Zi)(h1:X.N[i]?=B x)(J:L2.Loc X.env.scope x)(h3:X.fn x=Zi\/X.env.scope.names.lookup x=B .local):cD V X (.Assign [.Name x q] e p) (Jj i<|ev P n S e):=by
 cases e with
 |ListComp F I sc cp=>
  cases O:(X.env.blockKind==.function&&X.env.kindOf x==B .local&&q.line==cp.line&&!(sc.names.any λ(n,k)=>n==x&&(k==.local||k==.cell)))with|false=>calc Ay G.nodup ((w9 V k P n).e S X _ G) h1 J ?_ h3;change(pure (X.env.blockKind==.function&&X.env.kindOf x==B .local&&q.line==cp.line&&!(sc.names.any λ(n,k)=>n==x&&(k==.local||k==.cell))):Sem Bool)=pure Zl;rw[O]|true=>
   have D:nH (.ListComp F I sc cp) (B<|.Name x q) p.line X.env=pure Zi:=by change(pure (X.env.blockKind==.function&&X.env.kindOf x==B .local&&q.line==cp.line&&!(sc.names.any λ(n,k)=>n==x&&(k==.local||k==.cell))):Sem Bool)=pure Zi;rw[O]
   have j:∀m:E1,(∀U h,m U h=.stuck)->cD V X (.Assign [.Name x q] (.ListComp F I sc cp) p) (Jj i m):=λm hm=>by intro L s U H Y bF h Q E N K;unfold Jj at K;rw[hm]at K;show Zf K
   cases n with|zero=>show j _ λ_ _=>rfl|succ n=>
    have M:=w9 V k P n;match I,D with
    |[⟨tg,iter,ifs,as⟩],D=>
     change cD V X _ (Jj i (if as=0/\X4 iter=Zi/\QF S.N (Vv sc) (Q6 sc) (dE S sc) S.lg sc=Zi then BQ ifs (lh P n<|S.comp sc) (λmt=>Jv (r7 P n S tg iter) (Vv sc).length (dE S sc) (my P n (S.comp sc) tg) mt<|ev P n (S.comp sc) F)else bw));split
     .rename_i hs;let#[rfl,Z,ok]:=hs;have W:=G.comp ok;have R:=ok;rw[<-HI G]at R;match ifs,D with|[],D=>show GG G.calm (M.i S X tg iter G) (λC s H fp=>M.g _ _ tg<|W C s H fp) (λC s H fp=>GA) (λC s H fp=>M.e _ _ F<|W C s H fp) R G.n rfl (Yt Z) G.nodup h1 J h3 D|[c],D=>show GG G.calm (M.i S X tg iter G) (λC s H fp=>M.g _ _ tg<|W C s H fp) (λC s H fp=>GB<|M.t _ _ c<|W C s H fp) (λC s H fp=>M.e _ _ F<|W C s H fp) R G.n rfl (Yt Z) G.nodup h1 J h3 D|_::_::_,_=>show j _ λ_ _=>rfl
     .show j _ λ_ _=>rfl
    |[],_=>show j _ λ_ _=>rfl
    |⟨_,_,_,_⟩::_::_,_=>show j _ λ_ _=>rfl
 |_=>cases h
theorem B5(V)(k)(P):∀(n:Nat)(S:Sc)(X:Cx)(st:dZ),Good V k P S X->cD V X st (ex P n S st)
 |0,_,_,_,_=>JI
 |n+1,S,X,st,G=>by
  have F:=λst=>B5 V k P n S X st G
  have E:=w9 V k P n;have m:=λe=>E.e S X e G
  cases st with
  |Pass p=>show Ph
  |Break p=>show Pj
  |Continue p=>show Pl
  |Expr e p=>
   change cD V X _ (if Vy e then JA (ev P n S e)else b8);split
   .rename_i h;show Pm (m e)<|YC h
   .show JI
  |Return v p=>
   cases v with
   |none=>show Pp
   |some e=>show Po<|m e
  |If c a b p=>show Ax (E.t S X c G) (Vz F a)<|Vz F b
  |Raise exc Q p=>show W0 G m
  |Try Y hs o f p=>show W5 G F λX G st=>B5 V k P n _ X st G
  |While c a o p=>
   cases o with
   |nil=>
    change cD V X _<|BU S.own (lh P n S c)<|dO<|a.map<|ex P n S;cases h:S.own with
    |true=>let#[U,H]:=G.top h;show WL U H (E.t S X c G)<|Vz F a
    |false=>show JI
   |cons _ _=>show JI
  |For D it a o p=>
   cases o with
   |nil=>
    change cD V X _ (if X4 it&&S.own then cz (r7 P n S D it) (my P n S D) (dO<|a.map<|ex P n S)else b8);split
    .rename_i h;rw[Zs]at h;let#[U,H]:=G.top h.2;show PA G.calm U H (E.i S X D it G) (E.g S X D G) (Vz F a)<|Yt h.1
    .show JI
   |cons _ _=>show JI
  |AugAssign D M e p=>
   cases D with
   |Name x q=>
    change cD V X _ (match S.hJ x with|some i=>ni M i (ev P n S e)|none=>b8);cases W:S.hJ x with
    |none=>show JI
    |some i=>let#[L,J,I]:=G.hJ W;show WN G.nodup (m e) L J I
   |Attribute o f q=>
    change cD V X _ (if P.fld f then XC M f (ev P n S o) (ev P n S e)else b8);split
    .rename_i h;show WO (m o) (m e)<|G.pg.fld f h
    .show JI
   |Subscript o i q=>
    change cD V X _ (if Xf i then XD M (ev P n S o) (ev P n S i) (ev P n S e)else b8);split
    .rename_i h;show WU (m o) (m i) (m e) h
    .show JI
   |_=>show JI
  |Assign R e p=>
   match R with
   |[]=>show JI
   |a::_::_=>cases a<;>show JI
   |[D]=>
    have gen:cD V X (.Assign [D] e p) (if Vy e&&((w3 D&&BV e)||w5 D)then eZ (ev P n S e) (my P n S D)else b8):=by
     split
     .rename_i h;simp![Zs,kD]at h;have O:Jy D=Zi:=by
       rcases h.2 with q|q
       .cases D<;>first|rfl|(simp[w3]at q)
       .cases D<;>first|rfl|(simp[w5]at q)
      calc Pu (m e) (E.g S X D G) (YC h.1) ?_<|W8 O;rcases h.2 with q|q
      .cases D with
       |Tuple es j pp=>have q2:=q.2;cases e<;>first|rfl|(simp[BV]at q2)
       |_=>simp[w3]at q
      .cases D with
       |Subscript=>cases e<;>rfl
       |_=>simp[w5]at q
     .show JI
    cases D with
    |Name x q=>
     change cD V X _ (if Vy e||lq e then(match S.hJ x with|some i=>Jj i (ev P n S e)|none=>b8)else b8);split
     .rename_i h;cases W:S.hJ x with
      |none=>show JI
      |some i=>
       let#[L,J,I]:=G.hJ W;rcases kD _ _▸h with h|h
       .show Ay G.nodup (m e) L J (YC h) I
       .show W9 G i h L J I
     .show JI
    |Attribute o f q=>
     change cD V X _ (if Vy e||lq e then B1 P f (ev P n S o) (ev P n S e)else b8);split
     .rename_i h;have Z:nH e (B<|.Attribute o f q) p.line X.env=pure Zl:=by
       rcases kD _ _▸h with h|h
       .show YC h
       .cases e<;>first|rfl|cases h
      unfold B1;split
      .rename_i H;show PZ (m o) (m e) (G.pg.fld f H) Z
      .show TH (m o) (m e) (λc C hc hC=>(G.pg.xi.2 f c C hc hC).1) Z
     .show JI
    |_=>show gen
  |_=>show JI
end
structure D4 where
 st:dZ
 qual:Str
 ps:Tk
 N:Tk
 aL:Tw
abbrev _root_.Wr:=List<|Str×D4
set_option genInjectivity false in
structure Tab where
 fns:Wr
 nj:Wr
 meths:List<|Str×Wr
 cons:Wo
 nk:List<|Str×Tk
 jY:Tk
 frees:Tk
 tabs:Tk:=[]
 qq:List (Str×Wh):=[]
 nr:Tk:=[]
 HM:Tk:=[]
 r9:Wr:=[]
 oN:List (Str×Tk):=[]
 sd:Tk:=[]
noncomputable def dk (x:Str):Tk->Bool|[]=>Zl|y::r=>y==x||dk x r
noncomputable def JW {α:Type}(x:Str):List (Str×α)->Option α|[]=>Ze|(y,a)::r=>if y==x then B a else JW x r
def Tab.cl(T:Tab)(d:D4):Bool:=!dk d.qual T.HM
def D4.sc(T:Tab)(d:D4):Sc:=#[d.N,(JH d.st).names,Zi,d.qual,T.cl d]
def eJ(T:Tab)(f c:Str):Bool:=match JW f T.oN with|some l=>dk c l|none=>Zl
def lA(T:Tab)(r:D4->Tw->IH->Res IV):Pg where
 fn:=λx=>(JW x T.fns).map λd=>#[d.ps.length,d.aL,r d,T.cl d]
 cls:=λx=>(JW x T.nj).map λd=>#[d.ps.length,d.aL,r d,T.cl d]
 fh:=λc m=>((JW c T.meths).bind<|JW m).map λd=>#[d.ps.length,d.aL,r d,T.cl d]
 mw:=λm=>T.meths.all λq=>match JW m q.2 with|some d=>!T.cl d|none=>Zi
 con:=λx=>JW x T.cons
 mu:=λx=>(JW x T.nk).map λl c=>dk c l
 fld:=λx=>dk x T.jY
 free:=λx=>dk x T.frees
 tabs:=λq=>dD q T.tabs
 xi:=λD=>(JW D T.qq).map λl c=>JW c l
 mx:=λx=>dk x T.nr
 xo:=λx=>(JW x T.r9).map λd=>#[d.ps.length,d.aL,r d,T.cl d]
 xf:=eJ T
 xb:=λx=>dk x T.sd
def run(T:Tab):Nat->D4->Tw->IH->Res IV|0,_=>λ_ _=>.stuck|k+1,d=>AG d.N.length<|dO<|(Qi d.st).map<|ex (lA T<|run T k) 40<|d.sc T
theorem Qn:∀{l:List (Str×α)},JW x l=B a->(x,a)∈l
 |[],h=>by cases h
 |(y,b)::r,h=>by
  unfold JW at h;split at h
  .simp_all
  .show Zm _<|Qn h
theorem X3:∀{l:Tk},dk x l=Zi->x∈l
 |[],h=>by cases h
 |y::r,h=>by
  rcases kD _ _▸h with e|e
  .simp_all
  .show Zm _<|X3 e
structure aR(K:W.Frag)(x:Str)(d:D4)(fa:Z4)(fd:gY):Prop where
 t6:∃dV,pY K x d.qual d.st fa fd dV
 sc:c8 d.N d.ps<|JH d.st
 dv:∀j,j<=d.aL.length->∃ds,JO K fd d.ps ds/\ds.length=d.aL.length-j/\∃vs,Vals vs ds/\∀Y H,aw K Y H (d.aL.drop j) vs
structure gc(V:aF)(T:Tab)(K:W.Frag)(mg:Str->Tc):Prop where
 fn:∀x d,(x,d)∈T.fns->∃fa fd,mg x=B (.ref fa)/\aR K x d fa fd
 cls:∀x d,(x,d)∈T.nj->∃C fa fd,mg x=B (.ref C)/\V x=B C/\Mk K C fa/\aR K "__init__" d fa fd
 fh:∀c l m d,(c,l)∈T.meths->(m,d)∈l->∃C fa fd,V c=B C/\kM K C/\Meth K C m fa/\aR K m d fa fd
 con:∀x v,(x,v)∈T.cons->∃u y,mg x=B u/\RelV y u/\∀Y H,RV K Y H v y
 mu:∀D l,(D,l)∈T.nk->∃c,mg D=B c/\fP V K c λt=>match t with|.ins c=>B (dk c l)|.exc _=>Ze|_=>B Zl
 fld:∀f,f∈T.jY->XX V K f
 free:∀x,x∈T.frees->mg x=Ze
 xi:∀D l,(D,l)∈T.qq->∃v,(mg D=B v\/(mg D=Ze/\ka D=B v))/\∀c b,(c,b)∈l->∃C,W.nsIn K Z2 c=B (B<|.ref C)/\gF K C/\W.kitOne K (.ref C) v=B b/\W.exmOne K (.ref C) v=B b
 mx:∀x,x∈T.nr->∃C,mg x=B (.ref C)/\jU K C
 xo:∀x d,(x,d)∈T.r9->∃C fa fd,mg x=B (.ref C)/\W.nsIn K Z2 x=B (B<|.ref C)/\Qh K C fa=Zi/\W.keepIn K (.ref C)=Zi/\(∀h:aM,K.In h->oM h C)/\aR K "__init__" d fa fd
 xf:∀f l c,(f,l)∈T.oN->c∈l->∃C,W.nsIn K Z2 c=B (B<|.ref C)/\fR K C f/\gF K C/\W.findIn K (.ref C) f=B Ze
 xb:∀x,x∈T.sd->∃C,mg x=B (.ref C)/\jV K C
section
variable{V:aF}{T:Tab}{prog:ZU}{w:bq}{K:W.Frag}{mg:Str->Tc}{base:aM}
theorem YK:bx prog w K mg base (d9 prog w) b k fa fd ps (i2 V K ps λ_ _=>.stuck):=#[λ_ _ _ _ h=>h.1,λ_ _ _ _ _ _ _ _ _ _ _ _ _ h=>by let#[_,_,_,_,_,_,z]:=h;show z.elim]
def YL(bE:gc V T K mg):qj K mg (λD=>(JW D T.qq).map λl c=>JW c l) (eJ T):=by
 refine#[λD g h=>?_,λf c C h E=>?_]
 rotate_left
 .have m:(match JW f T.oN with|some l=>dk c l|none=>Zl)=Zi:=h;cases j:JW f T.oN with|none=>rw[j]at m;cases m|some l=>rw[j]at m;let#[H,q,r]:=bE.xf f l c (Qn j)<|X3 m;rw[E]at q;cases q;show r
 let#[l,j,rfl]:=Z6.mp h;let#[v,I,L]:=bE.xi D l<|Qn j;calc#[v,I,λc C b e E=>?_];let#[H,F,J]:=L c b<|Qn e;rw[E]at F;cases F;show J
def YN(bE:gc V T K mg)(bA:T.tabs≠[]->Q0 mg base)(k)(hD:∀x d fa fd,aR K x d fa fd->qm V prog w K mg base (4*k) #[d.ps.length,d.aL,run T k d,T.cl d] fa fd d.ps):tZ V (4*k) (lA T<|run T k) prog w K mg base:=by
 refine#[λx f h=>?_,λx f h=>?_,λc m f h=>?_,λm h c f q=>?_,λx v h=>?_,λD g h=>?_,λf h=>?_,λx h=>?_,λq j h=>bA λe=>?_,YL bE,λx h=>bE.mx x<|X3 h,λx f h=>?_,λx h=>bE.xb x<|X3 h]
 .let#[d,hd,rfl]:=Z6.mp h;let#[fa,fd,hm,ok]:=bE.fn x d<|Qn hd;let#[S,F]:=ok.t6;show#[fa,fd,d.ps,hm,F.kp,hD x d fa fd ok]
 .let#[d,hd,rfl]:=Z6.mp h;let#[C,fa,fd,hm,H,M,ok]:=bE.cls x d<|Qn hd;show#[C,fa,fd,d.ps,hm,H,M,hD _ d fa fd ok]
 .let#[d,hd,rfl]:=Z6.mp h;let#[l,E,hd]:=yy.mp hd;let#[C,fa,fd,H,cl,L,ok]:=bE.fh c l m d (Qn E)<|Qn hd;show#[C,fa,fd,d.ps,H,cl,L,hD m d fa fd ok]
 .let#[d,hd,rfl]:=Z6.mp q;let#[l,E,hd]:=yy.mp hd;have z:=mK.mp h _<|Qn E;rw[hd]at z;show nZ _▸z
 .show bE.con x v<|Qn h
 .let#[l,E,rfl]:=Z6.mp h;show bE.mu D l<|Qn E
 .show bE.fld f<|X3 h
 .show bE.free x<|X3 h
 .have I:dD q T.tabs=B j:=h;rw[e]at I;cases I
 .let#[d,hd,rfl]:=Z6.mp h;let#[C,fa,fd,Q,J,P,O,R,ok]:=bE.xo x d<|Qn hd;show#[C,fa,fd,d.ps,Q,J,P,O,R,hD _ d fa fd ok]
theorem HN(bE:gc V T K mg)(bA:T.tabs≠[]->Q0 mg base):∀k x d fa fd,aR K x d fa fd->qm V prog w K mg base (4*k) #[d.ps.length,d.aL,run T k d,T.cl d] fa fd d.ps
 |0,x,d,fa,fd,ok=>#[rfl,YK,ok.dv]
 |k+1,x,d,fa,fd,ok=>by
  calc#[rfl,?_,ok.dv];let#[I,F]:=ok.t6;change bx prog w K mg base (d9 prog w) (T.cl d) (4*k+3+1) fa fd d.ps<|i2 V K d.ps<|run T (k+1) d;refine F.fn (m:=dO<|(Qi d.st).map<|ex (lA T<|run T k) 40<|d.sc T) ok.sc λD A outer s H E j C=>?_
  calc Vz (λst=>B5 V (4*k) (lA T<|run T k) 40 (d.sc T) _ st ?_) _;show#[rfl,rfl,ok.sc.nd,ok.sc.kind,rfl,C.mono 05,λ_ _=>rfl,YN bE bA k<|HN bE bA k,λ_=>#[j,rfl],λ_=>C,λ_=>#[rfl,rfl]]
end
inductive All{α:Type}(p:α->Prop):List α->Prop|nil:All p []|cons {a:α}{l:List α}:p a->All p l->All p (a::l)
theorem All.mem:∀{l:List α}{a:α},All p l->a∈l->p a
 |_,_,.nil,h=>by cases h
 |_,_,.cons h r,m=>by
  rcases ZA.mp m with rfl|m
  .show h
  .show r.mem m
def HP(l:Tk):Ty->Ww:=λt=>match t with|.ins c=>B (dk c l)|.exc _=>Ze|_=>B Zl
section
variable{T:Tab}{K:W.Frag}{mg:Str->Tc}
def fT(ces:Wq):aF:=λc=>JW c ces
def YO(ces)(fn:All (λp:Str×D4=>∃fa fd,mg p.1=B (.ref fa)/\aR K p.1 p.2 fa fd) T.fns) (cls:All (λp:Str×D4=>∃C fa fd,mg p.1=B (.ref C)/\fT ces p.1=B C/\Mk K C fa/\aR K "__init__" p.2 fa fd) T.nj) (fh:All (λq:Str×Wr=>∃C,fT ces q.1=B C/\All (λp:Str×D4=>∃fa fd,Meth K C p.1 fa/\aR K p.1 p.2 fa fd) q.2) T.meths) (con:All (λp:Str×IV=>∃u y,mg p.1=B u/\RelV y u/\∀Y H,RV K Y H p.2 y) T.cons) (cl:All (λp:Str×Z4=>kZ K p.2/\All (λf=>Vf K p.2 f) T.jY) ces) (mu:All (λq:Str×Tk=>∃D,mg q.1=B (.ref D)/\W.kitOne K (.type "NoneType") (.ref D)=B Zl/\W.kitOne K (.type "bool") (.ref D)=B Zl/\W.kitOne K (.type "int") (.ref D)=B Zl/\W.kitOne K (.type "str") (.ref D)=B Zl /\ W.kitOne K (.type "list") (.ref D)=B Zl/\W.kitOne K (.type "tuple") (.ref D)=B Zl/\W.kitOne K (.type "dict") (.ref D)=B Zl/\All (λp:Str×Z4=>W.kitOne K (.ref p.2) (.ref D)=B (dk p.1 q.2)) ces) T.nk) (free:All (λx=>mg x=Ze) T.frees) (qq:All (λq:Str×Wh=>∃v,(mg q.1=B v\/(mg q.1=Ze/\ka q.1=B v))/\All (λp:Str×Bool=>∃C,W.nsIn K Z2 p.1=B (B<|.ref C)/\gF K C/\W.kitOne K (.ref C) v=B p.2/\W.exmOne K (.ref C) v=B p.2) q.2) T.qq:=by show .nil) (mx:All (λx=>∃C,mg x=B (.ref C)/\jU K C) T.nr:=by show .nil) (r9:All (λp:Str×D4=>∃C fa fd,mg p.1=B (.ref C)/\W.nsIn K Z2 p.1=B (B<|.ref C)/\Qh K C fa=Zi/\W.keepIn K (.ref C)=Zi/\(∀h:aM,K.In h->oM h C)/\aR K "__init__" p.2 fa fd) T.r9:=by show .nil) (oN:All (λq:Str×Tk=>All (λc=>∃C,W.nsIn K Z2 c=B (B<|.ref C)/\fR K C q.1/\gF K C/\W.findIn K (.ref C) q.1=B Ze) q.2) T.oN:=by show .nil) (sd:All (λx=>∃C,mg x=B (.ref C)/\jV K C) T.sd:=by show .nil):gc (fT ces) T K mg:=by
 refine#[λx d h=>fn.mem h,λx d h=>cls.mem h,λc l m d j hm=>?_,λx v h=>con.mem h,λD l h=>?_,λf V=>?_,λx h=>free.mem h,λD l h=>?_,λx h=>mx.mem h,λx d h=>r9.mem h,λf l c h j=>(oN.mem h).mem j,λx h=>sd.mem h]
 .let#[C,E,F]:=fh.mem j;let#[fa,fd,O,ok]:=F.mem hm;show#[C,fa,fd,E,(cl.mem<|Qn E).1.cl,O,ok]
 .let#[C,E,I,J,U,S,X,Q,M,P]:=mu.mem h;refine#[_,E,#[λb e=>?_,λb e=>?_,λb e=>?_,λb e=>?_,λb e=>?_,λb e=>?_,λb e=>?_,λk R b e L=>?_,(λk R b e=>by cases e)]]
  .cases e;show I
  .cases e;show J
  .cases e;show U
  .cases e;show S
  .cases e;show X
  .cases e;show Q
  .cases e;show M
  .cases e;show#[(cl.mem<|Qn L).1,P.mem<|Qn L]
 .intro c C e;let#[I,J]:=cl.mem<|Qn e;show#[I.cl,J.mem V]
 .let#[v,Z,F]:=qq.mem h;show#[v,Z,λc b j=>F.mem j]
theorem kT{P:List α->Prop}(j:∀a,P [a]):∀us:List α,us.length=1->P us|[a],_=>j a
theorem B6{P:List α->Prop}(j:∀a b,P [a,b]):∀us:List α,us.length=2->P us|[a,b],_=>j a b
theorem B7{P:List α->Prop}(j:∀a b c,P [a,b,c]):∀us:List α,us.length=3->P us|[a,b,c],_=>j a b c
theorem B8{P:List α->Prop}(j:∀a b c d,P [a,b,c,d]):∀us:List α,us.length=4->P us|[a,b,c,d],_=>j a b c d
theorem B9{α:Type}{P:List α->Prop}(j:∀a b c d e f,P [a,b,c,d,e,f]):∀us:List α,us.length=6->P us|[a,b,c,d,e,f],_=>j a b c d e f
theorem t7{P:List α->Prop}(j:∀a b c d e f g,P [a,b,c,d,e,f,g]):∀us:List α,us.length=7->P us|[a,b,c,d,e,f,g],_=>j a b c d e f g
noncomputable def gU (N P:Tk)(sc:eL):Bool:=sc.kind==.function&&!sc.isCoroutine&&!sc.isGenerator&&decide N.Nodup&&decide (N.take P.length=P)&&P.all (λx=>sc.names.lookup x==B .local||sc.names.lookup x==B .cell)&&sc.names.all (λy=>!(y.2==.free))
def gU.of(h:gU N P sc=Zi):c8 N P sc:=by simp![gU,Zs,beq_iff_eq,nZ,decide_eq_true_eq,mK,kD,beq_eq_false_iff_ne]at h;let#[#[#[#[#[#[h1,J],h3],h4],h5],h6],h7]:=h;show#[h1,J,h3,h4,h5,h6,h7]
def YQ(x:Qh K C f=Zi)(h)(I:K.In h):oM h C:=by let#[L,N,nm,q,bs,j,P,sub,J,m,F,M,D,Q,E,O,R,S,H,_,_,T,_]:=Qh.obj x I;show#[nm,q,N,bs,L,j,P,sub,J,m,F,M,D,Q,E,O,_,H,T.hasType 01]
def YR(bE:gc V T K mg)(bA:T.tabs≠[]->Q0 mg base)(k)(hp:d.ps=[x])(ok:aR K "law" d fa fd):bx prog w K mg base (d9 prog w) (T.cl d) (4*k) fa fd [x] (XF K x<|run T k d):=by have:=(HN (prog:=prog) (w:=w) (base:=base) bE bA k "law" d fa fd ok).ok;rw[hp]at this;show P8 this
end
def WR{α:Type}(r:Res α)(Q:α->IH->Prop):Prop:=match r with|.ok a h=>Q a h|_=>False
def WS(r:bM)(N:aA->IH->Prop)(R:IV->IH->Prop):Prop:=match r with|.next U h=>N U h|.ret v h=>R v h|_=>False
section
variable{α β:Type}{U:aA}{h:IH}{Q:α->IH->Prop}{N:aA->IH->Prop}{R:IV->IH->Prop}
def WR.mono(x:WR r P)(f:∀a h,P a h->Q a h):WR r Q:=by cases r with|ok a h=>show f a h x|exc n h=>show x|stuck=>show x
def Jf(e:r=.ok a h)(q:Q a h):WR r Q:=by rw[e];show q
def WR.eq(x:WR r Q):∃a h,r=.ok a h/\Q a h:=by cases r with|ok a h=>show#[a,h,rfl,x]|exc n h=>show x.elim|stuck=>show x.elim
def WS.mono(x:WS r N R)(f:∀U h,N U h->N' U h)(g:∀v h,R v h->R' v h):WS r N' R':=by cases r with|next U h=>show f U h x|ret v h=>show g v h x|_=>show x
theorem YH(a):WR (.ok a h) Q=Q a h:=rfl
def JB(r)(f:α->IH->Res β)(Q):WR (r.bind f) Q=WR r λa h=>WR (f a h) Q:=by cases r<;>rfl
def Vb(c)[Decidable c](x y):WR (if c then x else y) Q=((c->WR x Q)/\(¬c->WR y Q)):=by by_cases j:c<;>simp[j]
def Vo(r:Res α)(k):WS (rS U r k) N R=WR r λa h=>WS (k a h) N R:=by cases r<;>rfl
def YS(r)(Q):WR r.fin Q=WS r (λ_ h=>Q .ag h) Q:=by cases r with|exc n U h=>change WR (match h[n]? with|some (.exc _ _)=>Res.exc n h|_=>Res.stuck) Q=False;split<;>rfl|_=>rfl
theorem HQ(U):WS (.next U h) N R=N U h:=rfl
def YT(a b):WS (Jg a b U h) N R=WS (a U h) (λj h1=>WS (b j h1) N R) R:=by unfold Jg;cases a U h<;>rfl
def YU(i)(e):WS (Jj i e U h) N R=WR (e U h) λv h1=>N (U.set i<|B v) h1:=by unfold Jj;rw[Vo];rfl
def YV(t)(a b):WS (bY t a b U h) N R=WR (t U h) λc h1=>(c=Zi->WS (a U h1) N R)/\(c=Zl->WS (b U h1) N R):=by unfold bY;rw[Vo];congr 1;funext c h1;cases c<;>simp
def YW(e):WS (Jm e U h) N R=WR (e U h) R:=by unfold Jm;rw[Vo];rfl
def YX(e):WS (JA e U h) N R=WR (e U h) λ_ h1=>N U h1:=by unfold JA;rw[Vo];rfl
def xg(e)(g):WS (eZ e g U h) N R=WR (e U h) λv h1=>WS (g v U h1) N R:=by unfold eZ;rw[Vo]
def YI(f)(o e):WS (JJ f o e U h) N R=WR (e U h) λv h1=>WR (o U h1) λE J=>∃i c fs,E=.ref i/\J[i]?=B (.ins c fs)/\fs.length<1000/\N U (J.set i<|.ins c<|bG f v fs):=by
 unfold JJ;rw[Vo];congr 1;funext v h1;rw[Vo];congr 1;funext E J;cases E with
 |ref i=>
  cases e:J[i]? with|none=>simp[WS,e]|some o=>
   cases o with
   |ins c fs=>
    by_cases m:fs.length<1000
    .simp only[e,m];calc propext #[λq=>#[i,c,fs,rfl,e,m,q],λ⟨H,I,C,F,j,_,q⟩=>?_];cases F;rw[e]at j;cases j;show q
    .simp only[e,m];calc propext #[λq=>q.elim,λ⟨H,I,C,F,j,D,_⟩=>?_];cases F;rw[e]at j;cases j;show m D
   |_=>simp[WS,e]
 |_=>simp[WS]
def HR(it)(g)(b):WS (cz it g b U h) N R=WR (it U h) λbC h1=>WS (JS bC.aZ g b bC.xs U h1) N R:=by unfold cz;rw[Vo]
theorem V2(v)(Q):WR (eC v U h) Q=Q v h:=rfl
def YG(f)(a b)(Q):WR (Je f a b U h) Q=WR (a U h) λx h1=>WR (b U h1) λy J=>WR (f x y J) Q:=by unfold Je;rw[JB];congr 1;funext x h1;rw[JB]
def YZ(t)(a b)(Q):WR (kQ t a b U h) Q=WR (t U h) λc h1=>(c=Zi->WR (a U h1) Q)/\(c=Zl->WR (b U h1) Q):=by unfold kQ;rw[JB];congr 1;funext c h1;cases c<;>simp
def Za(a b)(Q):WR (Qy a b U h) Q=WR (a U h) λc h1=>(c=Zi->WR (b U h1) Q)/\(c=Zl->Q Zl h1):=by unfold Qy;rw[JB];congr 1;funext c h1;cases c<;>simp[WR]
def Jx1(f g)(a b c)(Q):WR (JU f g a b c U h) Q=WR (a U h) λx h1=>WR (b U h1) λy J=>WR (f x y J) λk h3=>∃t,k=.bl t/\(t=Zi->WR (c U h3) λz j=>WR (g y z j) Q)/\(t=Zl->Q (.bl Zl) h3):=by
 unfold JU;rw[JB];congr 1;funext x h1;rw[JB];congr 1;funext y J;rw[JB];congr 1;funext k h3;cases k with
 |bl t=>cases t with|true=>rw[JB];simp|false=>simp[WR]
 |_=>simp[WR]
def Jx0(a)(r)(Q):WR (Jb a r U h) Q=WR (a U h) λx h1=>WR (r U h1) λxs J=>Q (x::xs) J:=by unfold Jb;rw[JB];congr 1;funext x h1;rw[JB];rfl
def J6t(a)(Q):WR (cG a U h) Q=WR (a U h) λxs h1=>xs.length<=sizeLine/\Q (.tup xs) h1:=by unfold cG;rw[JB];congr 1;funext xs h1;rw[Vb];by_cases j:xs.length<=sizeLine<;>simp[j,WR]
def J6o(a)(Q):WR (J2 a U h) Q=WR (a U h) λxs h1=>xs.length<=sizeLine/\Q (.ref h1.length) (h1++[.lst xs]):=by unfold J2;rw[JB];congr 1;funext xs h1;rw[Vb];by_cases j:xs.length<=sizeLine<;>simp[j,WR]
def J2l(f)(d)(a)(Q):WR (Ji f d a U h) Q=WR (a U h) λvs h1=>WR (f (vs++d) h1) Q:=by unfold Ji;rw[JB]
def VP(c)(f)(d)(a)(Q):WR (JV c f d a U h) Q=WR (a U h) λvs h1=>WR (f (.ref h1.length::(vs++d))<|h1++[.ins c []]) λr J=>r=.ag/\Q (.ref h1.length) J:=by unfold JV;rw[JB];congr 1;funext vs h1;rw[JB];congr 1;funext r J;cases r<;>simp[WR]
def HS(f)(a)(Q):WR (bt f a U h) Q=WR (a U h) λvs h1=>WR (f vs h1) Q:=by unfold bt;rw[JB]
theorem HU(f)(x)(Q):WR (bu f [x] h) Q=WR (f x h) Q:=rfl
def J6j(ans)(e)(Q):WR (dC ans e U h) Q=WR (e U h) λv h1=>∃b,(iB v h1).bind ans=B b/\Q (.bl b) h1:=by unfold dC;rw[JB];congr 1;funext v h1;cases (iB v h1).bind ans<;>simp[WR]
def Jx5(e)(Q):WR (Qp e U h) Q=WR (e U h) λv h1=>∃i,v=.int i/\Q (B i) h1:=by unfold Qp;rw[JB];congr 1;funext v h1;cases v<;>simp[WR]
def xh(f)(e)(lo Z)(Q):WR (kn f e lo Z U h) Q=WR (e U h) λx h1=>WR (lo U h1) λl J=>WR (Z U J) λu h3=>WR (f x l u h3) Q:=by unfold kn;rw[JB];congr 1;funext x h1;rw[JB];congr 1;funext l J;rw[JB]
noncomputable def V9 (f:Str)(v:IV)(h:IH):Tf:=match v with|.ref i=>(match h[i]? with|some (.ins _ fs)=>fs.lookup f|_=>Ze)|_=>Ze
def J6i(f)(o)(Q):WR (Jk f o U h) Q=WR (o U h) λv h1=>∃x,V9 f v h1=B x/\Q x h1:=by
 unfold Jk;rw[JB];congr 1;funext v h1;cases v with
 |ref i=>
  unfold V9;cases e:h1[i]? with|none=>simp[WR,e]|some m=>cases m with|ins c fs=>cases j:fs.lookup f<;>simp[WR,e,j]|_=>simp[WR,e]
 |_=>simp[WR,V9]
variable{i j:Int}{x y:Str}{P:IV->IH->Prop}
def J6q(i j):WR (Qd (.int i) (.int j) h) P=(Ve i j/\P (.int<|i*j) h):=by change WR (X5 (.int i) (.int j) h) P=_;unfold X5;rw[Vb];by_cases hm:Ve i j<;>simp[hm,WR]
def J2o(i j):WR (JQ (.int i) (.int j) h) P=((0<j/\j.natAbs.log2<9000)/\P (.int<|i/j) h):=by unfold JQ;rw[Vb];by_cases hm:0<j/\j.natAbs.log2<9000<;>simp[hm,WR]
def J6p(i j):WR (J0 (.int i) (.int j) h) P=(0<j/\P (.int<|i%j) h):=by unfold J0;rw[Vb];by_cases hm:0<j<;>simp[hm,WR]
def xj(i j):WR (JK (.int i) (.int j) h) P=((0<=j/\j<=1000000/\i.natAbs<2^64)/\P (.int<|i^j.toNat) h):=by unfold JK;rw[Vb];by_cases hm:0<=j/\j<=1000000/\i.natAbs<2^64<;>simp[hm,WR]
def J2j(x y):WR (Jq (.str x) (.str y) h) P=(x.length+y.length<=sizeLine/\P (.str<|x++y) h):=by unfold Jq;rw[Vb];by_cases hm:x.length+y.length<=sizeLine<;>simp[hm,WR]
theorem J6n(x y):WR (fA (.str x) (.str y) h) P=P (.bl (!decide (y.cps.toList<x.cps.toList))) h:=rfl
def Vc(I:Nat->aA->IH->Prop)(P:∀i U h,I i U h->aZ h) (H:∀i (Z:i<xs.length) U h,I i U h->WS (g xs[i] U h) (λM h1=>WS (b M h1) (I<|i+1) R) λ_ _=>False)(done:∀U h,I xs.length U h->N U h)(start:I 0 U h):WS (JS aZ g b xs U h) N R:=by
 have O:∀(n i:Nat)(U:aA)(h:IH),xs.length-i=n->i<=xs.length->I i U h->WS (JS aZ g b (xs.drop i) U h) N R:=by
  intro n;induction n with|zero=>intro i U h hn Z L;have:i=xs.length:=05;subst this;rw[u9];unfold JS;rw[if_pos<|P _ _ _ L];show done _ _ L|succ n Q=>
   intro i U h hn Z L;have D:i<xs.length:=o4 06;rw[pb D];unfold JS;rw[if_pos<|P _ _ _ L];have t:=H i D U h L;cases F:g xs[i] U h with
   |next M h1=>rw[F]at t;have j:WS (b M h1) (I<|i+1) R:=t;dsimp only;cases E:b M h1 with|next C J=>rw[E]at j;show Q (i+1) C J (congrArg sN 06) D j|ret v J=>rw[E]at j;show j|brk C J=>rw[E]at j;show j.elim|cont C J=>rw[E]at j;show j.elim|exc m C J=>rw[E]at j;show j.elim|stuck=>rw[E]at j;show j.elim
   |ret v h1=>rw[F]at t;show t.elim
   |brk C J=>rw[F]at t;show t.elim
   |cont C J=>rw[F]at t;show t.elim
   |exc m C J=>rw[F]at t;show t.elim
   |stuck=>rw[F]at t;show t.elim
 have:=O xs.length 0 U h 04 (ZF _) start;simpa using this
end
section
variable{α:Type}{h h1:IH}{a:α}{r:Res α}{P:IV->IH->Prop}
def Js(x:WR r λv h'=>v=a/\h'=h1):r=.ok a h1:=by let#[_,_,e,rfl,rfl]:=x.eq;show e
def J6m(xs)(n):WR (Jh (.tup xs) (.int n) h) P=∃x,bW xs n=B x/\P x h:=by unfold Jh;cases e:bW xs n<;>simp[WR,e]
def J6l(xs)(n):WR (Jh (.bX xs) (.int n) h) P=∃x,bW xs n=B x/\P x h:=by unfold Jh;cases e:bW xs n<;>simp[WR,e]
def J6k(i)(n):WR (Jh (.ref i) (.int n) h) P=∃xs,h[i]?=B (.lst xs)/\∃x,bW xs n=B x/\P x h:=by
 unfold Jh;cases e:h[i]? with|none=>simp[WR,e]|some o=>cases o with|lst xs=>cases j:bW xs n<;>simp[WR,e,j]|_=>simp[WR,e]
def J2q(i):WR (bH (.ref i) h) P=∃xs,h[i]?=B (.lst xs)/\P (.int xs.length) h:=by unfold bH;cases e:h[i]? with|none=>simp[WR,e]|some o=>cases o<;>simp[WR,e]
def J2r(x):WR (bH (.str x) h) P=(x.length<=sizeLine/\P (.int x.length) h):=by unfold bH;rw[Vb];by_cases hm:x.length<=sizeLine<;>simp[hm,WR]
def JN{n:Nat}(e:xs[n]?=B x):bW xs (n:Int)=B x:=by have hn:=(Zu.mp e).1;have:(n:Int)<xs.length:=zg.mpr 06;simp[bW,jP,this,e]
def Q5:bW (x::xs) 0=B x:=by simp[bW,jP]
theorem QR:bW (x::y::xs) 1=B y:=JN rfl
theorem VT:bW (x::y::z::xs) 2=B z:=JN rfl
theorem VU:bW (x::y::z::u::xs) 3=B u:=JN rfl
theorem xk:bW (x::y::z::u::v::xs) 4=B v:=JN rfl
def Ca(h0:0<=n)(e:xs[n.toNat]?=B x):bW xs n=B x:=by have:=JN e;rwa [Int.toNat_of_nonneg h0]at this
def HV(e:h[i]?=B (.lst xs)):iB (.ref i) h=B .lst:=by simp[iB,e]
def grow{i:Nat}(e:h[i]?=B o):(h++g)[i]?=B o:=by rw[ZE (Zu.mp e).1];show e
theorem grown:(h++[o])[h.length]?=B o:=03
theorem J9(e:h[i]?=B o):i<h.length:=(Zu.mp e).1
theorem HW(f):∀xs:Tw,Xs (xs.map λx=>.bl<|f x)=B (xs.map f)|[]=>rfl|x::xs=>by simp[Xs,HW f xs]
def all_map{xs:Tw}(e:h[i]?=B (.lst<|xs.map λx=>.bl<|f x)):allI (.ref i) h=.ok (.bl<|xs.all f) h:=by simp[allI,e,HW]
end
def Ex(h h':IH):Prop:=∃g,h'=h++g
theorem Ex.refl(h):Ex h h:=#[[],03]
def Ex.trans(a:Ex h h1)(b:Ex h1 J):Ex h J:=by let#[g,rfl]:=a;let#[j,rfl]:=b;show#[g++j,03]
def Ex.get(a:Ex h h'){i:Nat}(e:h[i]?=B o):h'[i]?=B o:=by let#[g,rfl]:=a;show grow e
theorem Ex.one(h)(o):Ex h (h++[o]):=#[[o],rfl]
def Ex.len(a:Ex h h'):h.length<=h'.length:=by let#[g,rfl]:=a;simp
section
variable{α:Type}{h:IH}
theorem Cb(i0):∀{xs acc:Tw}{o:Tf}{h1:IH},h1[i0]?=B (.lst acc)->(∀J,(∀j m,j≠i0->h1[j]?=B m->J[j]?=B m)->aZ J)->acc.length+xs.length<sizeLine ->(∀x∈xs,∀J,(∀j m,j≠i0->h1[j]?=B m->J[j]?=B m)->WR (t (B x::caps) J) λb h3=>b=p x/\Ex J h3) ->(∀x∈xs,p x=Zi->∀J,(∀j m,j≠i0->h1[j]?=B m->J[j]?=B m)->WR (e (B x::caps) J) λv h3=>v=f x/\Ex J h3) ->WR (JR aZ (br 0) t e i0 xs (o::caps) h1) λv h3=>v=.ref i0/\∃g,h3=h1.set i0 (.lst<|acc++(xs.filter p).map f)++g
 |[],acc,o,h1,Z,hc,_,_,_=>by
  unfold JR;rw[if_pos<|hc h1 λ_ _ _ q=>q];calc#[rfl,[],?_];simp;calc(nX λj=>?_);by_cases Q:j=i0
  .subst Q;rw[Z,ZM<|J9 Z]
  .rw[ZL<|ZP Q]
 |x::xs,acc,o,h1,Z,hc,hl,ht,he=>by
  unfold JR;rw[if_pos<|hc h1 λ_ _ _ q=>q];dsimp only[br,yU];have M:acc.length+xs.length+1<sizeLine:=by simpa[nP]using hl
  let#[b,J,S,rfl,F]:=(ht x Z7 h1 λ_ _ _ q=>q).eq;rw[S];have C:∀j m,j≠i0->h1[j]?=B m->J[j]?=B m:=λj m _ q=>F.get q
  cases O:p x with
  |false=>
   dsimp only;refine WR.mono (Cb i0 (F.get Z) (λh3 q=>hc h3 λj m n r=>q j m n<|C j m n r) (mG 06) (λy H h3 q=>ht y (Zm _ H) h3 λj m n r=>q j m n<|C j m n r) λy H D h3 q=>he y (Zm _ H) D h3 λj m n r=>q j m n<|C j m n r) λv h3 ⟨ev,g,P⟩=>#[ev,?_]
   let#[g2,rfl]:=F;calc#[g2++g,?_];rw[P,mJ (h:=J9 Z)];simp[O]
  |true=>
   dsimp only;let#[v,h3,R,rfl,L]:=(he x Z7 O J C).eq;rw[R];dsimp only;rw[L.get<|F.get Z];dsimp only;rw[if_pos<|ki (Zq _ _) 06];have E:∀j m,j≠i0->h1[j]?=B m->(h3.set i0<|.lst<|acc++[f x])[j]?=B m:=λj m n q=>by rw[ZL<|ZP n];show L.get<|F.get q
   refine WR.mono (Cb i0 (acc:=acc++[f x]) (by rw[ZM<|J9<|L.get<|F.get Z]) (λI q=>hc I λj m n r=>q j m n<|E j m n r) (by simp;(rw[nO];show M)) (λy H I q=>ht y (Zm _ H) I λj m n r=>q j m n<|E j m n r) λy H D I q=>he y (Zm _ H) D I λj m n r=>q j m n<|E j m n r) λv I ⟨ev,g,P⟩=>#[ev,?_]
   let#[U,V]:=F.trans L;calc#[U++g,?_];rw[P,V,mJ (h:=J9 Z),mJ (h:=by rw[pj];show J9 Z),vg];simp[O]
def xl(D:WR (it U h0) λbC h1=>bC.xs=xs/\bC.aZ=aZ/\h1=h)(hl:xs.length<sizeLine) (O:∀J:IH,(∀(j:Nat)(m:IX),h[j]?=B m->J[j]?=B m)->aZ J) (L:∀x∈xs,∀J:IH,(∀(j:Nat)(m:IX),h[j]?=B m->J[j]?=B m)->WR (t (B x::js.map λj=>(U[j]?).join) J) λb h3=>b=p x/\Ex J h3) (H:∀x∈xs,p x=Zi->∀J:IH,(∀(j:Nat)(m:IX),h[j]?=B m->J[j]?=B m)->WR (e (B x::js.map λj=>(U[j]?).join) J) λv h3=>v=f x/\Ex J h3):WR (Jv it 1 js (br 0) t e U h0) λv h3=>v=.ref h.length/\∃g,h3=h++.lst ((xs.filter p).map f)::g:=by
 let#[bC,h1,P,q1,F,rfl]:=D.eq;unfold Jv;rw[P];change WR (JR bC.aZ (br 0) t e h1.length bC.xs (Ze::js.map λj=>(U[j]?).join)<|h1++[.lst []]) _;rw[q1,F];have C:∀{J:IH},(∀j m,j≠h1.length->(h1++[IX.lst []])[j]?=B m->J[j]?=B m)->∀j m,h1[j]?=B m->J[j]?=B m:=λq j m r=>q j m (Z1<|J9 r)<|grow r
 refine WR.mono (Cb h1.length grown (λJ q=>O J<|C q) (by simpa using hl) (λx E J q=>L x E J<|C q) λx E I J q=>H x E I J<|C q) λv h3 ⟨ev,g,M⟩=>#[ev,g,?_]
 rw[M];simp
theorem Cd(xs:List α):xs.filter (λ_=>Zi)=xs:=List.filter_eq_self.mpr 03
def Qr(C:WR (it U h0) λbC h1=>bC.xs=xs/\bC.aZ=aZ/\h1=h)(hl:xs.length<sizeLine) (D:∀J:IH,(∀(j:Nat)(m:IX),h[j]?=B m->J[j]?=B m)->aZ J) (F:∀x∈xs,∀J:IH,(∀(j:Nat)(m:IX),h[j]?=B m->J[j]?=B m)->WR (e (B x::js.map λj=>(U[j]?).join) J) λv h3=>v=f x/\Ex J h3):WR (Jv it 1 js (br 0) J7 e U h0) λv h3=>v=.ref h.length/\∃g,h3=h++.lst (xs.map f)::g:=by
 have:=xl (t:=J7) C hl D (λ_ _ J _=>#[rfl,.refl _]) λx E _ J q=>F x E J q
 rwa [Cd]at this
theorem J1:(h++o::g)[h.length]?=B o:=03
theorem Ex.cons(h)(o)(g):Ex h (h++o::g):=#[_,rfl]
end
section
variable{U:aA}{h h1:IH}{Q:IV->IH->Prop}{bC:jE->IH->Prop}
def Qc(e):WR (Ju e U h) bC=WR (e U h) λv h1=>WR (wu v h1) bC:=by unfold Ju;rw[JB]
def Vn(f)(a):WR (cT f a U h) bC=WR (a U h) λvs h1=>WR (f vs h1) bC:=by unfold cT;rw[JB]
def Qs(i):WR (wu (.ref i) h) bC=∃xs,h[i]?=B (.lst xs)/\bC #[xs,λh'=>h'[i]?=B (.lst xs)] h:=by change WR (iA (.ref i) h) bC=_;unfold iA;cases e:h[i]? with|none=>simp[WR,e]|some o=>cases o<;>simp[WR,e]
theorem xm(xs):WR (wu (.tup xs) h) bC=bC #[xs,λ_=>True] h:=rfl
def HX(i):WR (Vs [.ref i] h) bC=∃xs,h[i]?=B (.lst xs)/\bC #[Qm 0 xs,λh'=>h'[i]?=B (.lst xs)] h:=by change WR (Vr [.ref i] h) bC=_;unfold Vr;cases e:h[i]? with|none=>simp[WR,e]|some o=>cases o<;>simp[WR,e]
def Xm(j):WR (JX [.int j] h) bC=((-(2^62)<=j/\j<2^62)/\bC #[aN 0 j,λ_=>True] h):=by unfold JX;rw[Vb];show propext #[λ⟨a,b⟩=>(zF _).elim (λq=>#[q,a q]) λq=>(b q).elim,λ⟨a,b⟩=>#[λ_=>b,λq=>absurd a q]]
def J2u(i j):WR (VB [.int i,.int j] h) bC=((-(2^62)<=i/\i<2^62/\ -(2^62)<=j/\j<2^62)/\bC #[aN i j,λ_=>True] h):=by unfold VB;rw[Vb];show propext #[λ⟨a,b⟩=>(zF _).elim (λq=>#[q,a q]) λq=>(b q).elim,λ⟨a,b⟩=>#[λ_=>b,λq=>absurd a q]]
def JG(i j):(aN i j).length=(j-i).toNat:=by simp[aN]
def Qq(i j)(n)(hn:n<(aN i j).length):(aN i j)[n]=.int (i+n):=by simp[aN]
def Jz8(xs)(n:Nat)(hn):(Qm 0 xs)[n]=.tup [.int n,xs[n]'(by rwa [VZ]at hn)]:=by have:=Yq xs 0 n;rw[Zd hn,Zd<|by rwa [VZ]at hn]at this;simpa using this
def J6s(i)(lo Z):WR (kW (.ref i) lo Z h) Q=∃xs,h[i]?=B (.lst xs)/\Q (.ref h.length) (h++[.lst<|dg xs lo Z]):=by unfold kW;cases e:h[i]? with|none=>simp[WR,e]|some o=>cases o<;>simp[WR,e]
def J6r(i:Nat):WR (gG (.ref i) h) Q=∃xs,h[i]?=B (.lst xs)/\Q (.ref h.length) (h++[.lst xs.reverse]):=by unfold gG;cases e:h[i]? with|none=>simp[WR,e]|some o=>cases o<;>simp[WR,e]
theorem HY(n d):HT.bV n d Ze=d:=HT.kN n d
def Jve(xs:List α)(n:Nat):dg xs Ze (B (n:Int))=xs.take n:=by unfold dg;rw[HY,HT.eO];simp
def Jvd(xs:List α)(n:Nat):dg xs (B (n:Int)) Ze=xs.drop n:=by
 unfold dg;rw[HY,HT.eO];by_cases hn:n<=xs.length
 .rw[uX hn];show nR 03
 .rw[Nat.min_eq_right<|ZC<|Nat.lt_of_not_le hn,u9,yP<|ZC<|Nat.lt_of_not_le hn];simp
def Jzz(xs:List α)(n m:Nat):dg xs (B (n:Int)) (B (m:Int))=(xs.take m).drop n:=by
 unfold dg;rw[HT.eO,HT.eO];refine nX λi=>?_
 simp![sQ,List.getElem?_drop];by_cases j:n+i<xs.length
 .rw[uX<|show n<=xs.length by lia];by_cases C:n+i<m
  .lia
  .lia
 .rw[show xs[n+i]?=Ze from nU 05,show xs[min n xs.length+i]?=Ze from nU 05];simp
variable{P:Pg}{m:Str}{n i:Nat}{o:E1}{a:A1}{xs:Tw}{c:Str}{fs:Wo}
def J2m(e:o U h=.ok (.ref i) h1)(hl:h1[i]?=B (.lst xs))(C:dN "list" m n=B g):WR (Jo P m n o a U h) Q=WR (a U h1) λvs J=>WR (g (.ref i) vs J) Q:=by
 unfold Jo;rw[e];have Z:Xy (.ref i) h1=Zl:=by simp[Xy,hl]
 have j:rZ (.ref i) h1="list":=by simp[rZ,hl]
 dsimp only;rw[Z,j,C];rw[if_neg Zz];unfold rW;rw[e,JB,YH];have:eA "list" (.ref i) h1=Zi:=by simp[eA,hl]
 rw[if_pos this,JB]
def HZ(e:o U h=.ok (.ref i) h1)(Z:h1[i]?=B (.ins c fs))(C:fs.lookup m=Ze)(hd:JE P m n c=B (f,d)):WR (Jo P m n o a U h) Q=WR (a U h1) λvs J=>WR (f (.ref i::(vs++d)) J) Q:=by
 unfold Jo;rw[e];have j:Xy (.ref i) h1=Zi:=by simp[Xy,Z]
 dsimp only;rw[j,if_pos rfl];unfold v8;rw[e,JB,YH];dsimp only;rw[Z];dsimp only;rw[hd,C];rw[JB]
def Juq(y):WR (VS (.ref i) [y] h) Q=∃xs,h[i]?=B (.lst xs)/\xs.length<sizeLine/\Q .ag (h.set i<|.lst<|xs++[y]):=by
 unfold VS;cases e:h[i]? with|none=>simp[WR,e]|some m=>cases m with|lst xs=>by_cases j:xs.length<sizeLine<;>simp[WR,e,j]|_=>simp[WR,e]
theorem V5:dN "list" "append" 1=B VS:=02
def Q9(e:h[i]?=B (.ins c fs)):V9 f (.ref i) h=fs.lookup f:=by simp[V9,e]
def Jx4:WR (QM (.ref i) h) Q=∃xs,h[i]?=B (.lst xs)/\Q (.ref h.length) (h++[.lst xs]):=by unfold QM;cases e:h[i]? with|none=>simp[WR,e]|some j=>cases j<;>simp[WR,e]
def J2x:WR (VM (.ref i) h) Q=∃xs,h[i]?=B (.lst xs)/\Q (.tup xs) h:=by unfold VM;cases e:h[i]? with|none=>simp[WR,e]|some j=>cases j<;>simp[WR,e]
end
section
variable{U:aA}{h:IH}{Q:IV->IH->Prop}
def Ce(i j):WR (Jq (.ref i) (.ref j) h) Q=∃xs,h[i]?=B (.lst xs)/\∃ys,h[j]?=B (.lst ys)/\xs.length+ys.length<=sizeLine/\Q (.ref h.length) (h++[.lst<|xs++ys]):=by
 unfold Jq;dsimp only;split
 .rename_i xs ys e C;rw[Vb];refine propext #[λ⟨a,b⟩=>?_,λ⟨E,f,D,m,l,q⟩=>?_]
  .by_cases l:xs.length+ys.length<=sizeLine
   .show#[xs,e,ys,C,l,a l]
   .show(b l).elim
  .rw[e]at f;rw[C]at m;cases f;cases m;show#[λ_=>q,λn=>absurd l n]
 .rename_i no;show propext #[gh,λ⟨xs,f,ys,m,_⟩=>(no xs ys f m).elim]
end
section
variable{U:aA}{h h1:IH}{Q:IV->IH->Prop}{P:Pg}{m:Str}{n i:Nat}{o:E1}{a:A1}{x:Str}
def J2n(e:o U h=.ok (.str x) h1)(C:dN "str" m n=B g):WR (Jo P m n o a U h) Q=WR (a U h1) λvs J=>WR (g (.str x) vs J) Q:=by unfold Jo;rw[e];have Z:Xy (.str x) h1=Zl:=rfl;have j:rZ (.str x) h1="str":=rfl;dsimp only;rw[Z,j,C];rw[if_neg Zz];unfold rW;rw[e,JB,YH];have:eA "str" (.str x) h1=Zi:=rfl;rw[if_pos this,JB]
theorem Jzr:dN "str" "join" 1=B Xz:=02
theorem xn:dN "list" "extend" 1=B Xa:=02
def J2p:WR (Xz (.str x) [.ref i] h) Q=∃xs,h[i]?=B (.lst xs)/\∃zs,QB xs=B zs/\JoinOk x zs=Zi/\Q (.str<|Txt.join x zs) h:=by
 unfold Xz;cases e:h[i]? with|none=>simp[WR,e]|some m=>
  cases m with
  |lst xs=>cases q:QB xs with|none=>simp[WR,e,q]|some zs=>by_cases j:JoinOk x zs=Zi<;>simp[WR,e,q,j]
  |_=>simp[WR,e]
theorem Cf:∀zs:Tk,QB (zs.map IV.str)=B zs|[]=>rfl|z::zs=>by rw[ZW,QB,Cf zs];rfl
end
section
variable{U:aA}{h:IH}{Q:IV->IH->Prop}{i:Nat}
def Cg:WR (eF (.ref i) h) Q=∃xs,h[i]?=B (.lst xs)/\∃ns,JP xs=B ns/\Q (.int ns.sum) h:=by
 unfold eF;cases e:h[i]? with|none=>simp[WR,e]|some j=>cases j with|lst xs=>cases q:JP xs<;>simp[WR,e,q]|_=>simp[WR,e]
theorem QH:∀ns:Tp,JP (ns.map IV.int)=B ns|[]=>rfl|n::ns=>by rw[ZW,JP,QH ns];rfl
def H0(aa)(md):WR (VY aa md U h) Q=WR (aa U h) λxs h1=>WR (md U h1) λd J=>∃i,xs=[.ref i]/\∃ys,J[i]?=B (.lst ys)/\∃ns,JP ys=B ns/\Q (maxD ns d) J:=by
 unfold VY;rw[JB];congr 1;funext xs h1;rw[JB];congr 1;funext d J;match xs with
 |[.ref i]=>
  simp;cases e:J[i]? with|none=>simp[WR]|some j=>cases j with|lst ys=>cases q:JP ys<;>simp[WR,q]|_=>simp[WR]
 |[]=>simp[WR]
 |[.ag]=>simp[WR]
 |[.bl _]=>simp[WR]
 |[.int _]=>simp[WR]
 |[.str _]=>simp[WR]
 |[.tup _]=>simp[WR]
 |[.bX _]=>simp[WR]
 |x::_::_=>cases x<;>simp[WR]
def Juw(aa):WR (Ym aa U h) Q=WR (aa U h) λxs h1=>∃i,xs=[.ref i]/\∃ys,h1[i]?=B (.lst ys)/\∃zs,QB ys=B zs/\zs.length+1<kc/\Q (.int<|gH (QP zs) zs.length) h1:=by
 unfold Ym;rw[JB];congr 1;funext xs h1;match xs with
 |[.ref i]=>
  simp;cases e:h1[i]? with|none=>simp[WR]|some m=>
   cases m with
   |lst ys=>cases q:QB ys with|none=>simp[WR,q]|some zs=>by_cases j:zs.length+1<kc<;>simp[WR,q,j]
   |_=>simp[WR]
 |[]=>simp[WR]
 |[.ag]=>simp[WR]
 |[.bl _]=>simp[WR]
 |[.int _]=>simp[WR]
 |[.str _]=>simp[WR]
 |[.tup _]=>simp[WR]
 |[.bX _]=>simp[WR]
 |x::_::_=>cases x<;>simp[WR]
theorem Ia(nd:zs.Nodup):∀i,i<=zs.length->gH (QP zs) i=i
 |0,_=>rfl
 |i+1,Z=>by
  have C:=Ia nd i<|ZC 06;have hm:jh (QP zs) i (QP zs i)=Zl:=by unfold jh;rw[List.any_eq_false];intro j m;have m:=fx.mp m;simp;intro e;simp![QP,Zd (show j<zs.length by show rl 06 06),Zd<|show i<zs.length by show Z]at e;have:=(yX nd).mp e;show sL m<|Zn this
  unfold gH;rw[hm,C];rfl
theorem Ci(f):∀(n j:Nat),j<n->f j<=JL f n
 |0,_,h=>by show absurd 06<|rj _
 |1,j,h=>by
  obtain rfl:j=0:=by show sG 06
  show ZJ _
 |n+2,j,h=>by
  rw[wz f<|by show gZ _];by_cases m:j=n+1
  .subst m;split<;>(first|show hi.mp 06|show ZJ _|lia)
  .have:=Ci f (n+1) j<|by show ju (mH h) m
   split<;>(first|show ZV (iU this 06)|show this|lia)
theorem Ib(f)(b):∀(n:Nat),0<n->(∀j,j<n->f j<=b)->JL f n<=b
 |0,h,_=>absurd 06<|i3 _
 |1,_,q=>q 0 06
 |n+2,_,q=>by
  rw[wz f<|gZ _];have:=Ib f b (n+1) (gZ _) λj m=>q j<|jv 06
  have:=q (n+1)<|ZX _;split<;>assumption
end
section
variable{h:IH}{Q:IV->IH->Prop}{i:Nat}
def xp(Z:h[i]?=B (.lst xs))(m:h[j]?=B (.lst ys))(hl:xs.length+ys.length<=sizeLine):WR (Xa (.ref i) [.ref j] h) Q=Q .ag (h.set i<|.lst<|xs++ys):=by unfold Xa;simp![Z,m];rw[if_pos hl];rfl
end
def iF(i0:Nat)(h h':IH):Prop:=∀(j:Nat)(ob:IX),j≠i0->h[j]?=B ob->h'[j]?=B ob
def Kp(h h':IH):Prop:=∀(j:Nat)(ob:IX),h[j]?=B ob->h'[j]?=B ob
theorem iF.trans(p:iF i0 a b)(q:iF i0 b c):iF i0 a c:=λj m n e=>q j m n<|p j m n e
theorem Kp.trans(p:Kp a b)(q:Kp b c):Kp a c:=λj m e=>q j m<|p j m e
theorem Kp.refl(a):Kp a a:=λ_ _ e=>e
theorem Kp.but(p:Kp a b):iF i0 a b:=λj m _ e=>p j m e
theorem Ex.kp(x:Ex a b):Kp a b:=λ_ _ e=>x.get e
theorem Ic{D:IV->IV->IH->Prop}(i0)(mono:∀x y J h3,iF i0 J h3->D x y J->D x y h3):∀{xs acc:Tw}{o:Tf}{h1:IH},h1[i0]?=B (.lst acc)->(∀J,iF i0 h1 J->aZ J)->acc.length+xs.length<sizeLine ->(∀x∈xs,∀J:IH,iF i0 h1 J->i0<J.length->WR (e (B x::caps) J) λv h3=>Ex J h3/\D x v h3) ->WR (JR aZ (br 0) J7 e i0 xs (o::caps) h1) λv h3=>v=.ref i0/\∃ys,h3[i0]?=B (.lst<|acc++ys)/\ys.length=xs.length/\iF i0 h1 h3/\∀(i:Nat) x y,xs[i]?=B x->ys[i]?=B y->D x y h3
 |[],acc,o,h1,Z,hc,_,_=>by unfold JR;rw[if_pos<|hc h1 λ_ _ _ q=>q];show#[rfl,[],by simpa using Z,rfl,λ_ _ _ q=>q,λi x y q=>by simp at q]
 |x::xs,acc,o,h1,Z,hc,hl,he=>by
  unfold JR;rw[if_pos<|hc h1 λ_ _ _ q=>q];dsimp only[br,yU,J7];have F:acc.length+xs.length+1<sizeLine:=by simpa[nP]using hl
  let#[v,h3,M,I,dv]:=(he x Z7 h1 (λ_ _ _ q=>q)<|J9 Z).eq;rw[M];dsimp only;rw[I.get Z];dsimp only;rw[if_pos<|ki (Zq _ _) 06];have C:iF i0 h3 (h3.set i0<|.lst<|acc++[v]):=λj V n q=>by rw[ZL<|ZP n];show q
  have m:=I.kp.but.trans C;calc WR.mono (Ic i0 mono (by rw[ZM<|J9<|I.get Z]) (λH q=>hc H<|m.trans q) (by simp;(rw[nO];show F)) λy S H q=>he y (Zm _ S) H<|m.trans q) ?_;rintro w W ⟨rfl,ys,R,O,L,Q⟩;calc#[rfl,v::ys,by simpa using R,by simp[O],m.trans L,?_];intro i P U q1 E;cases i with
  |zero=>simp at q1 E;subst q1;subst E;show mono _ _ _ _ (C.trans L) dv
  |succ i=>show Q i P U (by simpa using q1)<|by simpa using E
def Cj(D:IV->IV->IH->Prop)(E:WR (it U h0) λbC h1=>bC.xs=xs/\bC.aZ=aZ/\h1=h)(hl:xs.length<sizeLine) (mono:∀x y J h3,iF h.length J h3->D x y J->D x y h3)(Q:∀J:IH,Kp h J->aZ J) (M:∀x∈xs,∀J:IH,Kp h J->h.length<J.length->WR (e (B x::js.map λj=>(U[j]?).join) J) λv h3=>Ex J h3/\D x v h3):WR (Jv it 1 js (br 0) J7 e U h0) λv h3=>v=.ref h.length/\∃ys,h3[h.length]?=B (.lst ys)/\ys.length=xs.length/\Kp h h3/\∀(i:Nat) x y,xs[i]?=B x->ys[i]?=B y->D x y h3:=by
 let#[bC,h1,R,q1,F,rfl]:=E.eq;unfold Jv;rw[R];change WR (JR bC.aZ (br 0) J7 e h1.length bC.xs (Ze::js.map λj=>(U[j]?).join)<|h1++[.lst []]) _;rw[q1,F];have m:∀{J:IH},iF h1.length (h1++[IX.lst []]) J->Kp h1 J:=λq j L r=>q j L (Z1<|J9 r)<|grow r
 calc WR.mono (Ic h1.length mono grown (λJ q=>Q J<|m q) (by simpa using hl) λx O J q C=>M x O J (m q) C) ?_;rintro v h3 ⟨rfl,ys,P,C,I,H⟩;show#[rfl,ys,by simpa using P,C,m I,H]
section
variable{h:IH}
theorem Ck{st:IV->aA}(i0):∀{xs acc:Tw}{E:aA}{h1:IH},E.length=n->h1[i0]?=B (.lst acc)->(∀J,(∀j m,j≠i0->h1[j]?=B m->J[j]?=B m)->aZ J)->acc.length+xs.length<sizeLine ->(∀x∈xs,∀(E:aA)(J:IH),E.length=n->(st x).length=n/\g x (E++caps) J=.next (st x++caps) J) ->(∀x∈xs,∀J,(∀j m,j≠i0->h1[j]?=B m->J[j]?=B m)->WR (t (st x++caps) J) λb h3=>b=p x/\Ex J h3) ->(∀x∈xs,p x=Zi->∀J,(∀j m,j≠i0->h1[j]?=B m->J[j]?=B m)->WR (e (st x++caps) J) λv h3=>v=f x/\Ex J h3) ->WR (JR aZ g t e i0 xs (E++caps) h1) λv h3=>v=.ref i0/\∃g,h3=h1.set i0 (.lst<|acc++(xs.filter p).map f)++g
 |[],acc,E,h1,_,Z,hc,_,_,_,_=>by
  unfold JR;rw[if_pos<|hc h1 λ_ _ _ q=>q];calc#[rfl,[],?_];simp;calc(nX λj=>?_);by_cases S:j=i0
  .subst S;rw[Z,ZM<|J9 Z]
  .rw[ZL<|ZP S]
 |x::xs,acc,E,h1,hls,Z,hc,hl,hg,ht,he=>by
  unfold JR;rw[if_pos<|hc h1 λ_ _ _ q=>q];let#[U,P]:=hg x Z7 E h1 hls;rw[P];dsimp only;have O:acc.length+xs.length+1<sizeLine:=by simpa[nP]using hl
  let#[b,J,W,rfl,I]:=(ht x Z7 h1 λ_ _ _ q=>q).eq;rw[W];have D:∀j m,j≠i0->h1[j]?=B m->J[j]?=B m:=λj m _ q=>I.get q
  cases Q:p x with
  |false=>
   dsimp only;refine WR.mono (Ck i0 U (I.get Z) (λh3 q=>hc h3 λj m n r=>q j m n<|D j m n r) (mG 06) (λy C=>hg y<|Zm _ C) (λy C h3 q=>ht y (Zm _ C) h3 λj m n r=>q j m n<|D j m n r) λy C F h3 q=>he y (Zm _ C) F h3 λj m n r=>q j m n<|D j m n r) λv h3 ⟨ev,g,R⟩=>#[ev,?_]
   let#[g2,rfl]:=I;calc#[g2++g,?_];rw[R,mJ (h:=J9 Z)];simp[Q]
  |true=>
   dsimp only;let#[v,h3,V,rfl,M]:=(he x Z7 Q J D).eq;rw[V];dsimp only;rw[M.get<|I.get Z];dsimp only;rw[if_pos<|ki (Zq _ _) 06];have H:∀j m,j≠i0->h1[j]?=B m->(h3.set i0<|.lst<|acc++[f x])[j]?=B m:=λj m n q=>by rw[ZL<|ZP n];show M.get<|I.get q
   refine WR.mono (Ck i0 (acc:=acc++[f x]) U (by rw[ZM<|J9<|M.get<|I.get Z]) (λL q=>hc L λj m n r=>q j m n<|H j m n r) (by simp;(rw[nO];show O)) (λy C=>hg y<|Zm _ C) (λy C L q=>ht y (Zm _ C) L λj m n r=>q j m n<|H j m n r) λy C F L q=>he y (Zm _ C) F L λj m n r=>q j m n<|H j m n r) λv L ⟨ev,g,R⟩=>#[ev,?_]
   let#[X,Y]:=I.trans M;calc#[X++g,?_];rw[R,Y,mJ (h:=J9 Z),mJ (h:=by rw[pj];show J9 Z),vg];simp[Q]
def Jx2{st:IV->aA}(D:WR (it U h0) λbC h1=>bC.xs=xs/\bC.aZ=aZ/\h1=h)(hl:xs.length<sizeLine) (P:∀J:IH,(∀(j:Nat)(m:IX),h[j]?=B m->J[j]?=B m)->aZ J) (Q:∀x∈xs,∀(F:aA)(J:IH),F.length=n->(st x).length=n/\g x (F++js.map λj=>(U[j]?).join) J=.next (st x++js.map λj=>(U[j]?).join) J) (M:∀x∈xs,∀J:IH,(∀(j:Nat)(m:IX),h[j]?=B m->J[j]?=B m)->WR (t (st x++js.map λj=>(U[j]?).join) J) λb h3=>b=p x/\Ex J h3) (I:∀x∈xs,p x=Zi->∀J:IH,(∀(j:Nat)(m:IX),h[j]?=B m->J[j]?=B m)->WR (e (st x++js.map λj=>(U[j]?).join) J) λv h3=>v=f x/\Ex J h3):WR (Jv it n js g t e U h0) λv h3=>v=.ref h.length/\∃g,h3=h++.lst ((xs.filter p).map f)::g:=by
 let#[bC,h1,R,q1,H,rfl]:=D.eq;unfold Jv;rw[R];change WR (JR bC.aZ g t e h1.length bC.xs (fF n Ze++js.map λj=>(U[j]?).join)<|h1++[.lst []]) _;rw[q1,H];have C:∀{J:IH},(∀j m,j≠h1.length->(h1++[IX.lst []])[j]?=B m->J[j]?=B m)->∀j m,h1[j]?=B m->J[j]?=B m:=λq j m r=>q j m (Z1<|J9 r)<|grow r
 refine WR.mono (Ck h1.length (sP ..) grown (λJ q=>P J<|C q) (by simpa using hl) Q (λx E J q=>M x E J<|C q) λx E L J q=>I x E L J<|C q) λv h3 ⟨ev,g,O⟩=>#[ev,g,?_]
 rw[O];simp
end
def Cn(ts:Tu)(H:Hp):Prop:=∀b,H b=Ze\/(∃o xs,H b=B (.bh o<|.lst xs))\/(b∈ts/\H b=B (.ia #[]))
def Jtb{K:W.Frag}
  (KX:K.In s₁.heap)(S:s₁.heap.Ns Z2 mg)(O:s₁.heap.Ns nG mb)(hbb:∀x:Str,x≠"__name__"->mb x=ka x)(Y:s₁.heap.NoLimit)(hg:s₁.gens=#[])
  (ha:s₁.heap.get? a=B {cls:=.type "list",data:=.seq vs.toArray})(Z:fz vs ns)(hl:ns.length<=sizeLine)(hr:bj κ k o2)
  (U:∀p∈ts,s₁.heap.get? p=B (W.tabObj #[])/\isCodeTable s₁.heap p/\K.lookup p=Ze)
  (hbm:∃bm M,mg "__builtins__"=B (.ref bm)/\bm≠nG/\s₁.heap.get? bm=B M/\M.cls=.type "module"/\M.dict=B nG/\M.data=.plain)
  (F:∀base:aM,K.In base->base.Ns Z2 mg->Q0 mg base->bx P w K mg base (d9 P w) κ k fa fd [x] sp)(hbind:∀(s:Zx)(u:Zo),nK s fd #[[u],[]] [(x,u)])
  (hsp:∀H:Hp,Cn ts H->bU K H a (ns.map bB.int)->(∀p∈ts,H p=B (.ia #[]))->sp [.ref a] H (λv _=>v=.bl Zi) λ_ _ _=>False):
  iN (Zy P w) o2 (.call (.ref fa) #[[.ref a],[]]) (λr s'=>r=.ok (.ret<|.bool Zi)/\OldK s₁.heap s'.heap/\s'.os=s₁.os/\lY s'.gens) s₁:=by
 have rv:=L2.XJ Z;have lenV:=Z.length;have V:a∉ts:=λz=>by
  have e:=(U a z).1;rw[ha]at e;have E:=i6 e;injection E with h1
  cases h1
 have Q:∀H:Hp,Cn ts H->bU K H a (ns.map bB.int)->cV P w H s₁.heap->(∀b,H b≠Ze->b=a\/b∈ts)->(H a≠Ze->K.lookup a=Ze)->(∀p∈ts,H p=B (.ia #[])) ->
   iN (Zy P w) o2 (.call (.ref fa) #[[.ref a],[]]) (λr s'=>r=.ok (.ret<|.bool Zi)/\OldK s₁.heap s'.heap/\s'.os=s₁.os/\lY s'.gens) s₁:=by
  intro H hO hS au hA hK hTt;have j:∀{b:Z4}{o:Obj},s₁.heap.get? b=B o->H b=Ze->(fM s₁.heap H).get? b=B o:=λe n=>Ni e n
  have ij:∀{b:Z4}{o:Obj},s₁.heap.get? b=B o->(∀vs n,o.data≠.seq vs n)->(∀vs,o.data≠.fields vs)->H b=Ze:=λ{b o} e d1 d2=>by
   cases q:H b with|none=>rfl|some u=>
    rcases hA b (by rw[q];simp)with E|E
    .subst E;rw[ha]at e;cases e;show absurd rfl (d1 _ _)
    .rw[(U b E).1]at e;cases e;show absurd rfl (d2 _)
  have D:∀{b:Z4}{m:Str->Tc},s₁.heap.Ns b m->(fM s₁.heap H).Ns b m:=λ{b m} ⟨o,es,ep,e,d,r⟩=>#[o,es,ep,j e (ij e (λ_ _ z=>by rw[d]at z;cases z) λ_ z=>by rw[d]at z;cases z),d,r];have X:K.In (fM s₁.heap H):=λb o e=>j (KX b o e) (by
   cases q:H b with|none=>rfl|some u=>
    rcases hA b (by rw[q];simp)with E|E
    .subst E;rw[hK<|by rw[q];simp]at e;cases e
    .rw[(U b E).2.2]at e;cases e)
  have hM:Mod K mg (fM s₁.heap H):=#[X,D S,#[mb,D O,hbb],let ⟨mc,h1,J⟩:=Y;#[mc,D h1,J]];have hB:Q0 mg (fM s₁.heap H):=by let#[bm,M,b1,b2,b3,b4,b5,b6]:=hbm;calc#[bm,M,b1,b2,λz=>?_,j b3 (ij b3 (λ_ _ z=>by rw[b6]at z;cases z) λ_ z=>by rw[b6]at z;cases z),b4,b5,b6];let#[o,es,ep,e,d,_]:=S;rw[<-z,b3]at e;cases e;rw[b6]at d;cases d
  have e0:fN P w K mg (fM s₁.heap H) o2 [] s₁ H:=#[rfl,hM,λb o e=>Nj e,Zn<|Nh _ _,trivial,λb O=>absurd (show b∈([]:Tu)from O) 03,au,.of_eq hg,.inl rfl];refine oW ((F _ X (D S) hB).run o2 [] s₁ H #[[.ref a],[]] [.ref a] [.ref a] _ _ hr e0 (hbind s₁<|.ref a) (.cons rfl .nil)<|hsp H hO hS hTt) λr s' h=>?_
  cases r with|error e=>show h.elim λ_ z=>z.2.2.2.2.elim|ok fl=>
   cases fl with|next=>show gh h|brk=>show gh h|cont=>show gh h|ret u=>
    let#[v,H',os,bare,un,R,r',q]:=h;have q':v=.bl Zi:=q;subst q';obtain rfl:u=rM Zi:=r';have L:∀b o,s₁.heap.get? b=B o->asItWas s₁.heap s'.heap b o/\∃o',s'.heap.get? b=B o':=λb o e=>by
     rcases hO b with z|⟨M,xs,z⟩|⟨O,z⟩
     .have:=un.keep b o e z (by intro z;show absurd (show b∈([]:Tu)from z) 03) 03;show#[.inl this,_,this]
     .have z2:=un.aO b M _ z;let#[e1,_]:=au b _ z;let#[e2,_]:=R b _ z2;rw[e]at e1;cases e1;show#[.inl e2,_,e2]
     .let#[more,z2]:=un.cB b _ z;have e2:=R b _ z2;have e1:=(U b O).1;rw[e]at e1;cases e1;show#[.inr<|.inl #[(U b O).2.1,rfl,#[],more,rfl,e2],_,e2]
    show#[rfl,#[λb o e=>(L b o e).1,λb o e=>(L b o e).2],os,bare]
 cases hk:K.lookup a with
 |some o=>
  have e:=KX a o hk;rw[ha]at e;cases e;refine Q (λb=>if b∈ts then B (.ia #[])else Ze) (λb=>?_) (.inr #[_,vs.toArray,_,hk,rfl,rfl,rfl,by rw[ZI,lenV];show hl,by simpa using rv]) (λb u z=>?_) (λb z=>?_) (λz=>absurd (if_neg V) z) λp hp=>if_pos hp
  .by_cases O:b∈ts
   .show .inr<|.inr #[O,if_pos O]
   .show .inl<|if_neg O
  .by_cases O:b∈ts
   .have I:=(if_pos O).symm.trans z;cases I;show(U b O).1
   .have I:=(if_neg O).symm.trans z;cases I
  .by_cases O:b∈ts
   .show .inr O
   .show absurd (if_neg O) z
 |none=>
  refine Q (λb=>if b=a then B (.bh {cls:=.type "list",data:=.seq vs.toArray} (.lst<|ns.map bB.int))else if b∈ts then B (.ia #[])else Ze) (λb=>?_) (.inl<|.inr #[{cls:=.type "list",data:=.seq vs.toArray},if_pos rfl]) (λb u z=>?_) (λb z=>?_) (λ_=>hk) λp hp=>?_
  .by_cases O:b=a
   .show .inr<|.inl #[_,_,if_pos O]
   .by_cases C:b∈ts
    .show .inr<|.inr #[C,(if_neg O).trans<|if_pos C]
    .show .inl<|(if_neg O).trans<|if_neg C
  .by_cases O:b=a
   .have I:=(if_pos O).symm.trans z;cases I;subst O;show#[ha,by rw[Zp];show hl,vs,_,rv,ha]
   .by_cases C:b∈ts
    .have I:=((if_neg O).trans<|if_pos C).symm.trans z;cases I;show(U b C).1
    .have I:=((if_neg O).trans<|if_neg C).symm.trans z;cases I
  .by_cases O:b=a
   .show .inl O
   .by_cases C:b∈ts
    .show .inr C
    .show absurd ((if_neg O).trans<|if_neg C) z
  .have O:p≠a:=λz=>V<|z▸hp
   show(if_neg O).trans<|if_pos hp
noncomputable def Co (o:Obj)(q:Str):Bool:=match o with|⟨_,_,.fields vs,_⟩=>(match vs.toList with|_::.str n _::_=>n==q|_=>Zl)|_=>Zl
def QZ(K:W.Frag)(q:Str)(p:Z4):Bool:=(K.lookup p).isNone&&K.all (λe=>!(Co e.2 q)||W.codeHdIn K e.1 p)&&K.any (λe=>Co e.2 q&&W.codeHdIn K e.1 p)
def Vg(K:W.Frag):Tk->Tu->Bool|[],[]=>Zi|q::qs,p::ps=>QZ K q p&&!ps.contains p&&Vg K qs ps|_,_=>Zl
def Jpt{K:W.Frag}(h:K.lookup c=B o):(c,o)∈K:=by
 induction K with|nil=>cases h|cons p K m=>
  let#[b,j]:=p;rw[i4]at h;split at h
  .simp_all
  .simp_all
def QZ.code{K:W.Frag}(h:QZ K q p=Zi):∀j,W.codeIn K j q=Zi->∃c,j=.ref c/\W.codeHdIn K c p=Zi:=by
 simp![QZ,Zs,mK,kD]at h;intro j e;unfold W.codeIn at e;split at e
 .rename_i c;calc#[c,rfl,?_];cases m:K.lookup c with|none=>rw[m]at e;cases e|some o=>
   rw[m]at e;rcases h.1.2 _ (Jpt m)with z|z
   .exfalso;have D:Co o q=Zi:=by let#[I,H,E,F]:=o;cases E<;>first|show e|cases e
    have C:=z;rw[D]at C;cases C
   .show z
 .cases e
def QZ.some{K:W.Frag}(h:QZ K q p=Zi):K.lookup p=Ze/\∃c,W.codeHdIn K c p=Zi:=by simp![QZ,Zs,List.any_eq_true,Option.isNone_iff_eq_none]at h;let#[#[j,_],e,_,J]:=h;show#[j,e.1,J.2]
theorem Vg.mem{K:W.Frag}:∀{qs:Tk}{ts:Tu},Vg K qs ts=Zi->ts.Nodup/\qs.length=ts.length/\(∀(i:Nat)(q:Str),qs[i]?=B q->∃p,ts[i]?=B p/\QZ K q p=Zi)/\∀p∈ts,∃q,QZ K q p=Zi
 |[],[],_=>#[.nil,rfl,λi q e=>by simp at e,λp D=>by cases D]
 |q::qs,p::ps,h=>by
  simp![Vg,Zs,nZ,List.contains_eq_mem,decide_eq_false_iff_not]at h;let#[#[m,J],E]:=h;let#[a,b,c,d]:=Vg.mem E;refine#[rA.mpr #[J,a],by simp[b],λi r e=>?_,λr j=>?_]
  .cases i with|zero=>have C:=e;cases C;show#[p,rfl,m]|succ i=>show c i r e
  .rcases ZA.mp j with rfl|j
   .show#[q,m]
   .show d r j
 |[],_::_,h=>by cases h
 |_::_,[],h=>by cases h
def Jpr{K:W.Frag}{ns:Tp}(D:Cn ts H)(J:bU K H a<|ns.map bB.int)(I:∀p∈ts,H p=B (.ia #[]))(F:Vg K qs ts=Zi) (j:∃h',f [.bX<|ns.map IV.int] (qs.map IX.tab)=.ok (.bl Zi) h'):XF K x f [.ref a] H (λv _=>v=.bl Zi) λ_ _ _=>False:=by
 intro V;let#[h',j]:=j;have sr:pU K H a (ns.map bB.int):=by
  rcases J with(h|⟨o,h⟩)|h
  .rcases D a with z|⟨ob,xs,z⟩|⟨_,z⟩
   .rw[z]at h;cases h
   .rw[z]at h;cases h
   .rw[z]at h;cases h
  .show .inl #[o,h]
  .show .inr h
 let#[nd,le,at_,_]:=Vg.mem F;refine#[rfl,ts,qs.map IX.tab,[.bX<|ns.map IV.int],#[by simp[le],nd,λi o e=>?_],#[.ref a,[],rfl,#[a,_,rfl,sr,aw.ints ns],rfl],?_]
 .rw[Z5]at e;cases eq:qs[i]? with|none=>rw[eq]at e;cases e|some q=>rw[eq]at e;cases e;let#[p,m,E]:=at_ i q eq;show#[p,m,QZ.code E,#[],I p<|u4 m,trivial,λC L z=>by cases z]
 .rw[j];intro v M O _ _ q;show q
def Jxv{l:W.OpenLaw}{K:Params->W.Frag} (hn:l.most=B n)(E:n<=sizeLine)(P:d.params.defaults=[])(Z:bj κ k o2) (Y:∀(w:bq)(h:aM),YP w h->(K w.params).In h/\∀p∈ts,h.get? p=B (W.tabObj #[]))(Q:∀w:bq,Vg (K w.params) qs ts=Zi) (F:∀(w:bq)(mg:Str->Tc)(fa:Z4)(h:aM),(K w.params).In h->h.Ns Z2 mg->mg d.name=B (.ref fa) ->∃fd:gY,(∀(s:Zx)(u:Zo),nK s fd #[[u],[]] [(x,u)]) /\ ∀base:aM,(K w.params).In base->base.Ns Z2 mg->Q0 mg base->bx l.prog w (K w.params) mg base (d9 l.prog w) κ k fa fd [x] (XF (K w.params) x f)) (hf:∀ns:Tp,ns.length<=n->∃h',f [.bX<|ns.map IV.int] (qs.map IX.tab)=.ok (.bl Zi) h'):W.WalkO q loose XP YP l.row.toRowW d [] (λf vs=>PySem.call f vs):=by
 refine Att.ik hn P λw s₀ s₁ mg mb fa o pm cd doc a vs ns G YY ho hd V L C m j X=>?_
 let#[M,R]:=Y w _ YY;let#[fd,O,hF]:=F w mg fa _ M G.T.g L;refine Jtb M G.T.g G.T.b G.T.builtins G.T.nolimit X C m (Zc j E) Z (λp D=>?_) G.T.bmain hF O λH U hS I=>Jpr U hS I (Q w)<|hf ns j
 let#[q,S]:=(Vg.mem<|Q w).2.2.2 p D;let#[h1,c,J]:=QZ.some S;show#[R p D,((W.codeHd_of_K M J).tab<|R p D).isCodeTable,h1]
noncomputable def Yd (kf:IV->Int):IV->Tw->IV|b,[]=>b|b,y::r=>if kf y>kf b then Yd kf y r else Yd kf b r
theorem Cp(Z:h0[i]?=B (.lst ys))(hm:∀y∈ys,∀h,Ex h0 h->WR (mk y h) λv h'=>v=.int (kf y)/\Ex h h'):∀(r:Nat)(b:IV)(h:IH),Ex h0 h->r<=ys.length->WR (Qw m8 mk i ys.length r b (.int<|kf b) h) λv h'=>v=Yd kf b (ys.drop<|ys.length-r)/\Ex h h'
 |0,b,h,x,_=>by unfold Qw;rw[x.get Z];dsimp only;rw[if_pos rfl];calc#[?_,.refl _];rw[Nat.sub_zero,u9];rfl
 |r+1,b,h,x,hr=>by
  unfold Qw;rw[x.get Z];dsimp only;rw[if_pos rfl];have j:ys.length-(r+1)<ys.length:=00;rw[Zd j];dsimp only;have hd:ys.drop (ys.length-(r+1))=ys[ys.length-(r+1)]::ys.drop (ys.length-r):=by rw[pb j,show ys.length-(r+1)+1=ys.length-r by show o5<|uV 06]
  let#[v,J,e,rfl,m]:=(hm _ (Z9 j) h x).eq;rw[e,hd];change WR (match m8 (.int<|kf ys[ys.length-(r+1)]) (.int<|kf b)with|some Zi=>_|some Zl=>_|none=>_) _;unfold m8;dsimp only;unfold Yd;by_cases O:kf ys[ys.length-(r+1)]>kf b
  .rw[decide_eq_true O,if_pos O];show WR.mono (Cp Z hm r _ J (x.trans m)<|ZC hr) λv h' ⟨a,c⟩=>#[a,m.trans c]
  .rw[decide_eq_false O,if_neg O];show WR.mono (Cp Z hm r _ J (x.trans m)<|ZC hr) λv h' ⟨a,c⟩=>#[a,m.trans c]
def Ie(kf:IV->Int)(d:IV):Tw->IV
 |[]=>d
 |y::r=>Yd kf y r
def Jx3(Z:h[i]?=B (.lst ys))(hm:∀y∈ys,∀h',Ex h h'->WR (mk y h') λv J=>v=.int (kf y)/\Ex h' J):WR (QI m8 mk i (B d) h) λv h'=>v=Ie kf d ys/\Ex h h':=by
 unfold QI;rw[Z];dsimp only;cases ys with|nil=>show#[rfl,.refl _]|cons y r=>
  let#[v,J,e,rfl,j]:=(hm y Z7 h<|.refl _).eq;change WR ((mk y h).nx.bind λk h'=>Qw m8 mk i (y::r).length ((y::r).length-1) y k h') _;rw[e];have:=Cp (kf:=kf) (j.get Z) (λz m h' x=>hm z m h'<|j.trans x) ((y::r).length-1) y J (.refl _) 03;refine WR.mono this λv h' ⟨a,c⟩=>#[?_,j.trans c]
  rw[a];simp[Ie]
section
variable{α β:Type}{U:aA}{h:IH}
def WE(r:Res α)(Q:α->IH->Prop)(Z_:Nat->IH->Prop):Prop:=match r with|.ok a h=>Q a h|.exc n h=>Z_ n h|.stuck=>False
def eu(r:bM)(N:aA->IH->Prop)(R:IV->IH->Prop)(Z_:Nat->aA->IH->Prop):Prop:=match r with|.next U h=>N U h|.ret v h=>R v h|.exc n U h=>Z_ n U h|_=>False
variable{Q:α->IH->Prop}{Z_:Nat->IH->Prop}{N:aA->IH->Prop}{R:IV->IH->Prop}{YY:Nat->aA->IH->Prop}
theorem J8w(a):WE (.ok a h) Q Z_=Q a h:=rfl
def YF{Q:β->IH->Prop}(r:Res α)(f):WE (r.bind f) Q Z_=WE r (λa h=>WE (f a h) Q Z_) Z_:=by cases r<;>rfl
def WE.of(w:WR r Q):WE r Q Z_:=by cases r with|ok a h=>show w|exc n h=>show(w).elim|stuck=>show(w).elim
def WE.mono(w:WE r Q Z_)(m:∀a h,Q a h->Q' a h)(j:∀n h,Z_ n h->Z' n h):WE r Q' Z':=by cases r with|ok a h=>show m _ _ w|exc n h=>show j _ _ w|stuck=>show w
def WE.wr(w:WE r Q λ_ _=>False):WR r Q:=by cases r with|ok a h=>show w|exc n h=>show w|stuck=>show w
def eu.of(w:WS r N R):eu r N R YY:=by cases r with|next U h=>show w|ret v h=>show w|_=>show Zf w
def YJ(r:Res α)(k):eu (rS U r k) N R YY=WE r (λa h=>eu (k a h) N R YY) λn h=>YY n U h:=by cases r<;>rfl
def xq(a b):eu (Jg a b U h) N R YY=eu (a U h) (λj h1=>eu (b j h1) N R YY) R YY:=by unfold Jg;cases a U h<;>rfl
theorem J23:eu (Jw U h) N R YY=N U h:=rfl
def J25(i)(e):eu (Jj i e U h) N R YY=WE (e U h) (λv h1=>N (U.set i<|B v) h1) λn h=>YY n U h:=by unfold Jj;rw[YJ];rfl
def J24(e):eu (Jm e U h) N R YY=WE (e U h) R λn h=>YY n U h:=by unfold Jm;rw[YJ];rfl
def J6w(t)(a b):eu (bY t a b U h) N R YY=WE (t U h) (λc h1=>(c=Zi->eu (a U h1) N R YY)/\(c=Zl->eu (b U h1) N R YY)) λn h=>YY n U h:=by unfold bY;rw[YJ];congr 1;funext c h1;cases c<;>simp
def Ig{Q:IV->IH->Prop}(f)(d)(a):WE (Ji f d a U h) Q Z_=WE (a U h) (λvs h1=>WE (f (vs++d) h1) Q Z_) Z_:=by unfold Ji;rw[YF]
def J6f{Q:IV->IH->Prop}(w:eu r (λ_ h=>Q .ag h) Q λn _ h=>(∃c fs,h[n]?=B (.exc c fs))/\Z_ n h):WE r.fin Q Z_:=by cases r with|next U h=>show w|ret v h=>show w|exc n U h=>let#[#[c,fs,e],z]:=w;rw[RZ e];show z|_=>show(w).elim
def Ih(b)(hs)(w:eu (b U h) N R λn j h1=>∃c fs,h1[n]?=B (.exc c fs)/\WS (Xc hs c n j h1) N R):WS (jj b hs U h) N R:=by unfold jj;cases e:b U h with|next j h1=>rw[e]at w;show w|ret v h1=>rw[e]at w;show w|exc n j h1=>rw[e]at w;let#[c,fs,m,w]:=w;dsimp only;rw[m];show w|_=>rw[e]at w;show(w).elim
def J22(it)(g)(b):eu (cz it g b U h) N R YY=WE (it U h) (λbC h1=>eu (JS bC.aZ g b bC.xs U h1) N R YY) λn h=>YY n U h:=by unfold cz;rw[YJ]
def Jx7(I:Nat->aA->IH->Prop)(P:∀i U h,I i U h->aZ h) (E:∀i (Z:i<xs.length) U h,I i U h->WS (g xs[i] U h) (λL h1=>eu (b L h1) (I<|i+1) R λn D J=>(∃c fs,J[n]?=B (.exc c fs))/\YY n D J) λ_ _=>False)(done:∀U h,I xs.length U h->N U h)(start:I 0 U h):eu (JS aZ g b xs U h) N R YY:=by
 have M:∀(n i:Nat)(U:aA)(h:IH),xs.length-i=n->i<=xs.length->I i U h->eu (JS aZ g b (xs.drop i) U h) N R YY:=by
  intro n;induction n with|zero=>intro i U h hn Z F;have:i=xs.length:=05;subst this;rw[u9];unfold JS;rw[if_pos<|P _ _ _ F];show done _ _ F|succ n Q=>
   intro i U h hn Z F;have C:i<xs.length:=o4 06;rw[pb C];unfold JS;rw[if_pos<|P _ _ _ F];have t:=E i C U h F;cases O:g xs[i] U h with
   |next L h1=>
    rw[O]at t;have j:eu (b L h1) (I<|i+1) R λn D J=>(∃c fs,J[n]?=B (.exc c fs))/\YY n D J:=t
    dsimp only;cases H:b L h1 with|next D J=>rw[H]at j;show Q (i+1) D J (congrArg sN 06) C j|ret v J=>rw[H]at j;show j|exc m D J=>rw[H]at j;let#[#[c,fs,e],y]:=j;dsimp only;rw[e];show y|_=>rw[H]at j;show(show False from j).elim
   |_=>rw[O]at t;show Zf t
 show M xs.length 0 U h 04 (ZF _) start
def J2h{Q:IV->IH->Prop}(c)(f)(d)(a):WE (JV c f d a U h) Q Z_=WE (a U h) (λvs h1=>WE (f (.ref h1.length::(vs++d))<|h1++[.ins c []]) (λr J=>r=.ag/\Q (.ref h1.length) J) Z_) Z_:=by unfold JV;rw[YF];congr 1;funext vs h1;rw[YF];congr 1;funext r J;cases r<;>simp[WE]
def J2y(sl)(r):WS (r.drop sl) N R=WS r (λU h=>N (Xh sl Ze U) h) R:=by unfold bM.drop;cases r<;>rfl
def J8y(e:g c=B Zi):WS (Xc ((g,sl,m)::r) c n U h) N R=WS (m (Xh sl (B<|.ref n) U) h) (λU h=>N (Xh sl Ze U) h) R:=by unfold Xc;dsimp only;rw[e];dsimp only;rw[J2y]
theorem J2g{Q:Tw->IH->Prop}:WE (Jc U h) Q Z_=Q [] h:=rfl
def Jxy{Q:Tw->IH->Prop}(e)(a):WE (Jb e a U h) Q Z_=WE (e U h) (λv h1=>WE (a U h1) (λvs J=>Q (v::vs) J) Z_) Z_:=by unfold Jb;rw[YF];congr 1;funext v h1;rw[YF];rfl
def J2v{Q:IV->IH->Prop}(x)(lo Z):WR (oK (.str x) lo Z h) Q=(x.length<=sizeLine/\Q (.str<|sY x lo Z) h):=by unfold oK;by_cases z:x.length<=sizeLine<;>simp[WR,z]
def J20(hs:U[i]?=B (B<|.ref n))(hn:h[n]?=B (.exc c fs)):WS (Xj i m U h) N R=WS (m U<|h.set n<|.iZ c fs) N R:=by unfold Xj;rw[hs];dsimp only;rw[hn]
end
theorem Cq:∀{a b c:Tp},cX a b=Zi->cX b c=Zi->cX a c=Zi
 |a::as,b::bs,c::cs,h1,J=>by
  unfold cX at h1 J ⊢;by_cases j:a=b
  .rw[if_pos j]at h1;subst j;by_cases m:a=c
   .rw[if_pos m]at J ⊢;show Cq h1 J
   .lia
  .lia
 |[],_,_,h,_=>by simp[cX]at h
 |_::_,[],_,h,_=>by simp[cX]at h
 |_::_,_::_,[],_,h=>by simp[cX]at h
theorem Yy:∀a:Tp,cX a a=Zl|[]=>rfl|a::as=>by unfold cX;rw[if_pos rfl];show Yy as
def Jwl(h:as.length=bs.length):jG (.tup<|as.map .int) (.tup<|bs.map .int)=B (cX as bs):=by unfold jG;dsimp only;rw[QH,QH];dsimp only;rw[if_pos h]
section
variable{mk:IV->IH->Res IV}{kf:IV->Tp}{i n:Nat}{ys:Tw}
theorem Cr(Z:h0[i]?=B (.lst ys))(hm:∀y∈ys,∀h,Ex h0 h->WR (mk y h) λv h'=>v=.tup ((kf y).map .int)/\Ex h h')(hl:∀y∈ys,(kf y).length=n):∀(r:Nat)(b:IV)(h:IH),Ex h0 h->r<ys.length->b∈ys->(∀y∈ys.take (ys.length-r),cX (kf y) (kf b)=Zl)->WR (Qw jG mk i ys.length r b (.tup<|(kf b).map .int) h) λv h'=>v∈ys/\(∀y∈ys,cX (kf y) (kf v)=Zl)/\Ex h h'
 |0,b,h,x,_,O,q=>by unfold Qw;rw[x.get Z];dsimp only;rw[if_pos rfl];rw[Nat.sub_zero,va]at q;show#[O,q,.refl _]
 |r+1,b,h,x,hr,O,q=>by
  unfold Qw;rw[x.get Z];dsimp only;rw[if_pos rfl];have m:ys.length-(r+1)<ys.length:=00;rw[Zd m];dsimp only;have D:=Z9 m;have E:ys.take (ys.length-r)=ys.take (ys.length-(r+1))++[ys[ys.length-(r+1)]]:=by rw[<-sO m,show ys.length-(r+1)+1=ys.length-r by show o5<|uV<|mG 06]
  generalize ys[ys.length-(r+1)]=y at D E;let#[v,J,e,rfl,C]:=(hm y D h x).eq;rw[e];change WR (match jG (.tup<|(kf y).map .int) (.tup<|(kf b).map .int)with|some Zi=>_|some Zl=>_|none=>_) _;rw[Jwl<|by rw[hl y D,hl b O]];cases c:cX (kf y) (kf b)with
  |true=>
   refine WR.mono (Cr Z hm hl r y J (x.trans C) (mG 06) D λz j=>?_) λv h' ⟨a,d,g⟩=>#[a,d,C.trans g]
   rw[E]at j;rcases ZQ.mp j with j|j
   .cases F:cX (kf z) (kf y)with
    |false=>rfl
    |true=>show absurd (Cq F c)<|by simp_all
   .rw[Z8.mp j];show Yy _
  |false=>
   refine WR.mono (Cr Z hm hl r b J (x.trans C) (mG 06) O λz j=>?_) λv h' ⟨a,d,g⟩=>#[a,d,C.trans g]
   rw[E]at j;rcases ZQ.mp j with j|j
   .show q z j
   .rw[Z8.mp j];show c
def Juv(Z:h[i]?=B (.lst ys))(ne:ys≠[])(hm:∀y∈ys,∀h',Ex h h'->WR (mk y h') λv J=>v=.tup ((kf y).map .int)/\Ex h' J)(hl:∀y∈ys,(kf y).length=n):WR (QI jG mk i Ze h) λv h'=>v∈ys/\(∀y∈ys,cX (kf y) (kf v)=Zl)/\Ex h h':=by
 unfold QI;rw[Z];cases ys with
 |nil=>show absurd rfl ne
 |cons y r=>
  let#[v,J,e,rfl,m]:=(hm y Z7 h<|.refl _).eq;change WR ((mk y h).nx.bind λk h'=>Qw jG mk i (y::r).length ((y::r).length-1) y k h') _;rw[e];refine WR.mono (Cr (m.get Z) (λz j h' x=>hm z j h'<|m.trans x) hl ((y::r).length-1) y J (.refl _) 03 Z7 λz j=>?_) λv h' ⟨a,d,g⟩=>#[a,d,m.trans g]
  rw[show(y::r).length-((y::r).length-1)=1 by simp,List.take_succ_cons,List.take_zero,Z8]at j;rw[j];show Yy _
def J2t(C:h[j]?=B (.tab q))(Z:U[i]?=B (B<|.ref a)):WR (Xw jG q j js (Jb (Ja i) Jc) m U h) Q=WR (QI jG (λv h'=>m (B v::js.map λj=>(U[j]?).join) h') a Ze h) Q:=by
 have e:Jb (Ja i) Jc U h=.ok [.ref a] h:=by unfold Jb Ja Jc;rw[Z];rfl
 unfold Xw;rw[e];change WR (match h[j]? with|some (.tab q')=>_|_=>_) Q=_;rw[C];dsimp only;rw[if_pos rfl]
end
section
variable{K:W.Frag}{h:aM}{mg:Str->Tc}{T:Tab}{x q:Str}{d:D4}{a C:Z4}{ces:Wq}{oc kV dc pm cd ct:Zo}{od an:Td}{sl:Wc}
def Ii(hs:gU d.N d.ps (JH d.st)=Zi)(hd:d.aL=[])(D:d.qual=q)(hl:K.lookup a=B #[oc,od,.func<|W.fnOf x q (Q8 d.st) (Qi d.st) (JH d.st) dV kV dc pm an cd ct,sl])(m:W.codeIn K cd q=Zi)(C:W.keepIn K (.ref a)=Zi)(O:JO K (W.fnOf x q (Q8 d.st) (Qi d.st) (JH d.st) dV kV dc pm an cd ct) d.ps []):aR K x d a (W.fnOf x q (Q8 d.st) (Qi d.st) (JH d.st) dV kV dc pm an cd ct):=by subst D;show#[#[dV,#[oc,od,kV,dc,pm,an,cd,ct,sl,rfl,hl,m],C],gU.of hs,λj E=>#[[],O,by rw[hd];simp,[],.nil,by rw[hd];intro _ _;cases j<;>show rfl]]
def Dk(K:W.Frag)(x _q:Str)(d:D4)(a:Z4):Prop:=∃fd,aR K x d a fd
theorem Dk.mk'(hs:gU d.N d.ps (JH d.st)=Zi)(hd:d.aL=[])(hl:K.lookup a=B #[oc,od,.func<|W.fnOf x q (Q8 d.st) (Qi d.st) (JH d.st) dV kV dc pm an cd ct,sl])(C:d.qual=q)(j:W.codeIn K cd q=Zi)(m:W.keepIn K (.ref a)=Zi)(O:JO K (W.fnOf x q (Q8 d.st) (Qi d.st) (JH d.st) dV kV dc pm an cd ct) d.ps []):Dk K x q d a:=#[_,Ii hs hd C hl j m O]
def Dk.mkN(hs:gU d.N d.ps (JH d.st)=Zi)(hd:d.aL=[.ag])(hl:K.lookup a=B #[oc,od,.func<|W.fnOf x q (Q8 d.st) (Qi d.st) (JH d.st) dV kV dc pm an cd ct,sl])(C:d.qual=q)(D:W.codeIn K cd q=Zi)(E:W.keepIn K (.ref a)=Zi)(O:JO K (W.fnOf x q (Q8 d.st) (Qi d.st) (JH d.st) dV kV dc pm an cd ct) d.ps [])(hn:JO K (W.fnOf x q (Q8 d.st) (Qi d.st) (JH d.st) dV kV dc pm an cd ct) d.ps [.none]):Dk K x q d a:=by
 subst C;show#[_,#[dV,#[oc,od,kV,dc,pm,an,cd,ct,sl,rfl,hl,D],E],gU.of hs,λj m=>by rw[hd]at m ⊢;match j,m with|0,_=>show#[[.none],hn,rfl,[bB.ag],.cons rfl .nil,λ_ _=>#[_,_,rfl,rfl,rfl]]|1,_=>show#[[],O,rfl,[],.nil,λ_ _=>rfl]]
theorem fnC(X:K.In h)(G:h.Ns Z2 mg)(ha:W.nsIn K Z2 x=B (B<|.ref a))(D:Dk K x x d a)(r:All (λp:Str×D4=>∃fa fd,mg p.1=B (.ref fa)/\aR K p.1 p.2 fa fd) l):All (λp:Str×D4=>∃fa fd,mg p.1=B (.ref fa)/\aR K p.1 p.2 fa fd) ((x,d)::l):=.cons (let ⟨fd,o⟩:=D;#[a,fd,W.mg_of X G ha,o]) r
theorem meC(ha:W.findIn K (.ref C) x=B (B<|.ref a))(Z:W.isFn K (.ref a)=Zi)(j:W.keepIn K (.ref a)=Zi)(D:Dk K x q d a) (r:All (λp:Str×D4=>∃fa fd,Meth K C p.1 fa/\aR K p.1 p.2 fa fd) l):All (λp:Str×D4=>∃fa fd,Meth K C p.1 fa/\aR K p.1 p.2 fa fd) ((x,d)::l):=.cons (let ⟨fd,o⟩:=D;#[a,fd,#[ha,Z,j],o]) r
theorem mtC(_:W.nsIn K Z2 x=B (B<|.ref C))(j:fT ces x=B C)(u:All (λp:Str×D4=>∃fa fd,Meth K C p.1 fa/\aR K p.1 p.2 fa fd) m) (r:All (λq:Str×Wr=>∃C,fT ces q.1=B C/\All (λp:Str×D4=>∃fa fd,Meth K C p.1 fa/\aR K p.1 p.2 fa fd) q.2) l):All (λq:Str×Wr=>∃C,fT ces q.1=B C/\All (λp:Str×D4=>∃fa fd,Meth K C p.1 fa/\aR K p.1 p.2 fa fd) q.2) ((x,m)::l):=.cons #[C,j,u] r
theorem inC(X:K.In h)(G:h.Ns Z2 mg)(m:W.nsIn K Z2 x=B (B<|.ref C))(ha:W.findIn K (.ref C) "__init__"=B (B<|.ref a))(Z:W.isFn K (.ref a)=Zi)(hm:W.makesIn K C=Zi)(j:W.keepIn K (.ref C)=Zi) (E:fT ces x=B C)(D:Dk K "__init__" q d a)(r:All (λp:Str×D4=>∃C fa fd,mg p.1=B (.ref C)/\fT ces p.1=B C/\Mk K C fa/\aR K "__init__" p.2 fa fd) l):All (λp:Str×D4=>∃C fa fd,mg p.1=B (.ref C)/\fT ces p.1=B C/\Mk K C fa/\aR K "__init__" p.2 fa fd) ((x,d)::l):=.cons (let ⟨fd,o⟩:=D;#[C,a,fd,W.mg_of X G m,E,#[hm,ha,Z,j],o]) r
theorem coC(X:K.In h)(G:h.Ns Z2 mg)(ha:W.nsIn K Z2 x=B (B<|.int i t))(r:All (λp:Str×IV=>∃u y,mg p.1=B u/\RelV y u/\∀Y H,RV K Y H p.2 y) l):All (λp:Str×IV=>∃u y,mg p.1=B u/\RelV y u/\∀Y H,RV K Y H p.2 y) ((x,.int i)::l):=.cons #[_,.int i,W.mg_of X G ha,#[t,rfl],λ_ _=>rfl] r
def ij(K:W.Frag)(C:Z4)(F:Tk):Bool:=F.all λf=>match W.findIn K (.ref C) f with|some Ze=>Zi|_=>Zl
theorem ij.all:∀{F:Tk},ij K C F=Zi->All (λf=>Vf K C f) F
 |[],_=>.nil
 |f::F,e=>by
  simp![ij,fG,Zs]at e;calc .cons ?_<|ij.all e.2;have:=e.1;split at this
  .assumption
  .cases this
inductive CN(K:W.Frag)(F:Tk):Tk->Wq->Prop
 |nil:CN K F [] []
 |cons {x:Str}{C:Z4}{xs:Tk}{l:Wq}(hx:W.nsIn K Z2 x=B (B (.ref C))) (c:kZ K C/\All (λf=>Vf K C f) F) (r:CN K F xs l):CN K F (x::xs) ((x,C)::l)
theorem CN.all:∀{xs:Tk}{l:Wq},CN K F xs l->All (λp:Str×Z4=>kZ K p.2/\All (λf=>Vf K p.2 f) F) l|_,_,.nil=>.nil|_,_,.cons _ c r=>.cons c r.all
theorem cC(j:W.nsIn K Z2 x=B (B<|.ref C))(pg:W.plainGet K C iT=Zi)(hd:W.hasDictIn K C=Zi)(po:W.plainOver K C=Zi)(sa:W.findIn K (.ref C) "__setattr__"=B (B<|.builtin "object.__setattr__"))(h1:W.findIn K (.ref C) "__class__"=B (B<|.builtin "object.__class__"))(J:W.specialIn K (.builtin "object.__class__") "__get__"=B (B<|.builtin "getset_descriptor.__get__"))(h3:W.takesIn K (.builtin "object.__class__")=B Zi)(m:W.mroIn K C (.type "object")=B Zi) (D:ij K C F=Zi)(r:CN K F xs l):CN K F (x::xs) ((x,C)::l):=.cons j #[#[#[pg,hd,po,sa],h1,J,h3,m],ij.all D] r
def Ij(K:W.Frag)(D:Z4)(l:Tk)(ces:Wq):Bool:=(["NoneType","bool","int","str","list","tuple","dict"].all λt=>W.kitOne K (.type t) (.ref D)==B Zl)&&ces.all λp=>W.kitOne K (.ref p.2) (.ref D)==B (dk p.1 l)
theorem Ik{P:α->Prop}(w:∀a,f a=Zi->P a):∀{l:List α},l.all f=Zi->All P l|[],_=>.nil|a::l,e=>by simp![fG,Zs]at e;show .cons (w a e.1)<|Ik w e.2
def isC(X:K.In h)(G:h.Ns Z2 mg)(E:W.nsIn K Z2 x=B (B<|.ref C))(j:Ij K C m ces=Zi)(r:All (λq:Str×Tk=>∃D,mg q.1=B (.ref D)/\W.kitOne K (.type "NoneType") (.ref D)=B Zl/\W.kitOne K (.type "bool") (.ref D)=B Zl/\W.kitOne K (.type "int") (.ref D)=B Zl/\W.kitOne K (.type "str") (.ref D)=B Zl /\ W.kitOne K (.type "list") (.ref D)=B Zl/\W.kitOne K (.type "tuple") (.ref D)=B Zl/\W.kitOne K (.type "dict") (.ref D)=B Zl/\All (λp:Str×Z4=>W.kitOne K (.ref p.2) (.ref D)=B (dk p.1 q.2)) ces) l):All (λq:Str×Tk=>∃D,mg q.1=B (.ref D)/\W.kitOne K (.type "NoneType") (.ref D)=B Zl/\W.kitOne K (.type "bool") (.ref D)=B Zl/\W.kitOne K (.type "int") (.ref D)=B Zl/\W.kitOne K (.type "str") (.ref D)=B Zl /\ W.kitOne K (.type "list") (.ref D)=B Zl/\W.kitOne K (.type "tuple") (.ref D)=B Zl/\W.kitOne K (.type "dict") (.ref D)=B Zl/\All (λp:Str×Z4=>W.kitOne K (.ref p.2) (.ref D)=B (dk p.1 q.2)) ces) ((x,m)::l):=by simp![Ij,fG,List.all_nil,Bool.and_true,Zs,beq_iff_eq]at j;let#[#[O,J,M,I,H,P,F],L]:=j;show .cons #[C,W.mg_of X G E,O,J,M,I,H,P,F,Ik (λa e=>beq_iff_eq.mp e) L] r
theorem frC(X:K.In h)(G:h.Ns Z2 mg)(j:W.nsIn K Z2 x=B Ze)(r:All (λx=>mg x=Ze) l):All (λx=>mg x=Ze) (x::l):=.cons (W.mg_none_of X G j) r
abbrev XP(K:W.Frag)(v:Zo):Str×Bool->Prop:=λp=>∃C,W.nsIn K Z2 p.1=B (B<|.ref C)/\gF K C/\W.kitOne K (.ref C) v=B p.2/\W.exmOne K (.ref C) v=B p.2
theorem xpC(j:W.nsIn K Z2 x=B (B<|.ref C))(ga:W.findIn K (.ref C) "__getattribute__"=B (B<|.builtin "BaseException.__getattribute__"))(mb:W.mroIn K C (.type "BaseException")=B Zi)(gn:W.findIn K (.ref C) "__getattr__"=B Ze)(ca:W.findIn K (.ref C) "__class__"=B (B<|.builtin "object.__class__"))(mo:W.mroIn K C (.type "object")=B Zi)(hd:W.hasDictIn K C=Zi) (k1:W.kitOne K (.ref C) v=B b)(k2:W.exmOne K (.ref C) v=B b)(r:All (XP K v) l):All (XP K v) ((x,b)::l):=.cons #[C,j,#[ga,mb,gn,ca,mo,hd],k1,k2] r
theorem xiC(X:K.In h)(G:h.Ns Z2 mg)(j:W.nsIn K Z2 x=B (B<|.ref C))(u:All (XP K<|.ref C) m)(r:All (λq:Str×Wh=>∃v,(mg q.1=B v\/(mg q.1=Ze/\ka q.1=B v))/\All (λp:Str×Bool=>∃C,W.nsIn K Z2 p.1=B (B<|.ref C)/\gF K C/\W.kitOne K (.ref C) v=B p.2/\W.exmOne K (.ref C) v=B p.2) q.2) l):All (λq:Str×Wh=>∃v,(mg q.1=B v\/(mg q.1=Ze/\ka q.1=B v))/\All (λp:Str×Bool=>∃C,W.nsIn K Z2 p.1=B (B<|.ref C)/\gF K C/\W.kitOne K (.ref C) v=B p.2/\W.exmOne K (.ref C) v=B p.2) q.2) ((x,m)::l):=.cons #[_,.inl<|W.mg_of X G j,u] r
theorem bsC(X:K.In h)(G:h.Ns Z2 mg)(m:W.nsIn K Z2 x=B (B<|.ref C))(sp:W.specialIn K (.ref C) "__getattribute__"=B (B<|.builtin "type.__getattribute__"))(rd:W.readsIn K C (.type "type")=Zi)(j:W.findIn K (.ref C) "__init__"=B (B<|.ref a))(fc:W.findCls K (.ref C) (.type "type") "__init__"=B (.val<|.ref a))(kp:W.keepIn K (.ref a)=Zi)(r:All (λx=>∃C,mg x=B (.ref C)/\jU K C) l):All (λx=>∃C,mg x=B (.ref C)/\jU K C) (x::l):=.cons #[C,W.mg_of X G m,sp,rd,a,j,fc,kp] r
theorem xmC(X:K.In h)(G:h.Ns Z2 mg)(j:W.nsIn K Z2 x=B (B<|.ref C))(_:W.findIn K (.ref C) "__init__"=B (B<|.ref a))(xi:Qh K C a=Zi)(kp:W.keepIn K (.ref C)=Zi)(D:Dk K "__init__" q d a)(r:All (λp:Str×D4=>∃C fa fd,mg p.1=B (.ref C)/\W.nsIn K Z2 p.1=B (B<|.ref C)/\Qh K C fa=Zi/\W.keepIn K (.ref C)=Zi/\(∀h:aM,K.In h->oM h C)/\aR K "__init__" p.2 fa fd) l):All (λp:Str×D4=>∃C fa fd,mg p.1=B (.ref C)/\W.nsIn K Z2 p.1=B (B<|.ref C)/\Qh K C fa=Zi/\W.keepIn K (.ref C)=Zi/\(∀h:aM,K.In h->oM h C)/\aR K "__init__" p.2 fa fd) ((x,d)::l):=.cons (let ⟨fd,o⟩:=D;#[C,a,fd,W.mg_of X G j,j,xi,kp,YQ xi,o]) r
abbrev SX(K:W.Frag)(f:Str):Str->Prop:=λc=>∃C,W.nsIn K Z2 c=B (B<|.ref C)/\fR K C f/\gF K C/\W.findIn K (.ref C) f=B Ze
theorem sxC(j:W.nsIn K Z2 x=B (B<|.ref C))(ga:W.findIn K (.ref C) "__getattribute__"=B (B<|.builtin "BaseException.__getattribute__"))(mb:W.mroIn K C (.type "BaseException")=B Zi)(gn:W.findIn K (.ref C) "__getattr__"=B Ze)(ca:W.findIn K (.ref C) "__class__"=B (B<|.builtin "object.__class__"))(mo:W.mroIn K C (.type "object")=B Zi)(hd:W.hasDictIn K C=Zi) (m:W.findIn K (.ref C) "__setattr__"=B (B<|.builtin "object.__setattr__"))(nx:W.findIn K (.ref C) f=B Ze)(s1:(W.clsIn K C).any (λcd=>Yr cd.mro&&cd.hasDict)=Zi)(D:W.takerIn K C f=B Ze)(r:All (SX K f) l):All (SX K f) (x::l):=.cons #[C,j,#[s1,D,m],#[ga,mb,gn,ca,mo,hd],nx] r
theorem sfC(u:All (SX K f) m)(r:All (λq:Str×Tk=>All (λc=>∃C,W.nsIn K Z2 c=B (B<|.ref C)/\fR K C q.1/\gF K C/\W.findIn K (.ref C) q.1=B Ze) q.2) l):All (λq:Str×Tk=>All (λc=>∃C,W.nsIn K Z2 c=B (B<|.ref C)/\fR K C q.1/\gF K C/\W.findIn K (.ref C) q.1=B Ze) q.2) ((f,m)::l):=.cons u r
theorem bxC(X:K.In h)(G:h.Ns Z2 mg)(j:W.nsIn K Z2 x=B (B<|.ref C))(sp:W.specialIn K (.ref C) "__getattribute__"=B (B<|.builtin "type.__getattribute__"))(rd:W.readsIn K C (.type "type")=Zi)(fc:W.findCls K (.ref C) (.type "type") "__init__"=B (.val<|.builtin "ValueError.__init__"))(r:All (λx=>∃C,mg x=B (.ref C)/\jV K C) l):All (λx=>∃C,mg x=B (.ref C)/\jV K C) (x::l):=.cons #[C,W.mg_of X G j,sp,rd,fc] r
def last(xs)(X:K.In h)(G:h.Ns Z2 mg)(j:mg "law"=B (.ref fa))(hp:d.ps=[p])(hs:gU d.N d.ps (JH d.st)=Zi)(hd:d.aL=[])(C:d.qual="law")(O:∀us:Tv,us.length=d.ps.length->qW (W.fnOf "law" "law" (Q8 d.st) (Qi d.st) (JH d.st) .none kV dc pm an cd ct) #[us,[]]=pure (d.ps.zip us)) (ha:W.nsIn K Z2 "law"=B (B<|.ref a))(hl:K.lookup a=B #[oc,od,.func<|W.fnOf "law" "law" (Q8 d.st) (Qi d.st) (JH d.st) .none kV dc pm an cd ct,sl])(D:W.codeIn K cd "law"=Zi)(m:W.keepIn K (.ref a)=Zi)(c:CN K T.jY xs ces)(bE:All (λp:Str×Z4=>kZ K p.2/\All (λf=>Vf K p.2 f) T.jY) ces->gc (fT ces) T K mg):∃fd:gY,(∀(s:Zx)(u:Zo),nK s fd #[[u],[]] [(p,u)])/\∀base:aM,K.In base->base.Ns Z2 mg->Q0 mg base->bx prog w K mg base (d9 prog w) (T.cl d) 64 fa fd [p] (XF K p<|run T 16 d):=by have e:=W.mg_of X G ha;rw[j]at e;cases e;show#[_,λs u=>.of_eq ((O [u]<|by rw[hp];rfl).trans<|by rw[hp];rfl),λbase _ _ E=>YR (bE c.all) (λ_=>E) 16 hp<|Ii hs hd C hl D m<|.all O]
end
end L4
local macro_rules|`($c:char)=>let n:=c.getChar.toNat;if n<58 then `(L3.eC<|.int $(Lean.quote (n-48))) else `(L3.Ja $(Lean.quote (n-97)))
namespace LW
theorem Kaz{α:Sort _}{p:α->Prop}{j:α}:(∃a,j=a/\p a)↔p j:=exists_eq_left'
theorem Kbz{α:Sort _}{p:α->Prop}{j:α}:(∃a,a=j/\p a)↔p j:=exists_eq_left
theorem Kcz(a b:Bool):(L3.IV.bl a=L3.IV.bl b)=(a=b):=L3.IV.bl.injEq a b
theorem Kdz(a b:Int):(L3.IV.int a=L3.IV.int b)=(a=b):=L3.IV.int.injEq a b
theorem Kez(a b:Nat):(L3.IV.ref a=L3.IV.ref b)=(a=b):=L3.IV.ref.injEq a b
theorem Kfz(a b:PySem.Str):(L3.IV.str a=L3.IV.str b)=(a=b):=L3.IV.str.injEq a b
theorem Kgz(a b:List L3.IV):(L3.IV.tup a=L3.IV.tup b)=(a=b):=L3.IV.tup.injEq a b
theorem Khz(a b:List L3.IV):(L3.IX.lst a=L3.IX.lst b)=(a=b):=L3.IX.lst.injEq a b
theorem Kiz{α:Type _}(a b:α):(B a=B b)=(a=b):=Option.some.injEq a b
theorem Kjz:(!true)=Zl:=Bool.not_true
theorem Kkz:(!false)=Zi:=Bool.not_false
theorem Klz:(Zi=Zl)=False:=Bool.true_eq_false
theorem Kmz:(Zl=Zi)=False:=lT
theorem Knz{α β:Type _}(a:α)(f:α->Option β):(B a).bind f=f a:=Option.bind_some a f
theorem Koz(p:Prop):(True->p)=p:=true_implies p
theorem Kpz(p:Prop):(False->p)=True:=false_implies p
theorem Kqz(α:Sort _):(α->True)=True:=implies_true α
theorem Krz{α:Type _}{a b:α}{l:List α}{n:Nat}:(a::l).set (n+1) b=a::l.set n b:=List.set_cons_succ
theorem Ksz{α:Type _}{a b:α}{l:List α}:(a::l).set 0 b=b::l:=yU
theorem Ktz{α:Type _}{a:α}{l m:List α}:(a::l)++m=a::(l++m):=iQ
theorem Kuz{α:Type _}(l:List α):[]++l=l:=jM l
theorem Kvz{α:Type _}(l:List α):l++[]=l:=mM l
end LW
namespace LW
open PySem L2 L3 L4
noncomputable def top (i:Nat):dZ:=PySem.Challenge.pw_dutyproof_k84_whole_what_others_keep.main.body.getD i<|.Pass #[0,0,0,0]
def psD:dZ->Tk|.FunctionDef _ a _ _ _ _ _ _ _ _=>a.args.map (·.arg)|_=>[]
def mD(q:Str)(s:dZ):D4:=#[s,q,psD s,(JH s).names.filterMap λp=>if p.2==.local||p.2==.cell then B p.1 else Ze,[]]
def Il:D4:=mD "NotKept.__init__"<|JF (top 8) 0
def Im:D4:=mD "is_whole"<|top 10
def Io:D4:=mD "is_whole_from"<|top 11
def Ip:D4:=mD "rounds_up"<|top 12
def Iq:D4:=mD "ready"<|top 19
def Ir:D4:=mD "due_at"<|top 20
def Iu:D4:=mD "is_coming"<|top 21
def Iv:D4:=mD "first_wrong"<|top 22
def Iw:D4:=mD "checked"<|top 23
def Iy:D4:=mD "is_name"<|top 30
def Iz:D4:=mD "own_holds"<|top 36
def IA:D4:=mD "own_due"<|top 37
def Cs:D4:={mD "Work.__init__" (JF (top 38) 0)with aL:=[.ag]}
def IB:D4:=mD "Work.held"<|JF (top 38) 1
def IC:D4:=mD "next_stop"<|top 43
def ID:D4:=mD "Bench.__init__"<|JF (top 44) 0
def IE:D4:=mD "Bench.next_ready"<|JF (top 44) 1
def IF:D4:=mD "Bench.let_in"<|JF (top 44) 2
def IG:D4:=mD "Bench.turns_for"<|JF (top 44) 3
def II:D4:=mD "Bench.tell"<|JF (top 44) 4
def IJ:D4:=mD "Bench.go_on"<|JF (top 44) 5
def IK:D4:=mD "run"<|top 45
def IL:D4:=mD "ends"<|top 46
def IM:D4:=mD "missed"<|top 47
def IP:D4:=mD "ceilings"<|top 49
def IQ:D4:=mD "refuse_holds"<|top 50
def IS:D4:=mD "things_held"<|top 51
def IT:D4:=mD "lifted"<|top 52
def IU:D4:=mD "longest_hold"<|top 54
def IW:D4:=mD "hold_up"<|top 55
def IY:D4:=mD "comings_in"<|top 57
def IZ:D4:=mD "load"<|top 58
def I0:D4:=mD "in_time"<|top 59
def I7:D4:=mD "answer"<|top 60
def I8:D4:=mD "dues_in"<|top 63
def I9:D4:=mD "demand"<|top 64
def Jt:D4:=mD "asked"<|top 65
def Ka:D4:=mD "crowded"<|top 66
def Kb:D4:=mD "refuse_crowded"<|top 67
def Kc:D4:=mD "bends"<|top 68
def Kd:D4:=mD "first_overdrawn"<|top 69
def Ke:D4:=mD "spans"<|top 70
def Kf:D4:=mD "thronged"<|top 72
def Kg:D4:=mD "hardest"<|top 73
def Kh:D4:=mD "Order.__init__"<|JF (top 76) 0
def xt:D4:=mD "Order.holds"<|JF (top 76) 2
def Yg:D4:=mD "Order.pick"<|JF (top 76) 3
def Yh:D4:=mD "Order.standing"<|JF (top 76) 4
def Ki:D4:=mD "ByRank.__init__"<|JF (top 77) 0
def Kj:D4:=mD "ByRank.rank_of"<|JF (top 77) 1
def Kk:D4:=mD "ByRank.holds"<|JF (top 77) 2
def Kl:D4:=mD "ByDue.__init__"<|JF (top 78) 0
def Km:D4:=mD "ByDue.rank_of"<|JF (top 78) 1
def Kn:D4:=mD "ByComing.__init__"<|JF (top 79) 0
def Ko:D4:=mD "ByComing.rank_of"<|JF (top 79) 1
def Kq:D4:=mD "paper"<|top 81
def Kr:D4:=mD "own_copy"<|top 83
def Ks:D4:=mD "Kept.__init__"<|JF (top 86) 0
def Kt:D4:=mD "Kept.kept"<|JF (top 86) 1
def Ku:D4:=mD "Broken.__init__"<|JF (top 87) 0
def Kv:D4:=mD "Broken.kept"<|JF (top 87) 1
def Kw:D4:=mD "broken_at"<|top 88
def Kx:D4:=mD "judge_ranks"<|top 89
def Ky:D4:=mD "judge_due"<|top 90
def Kz:D4:=mD "own_works"<|top 94
def KA:D4:=mD "crowd_of"<|top 95
def KC:D4:=mD "Duty.__init__"<|JF (top 96) 0
def KD:D4:=mD "Duty.size"<|JF (top 96) 1
def KG:D4:=mD "Duty.work"<|JF (top 96) 2
def KH:D4:=mD "_law_cell_at"<|top 98
def KI:D4:=mD "_law_stream"<|top 99
def KJ:D4:=mD "_law_word"<|top 100
def KL:D4:=mD "_law_plain"<|top 102
def KN:D4:=#[top 103,"_law_some",["_law_script","_law_held"],["_law_script","_law_held","_law_first","_law_unit","_law_second","_law_words","_law_some_here","_law_k","_law_plain_here"],[]]
def KO:D4:=mD "_law_row"<|top 104
def KP:D4:=mD "_law_broken"<|top 105
def xw:D4:=mD "law"<|top 106
def T:Tab where
 fns:=[(("is_whole":Str),Im),(("is_whole_from":Str),Io),(("rounds_up":Str),Ip),(("ready":Str),Iq),(("due_at":Str),Ir),(("is_coming":Str),Iu),(("first_wrong":Str),Iv),(("checked":Str),Iw),(("is_name":Str),Iy),(("own_holds":Str),Iz),(("own_due":Str),IA),(("next_stop":Str),IC),(("run":Str),IK),(("ends":Str),IL),(("missed":Str),IM),(("ceilings":Str),IP),(("refuse_holds":Str),IQ),(("things_held":Str),IS),(("lifted":Str),IT),(("longest_hold":Str),IU),(("hold_up":Str),IW),(("comings_in":Str),IY),(("load":Str),IZ),(("in_time":Str),I0),(("answer":Str),I7),(("dues_in":Str),I8),(("demand":Str),I9),(("asked":Str),Jt),(("crowded":Str),Ka),(("refuse_crowded":Str),Kb),(("bends":Str),Kc),(("first_overdrawn":Str),Kd),(("spans":Str),Ke),(("thronged":Str),Kf),(("hardest":Str),Kg),(("paper":Str),Kq),(("own_copy":Str),Kr),(("broken_at":Str),Kw),(("judge_ranks":Str),Kx),(("judge_due":Str),Ky),(("own_works":Str),Kz),(("crowd_of":Str),KA),(("_law_cell_at":Str),KH),(("_law_stream":Str),KI),(("_law_word":Str),KJ),(("_law_plain":Str),KL),(("_law_some":Str),KN),(("_law_row":Str),KO),(("_law_broken":Str),KP),(("law":Str),xw)]
 nj:=[("Work",Cs),("Bench",ID),("Order",Kh),("ByRank",Ki),("ByDue",Kl),("ByComing",Kn),("Kept",Ks),("Broken",Ku),("Duty",KC)]
 meths:=[("Work",([("held",IB)]:Wr)),("Bench",([("next_ready",IE),("let_in",IF),("turns_for",IG),("tell",II),("go_on",IJ)]:Wr)),("Order",([("holds",xt),("pick",Yg),("standing",Yh)]:Wr)),("ByRank",([("rank_of",Kj),("holds",Kk),("pick",Yg),("standing",Yh)]:Wr)),("ByDue",([("rank_of",Km),("holds",xt),("pick",Yg),("standing",Yh)]:Wr)),("ByComing",([("rank_of",Ko),("holds",xt),("pick",Yg),("standing",Yh)]:Wr)),("Verdict",([]:Wr)),("Kept",([("kept",Kt)]:Wr)),("Broken",([("kept",Kv)]:Wr)),("Duty",([("size",KD),("work",KG)]:Wr))]
 cons:=[("MOST_COMINGS",.int 200),("AT",.int 0),("COME",.int 1),("LATE",.int 2),("LENGTH",.int 3),("MOST_LETTERS",.int 8),("MOST_HOLDS",.int 6),("THING",.int 0),("START",.int 1),("END",.int 2),("PLACE",.int 0),("FROM",.int 1),("UNTIL",.int 2),("MOST_CROWDED",.int 200),("MOST_WORKS",.int 12),("MOST_CROWD",.int 80)]
 nk:=[("Work",["Work"])]
 jY:=["append","dones","due","duty","extend","gap","hold_tuples","join","late","later","length","lines","name","order","place","pop","remove","row","setdefault","stretches","tops","turn","waiting","works"]
 frees:=["all","bool","enumerate","int","isinstance","len","list","max","min","range","set","sorted","str","sum","tuple"]
 tabs:=["longest_hold","Order.pick","Bench.__init__"]
 qq:=[("NotKept",[("NotKept",Zi)]),("TooMany",[("NotKept",Zl)])]
 nr:=["Order"]
 HM:=["rounds_up","due_at","Work.held","ceilings","longest_hold","comings_in","thronged","hardest","own_copy","Broken.__init__","broken_at","Duty.size","Duty.work"]
 r9:=[(("NotKept":Str),Il)]
 oN:=[(("at":Str),["NotKept"])]
 sd:=["DutyError"]
def Jqd:Str->Ww:=λc=>JW c [("NotKept",Zi)]
def Jqe:Str->Ww:=λc=>JW c [("NotKept",Zl)]
abbrev pg(k:Nat):Pg:=lA T<|run T k
section
variable(k:Nat)(x0 x1 x2 x3 x4 x5 x6:IV)(h:IH)
abbrev xx:=run T k Il
abbrev xy:=run T k Im
abbrev VQ:=run T k Io
abbrev xF:=run T k Ip
abbrev xG:=run T k Iq
abbrev Xp:=run T k Ir
abbrev Ct:=run T k Iu
abbrev Cu:=run T k Iv
abbrev Cv:=run T k Iw
abbrev Cw:=run T k Iy
abbrev XU:=run T k Iz
abbrev XT:=run T k IA
abbrev xH:=run T k Cs
abbrev Cy:=run T k IB
abbrev Cz:=run T k IC
abbrev CA:=run T k ID
abbrev CB:=run T k IE
abbrev CC:=run T k IF
abbrev CD:=run T k IG
abbrev CF:=run T k II
abbrev CG:=run T k IJ
abbrev CH:=run T k IK
abbrev CI:=run T k IL
abbrev VR:=run T k IM
abbrev XQ:=run T k IP
abbrev XW:=run T k IQ
abbrev xI:=run T k IS
abbrev CJ:=run T k IT
abbrev xJ:=run T k IU
abbrev CK:=run T k IW
abbrev Xo:=run T k IY
abbrev CL:=run T k IZ
abbrev CM:=run T k I0
abbrev CO:=run T k I7
abbrev XR:=run T k I8
abbrev CP:=run T k I9
abbrev XO:=run T k Jt
abbrev xK:=run T k Ka
abbrev CQ:=run T k Kb
abbrev CS:=run T k Kc
abbrev CT:=run T k Kd
abbrev CU:=run T k Ke
abbrev xM:=run T k Kf
abbrev CV:=run T k Kg
abbrev XM:=run T k Kh
abbrev xN:=run T k xt
abbrev Xn:=run T k Yg
abbrev XN:=run T k Yh
abbrev xO:=run T k Ki
abbrev CW:=run T k Kj
abbrev CY:=run T k Kk
abbrev XL:=run T k Kl
abbrev CZ:=run T k Km
abbrev xP:=run T k Kn
abbrev C0:=run T k Ko
abbrev C1:=run T k Kq
abbrev xQ:=run T k Kr
abbrev xR:=run T k Ks
abbrev C2:=run T k Kt
abbrev C3:=run T k Ku
abbrev C4:=run T k Kv
abbrev xS:=run T k Kw
abbrev xT:=run T k Kx
abbrev C5:=run T k Ky
abbrev C6:=run T k Kz
abbrev C7:=run T k KA
abbrev xU:=run T k KC
abbrev C8:=run T k KD
abbrev C9:=run T k KG
abbrev V3:=run T k KH
abbrev xV:=run T k KI
abbrev xW:=run T k KJ
abbrev Dc:=run T k KL
abbrev Dd:=run T k KN
abbrev De:=run T k KO
abbrev xX:=run T k KP
abbrev XS:=run T k xw
def KQ(k:Nat):S1:=wH (eJ T "at") "at" 'a' 'b'
def Jet:S1:=Jg (JA<|Yk (λc=>((pg k).xo c).isSome)<|Jb 'a'<|Jb (k9 [(eC<|.str "the work with number "),(dH fb 'b'),(eC<|.str " has no answer")]) Jc)<|KQ k
theorem Jgh:xx (k+1) [x0,x1] h=(Jet k [B x0,B x1] h).fin:=02
def Jj9(k:Nat):S1:=Jm<|iw (dC AP 'a') (dH (VF cH)<|dC AQ 'a') cH
theorem Jmw:xy (k+1) [x0] h=(Jj9 k [B x0] h).fin:=02
def Jdx:S1:=Jm<|iw (Ji (xy k) []<|Jb 'a' Jc) (Je pX 'a' 'b') cH
theorem Je0:VQ (k+1) [x0,x1] h=(Jdx k [B x0,B x1] h).fin:=02
def Ji1(k:Nat):S1:=Jm<|Je JQ (Je Qe (Je Jq 'a' 'b') '1') 'b'
theorem Jlm:xF (k+1) [x0,x1] h=(Ji1 k [B x0,B x1] h).fin:=02
def Jq2(k:Nat):S1:=Jm<|Je Jq (Je Jh 'a' '1')<|Je Jh 'a' '2'
theorem Jvx:xG (k+1) [x0] h=(Jq2 k [B x0] h).fin:=02
def Jo5:S1:=Jm<|Je Jq (Je Jh 'b' '1')<|Jk "due"<|Jo (pg k) "work" 1 'a'<|Jb (Je Jh 'b' '0') Jc
theorem Jsg:Xp (k+1) [x0,x1] h=(Jo5 k [B x0,B x1] h).fin:=02
def KR:E1:=Ji (xy k) []<|Jb 'a' Jc
def Jiv:S1:=Jg (bY (iy (Qa<|Jl cH<|dC AS 'b')<|Jl aV<|Je kY (bt (bu bH)<|Jb 'b' Jc) '4') (Jm<|eC<|.bl Zl) Jw)<|Jg (bY (Qa<|Jl cH<|bt (bu allI)<|Jb (Jv (Ju 'b') 1 [] (br 0) J7<|KR k) Jc) (Jm<|eC<|.bl Zl) Jw)<|Jg (bY (iy (Qa<|Jl aV<|JU fA mf '0' (Je Jh 'b' '0')<|Jo (pg k) "size" 0 'a' Jc)<|Jl aV<|Je mf (Je Jh 'b' '1') '0') (Jm<|eC<|.bl Zl) Jw)<|Jg (Jj 2<|Jo (pg k) "work" 1 'a'<|Jb (Je Jh 'b' '0') Jc)<|Jm<|iw (JU fA fA '0' (Je Jh 'b' '2')<|Jk "late" 'c') (JU fA fA '1' (Je Jh 'b' '3')<|Jk "length" 'c') cH
theorem Jlg:Ct (k+1) [x0,x1] h=(Jiv k [B x0,B x1,Ze] h).fin:=02
def Jfp:S1:=Jg (Jj 2 Xv)<|Jg (cz (cT Vs<|Jb 'b' Jc) (oB 2<|gC (br 3)<|gC (br 4) gN)<|Jg (bY (Qa<|Jl cH<|Ji (Ct k) []<|Jb 'a'<|Jb 'e' Jc) (Jm 'd') Jw)<|Jg (Jj 5<|Je Jh 'e' '0')<|Jg (bY (Qy (Jl aV<|Je fQ 'f' 'c')<|Jl aV<|Je mf (Je Qe (Je Jh 'e' '1')<|Je QT 'c' 'f')<|Jk "gap"<|Jo (pg k) "work" 1 'a'<|Jb 'f' Jc) (Jm 'd') Jw)<|eZ (Je Jh 'e' '1')<|gJ 'c' 'f')<|Jm<|eC .ag
theorem Jhh:Cu (k+1) [x0,x1] h=(Jfp k [B x0,B x1,Ze,Ze,Ze,Ze] h).fin:=02
def Jmd:S1:=Jg (bY (Jl aV<|Je f6 (bt (bu bH)<|Jb 'b' Jc)<|eC<|.int 200) b8 Jw)<|Jg (Jj 2<|Ji (Cu k) []<|Jb 'a'<|Jb 'b' Jc)<|bY (Jl aV<|Je VV 'c'<|eC .ag) b8 Jw
theorem Jpb:Cv (k+1) [x0,x1] h=(Jmd k [B x0,B x1,Ze] h).fin:=02
def xY(k:Nat):E1:=JU fA fA (eC<|.str "a") 'a'<|eC<|.str "z"
def Jmj:S1:=Jg (bY (iy (Qa<|Jl cH<|dC AR 'a')<|Qa<|Jl aV<|JU fA fA '1' (bt (bu bH)<|Jb 'a' Jc) '8') (Jm<|eC<|.bl Zl) Jw)<|Jm<|bt (bu allI)<|Jb (Jv (Ju 'a') 1 [] (br 0) J7<|xY k) Jc
theorem Jph:Cw (k+1) [x0] h=(Jmj k [B x0] h).fin:=02
def Jiz(k:Nat):S1:=Jg (bY (Jl aV<|Je oF 'a'<|eC .ag) (Jm<|cG Jc) Jw)<|Jg (bY (Qa<|Jl cH<|dC XY 'a') b8 Jw)<|Jg (bY (Jl aV<|Je f6 (bt (bu bH)<|Jb 'a' Jc) '6') b8 Jw)<|Jg (bY (Qa<|Jl cH<|bt (bu allI)<|Jb (Jv (Ju 'a') 1 [1] (br 0) J7<|bw) Jc) b8 Jw)<|Jg (bY (Qa<|Jl cH bw) b8 Jw)<|Jm<|bt (bu VM)<|Jb (Jv (Ju 'a') 1 [] (br 0) J7<|cG<|Jb (Je Jh 'a' '0')<|Jb (Je Jh 'a' '1')<|Jb (Je Jh 'a' '2') Jc) Jc
theorem Jlk:XU (k+1) [x0,x1] h=(Jiz k [B x0,B x1] h).fin:=02
def Jml:S1:=Jg (bY (Jl aV<|Je oF 'a'<|eC .ag) (Jm 'b') Jw)<|Jg (bY (iy (Qa<|Jl cH<|Ji (VQ k) []<|Jb 'a'<|Jb '1' Jc)<|Jl aV<|Je f6 'a' 'b') b8 Jw)<|Jm 'a'
theorem Jpj:XT (k+1) [x0,x1] h=(Jml k [B x0,B x1] h).fin:=02
def KS:S1:=JJ "hold_tuples" 'a'<|Ji (XU k) []<|Jb 'g'<|Jb 'd' Jc
def Jit:S1:=Jg (bY (Qa<|Jl cH<|Ji (Cw k) []<|Jb 'b' Jc) b8 Jw)<|Jg (bY (Qa<|Jl cH<|Ji (VQ k) []<|Jb 'c'<|Jb '1' Jc) b8 Jw)<|Jg (bY (Qa<|Jl cH<|Ji (VQ k) []<|Jb 'd'<|Jb '1' Jc) b8 Jw)<|Jg (bY (Qa<|Jl cH<|Ji (VQ k) []<|Jb 'f'<|Jb '0' Jc) b8 Jw)<|Jg (JJ "name" 'a' 'b')<|Jg (JJ "gap" 'a' 'c')<|Jg (JJ "length" 'a' 'd')<|Jg (JJ "due" 'a'<|Ji (XT k) []<|Jb 'e'<|Jb 'c' Jc)<|Jg (JJ "late" 'a' 'f')<|KS k
theorem Jle:xH (k+1) [x0,x1,x2,x3,x4,x5,x6] h=(Jit k [B x0,B x1,B x2,B x3,B x4,B x5,B x6] h).fin:=02
def Jis(k:Nat):S1:=Jm<|bt (bu QM)<|Jb (Jk "hold_tuples" 'a') Jc
theorem Jld:Cy (k+1) [x0] h=(Jis k [B x0] h).fin:=02
def Jiy:S1:=Jm<|bt (bu VD)<|Jb (Je Jq (J2<|Jb 'c' Jc)<|Jv (Ju<|Jo (pg k) "held" 0 'a' Jc) 1 [1] (br 0) (Jl aV<|Je f6 (Je Jh 'a' '2') 'b')<|Je Jh 'a' '2') Jc
theorem Jlj:Cz (k+1) [x0,x1,x2] h=(Jiy k [B x0,B x1,B x2] h).fin:=02
def Xt:E1:=Ji (xG k) []<|Jb (Je Jh 'b' 'a') Jc
def KU(k:Nat):S1:=JJ "stretches" 'a'<|J2 Jc
def Jgz:S1:=Jg (JJ "order" 'a' 'b')<|Jg (JJ "row" 'a' 'c')<|Jg (JJ "dones" 'a'<|Jv (Ju 'c') 1 [] (br 0) J7 '0')<|Jg (JJ "later" 'a'<|Yo "Bench.__init__" 2 [2] (Jb (bt (bu bH)<|Jb 'c' Jc) Jc)<|Xt k)<|Jg (JJ "waiting" 'a'<|J2 Jc)<|Jg (JJ "turn" 'a' '0')<|KU k
theorem Jjc:CA (k+1) [x0,x1,x2] h=(Jgz k [B x0,B x1,B x2] h).fin:=02
def Jb3:S1:=Jm<|Ji (xG k) []<|Jb (Je Jh (Jk "row" 'a')<|Je Jh (Jk "later" 'a')<|dH VE '1') Jc
theorem Jcu:CB (k+1) [x0] h=(Jb3 k [B x0] h).fin:=02
def KW:S1:=Xk (Qy (Jl aV<|Je f6 (bt (bu bH)<|Jb (Jk "later" 'a') Jc) '0')<|Jl aV<|Je fA (Jo (pg k) "next_ready" 0 'a' Jc)<|Jk "turn" 'a')<|JA<|Jo (pg k) "append" 1 (Jk "waiting" 'a')<|Jb (Jo (pg k) "pop" 0 (Jk "later" 'a') Jc) Jc
def Jer:S1:=Jg (bY (Jl aV<|Je kX (bt (bu bH)<|Jb (Jk "waiting" 'a') Jc) '0') (JJ "turn" 'a'<|bt (mj jS)<|Jb (Jk "turn" 'a')<|Jb (Jo (pg k) "next_ready" 0 'a' Jc) Jc) Jw)<|KW k
theorem Jgf:CC (k+1) [x0] h=(Jer k [B x0] h).fin:=02
def Jcp:S1:=Jg (Jj 2<|Je Jh (Jk "row" 'a') 'b')<|Jg (Jj 3<|Je Jh (Jk "dones" 'a') 'b')<|Jg (Jj 4<|Je Qe (Ji (Cz k) []<|Jb (Jo (pg k) "work" 1 (Jk "duty"<|Jk "order" 'a')<|Jb (Je Jh 'c' '0') Jc)<|Jb 'd'<|Jb (Je Jh 'c' '3') Jc) 'd')<|Jg (bY (Jl aV<|Je f6 (bt (bu bH)<|Jb (Jk "later" 'a') Jc) '0') (Jj 4<|bt (mj m6)<|Jb 'e'<|Jb (Je Qe (Jo (pg k) "next_ready" 0 'a' Jc)<|Jk "turn" 'a') Jc) Jw)<|Jm 'e'
theorem Jdk:CD (k+1) [x0,x1] h=(Jcp k [B x0,B x1,Ze,Ze,Ze] h).fin:=02
def KY:S1:=JA<|Jo (pg k) "append" 1 (Jk "stretches" 'a')<|Jb (cG<|Jb 'b'<|Jb 'd'<|Jb 'c' Jc) Jc
def Jg0:S1:=Jg (Jj 3<|Jk "turn" 'a')<|Jg (bY (Qy (Jl aV<|Je f6 (bt (bu bH)<|Jb (Jk "stretches" 'a') Jc) '0')<|Jl aV<|Je kX (Je Jh (Je Jh (Jk "stretches" 'a')<|dH VE '1') '0') 'b') (Jj 3<|Je Jh (Jo (pg k) "pop" 0 (Jk "stretches" 'a') Jc) '1') Jw)<|KY k
theorem Jjd:CF (k+1) [x0,x1,x2] h=(Jg0 k [B x0,B x1,B x2,Ze] h).fin:=02
def Jfk:S1:=Jg (JA<|Jo (pg k) "let_in" 0 'a' Jc)<|Jg (Jj 1<|Jo (pg k) "pick" 3 (Jk "order" 'a')<|Jb (Jk "row" 'a')<|Jb (Jk "waiting" 'a')<|Jb (Jk "dones" 'a') Jc)<|Jg (Jj 2<|Jo (pg k) "turns_for" 1 'a'<|Jb 'b' Jc)<|Jg (JA<|Jo (pg k) "tell" 2 'a'<|Jb 'b'<|Jb (Je Jq (Jk "turn" 'a') 'c') Jc)<|Jg (XC .Add "turn" 'a' 'c')<|Jg (XD .Add (Jk "dones" 'a') 'b' 'c')<|bY (Jl aV<|Je kX (Je Jh (Jk "dones" 'a') 'b')<|Je Jh (Je Jh (Jk "row" 'a') 'b') '3') (JA<|Jo (pg k) "remove" 1 (Jk "waiting" 'a')<|Jb 'b' Jc) Jw
theorem Jhc:CG (k+1) [x0] h=(Jfk k [B x0,Ze,Ze] h).fin:=02
def Jzp:S1:=Jg (JA<|Ji (Cv k) []<|Jb (Jk "duty" 'a')<|Jb 'b' Jc)<|Jg (Jj 2<|JV "Bench" (CA k) []<|Jb 'a'<|Jb 'b' Jc)<|Jg (Xk (Jl aV<|Je f6 (Je Jq (bt (bu bH)<|Jb (Jk "later" 'c') Jc)<|bt (bu bH)<|Jb (Jk "waiting" 'c') Jc) '0')<|JA<|Jo (pg k) "go_on" 0 'c' Jc)<|Jm<|Jk "stretches" 'c'
theorem J31:CH (k+1) [x0,x1] h=(Jzp k [B x0,B x1,Ze] h).fin:=02
def KZ(k:Nat):E1:=Je QT 'b' 'a'
def Ju6:S1:=Jg (Jj 2 Xv)<|Jg (cz (Ju<|Ji (CH k) []<|Jb 'a'<|Jb 'b' Jc) (br 3)<|eZ (Je Jh 'd' '2')<|gJ 'c'<|Je Jh 'd' '0')<|Jm<|Jv (cT JX<|Jb (bt (bu bH)<|Jb 'b' Jc) Jc) 1 [2] (br 0) J7<|KZ k
theorem J0g:CI (k+1) [x0,x1] h=(Ju6 k [B x0,B x1,Ze,Ze] h).fin:=02
def K0:T1:=Jl aV<|Je f6 (Je Jh 'd' 'a')<|Ji (Xp k) []<|Jb (Jk "duty" 'c')<|Jb 'b' Jc
def Jo7:S1:=Jg (Jj 2<|Ji (CI k) []<|Jb 'a'<|Jb 'b' Jc)<|Jm<|Jv (cT Vs<|Jb 'b' Jc) 2 [0,2] (oB 2<|gC (br 0)<|gC (br 1) gN) (K0 k) 'a'
theorem Jsi:VR (k+1) [x0,x1] h=(Jo7 k [B x0,B x1,Ze] h).fin:=02
def Jj7:S1:=Jg (Jj 1 Xv)<|Jg (cz (cT JX<|Jb (Jo (pg k) "size" 0 'a' Jc) Jc) (br 2)<|cz (Ju<|Jo (pg k) "held" 0 (Jo (pg k) "work" 1 'a'<|Jb 'c' Jc) Jc) (br 3)<|JA<|Jo (pg k) "setdefault" 2 'b'<|Jb (Je Jh 'd' '0')<|Jb 'c' Jc)<|Jm 'b'
theorem Jmu:XQ (k+1) [x0] h=(Jj7 k [B x0,Ze,Ze,Ze] h).fin:=02
def Jev:S1:=bY (Jl aV<|Je f6 (bt (bu Xd)<|Jb (Ji (XQ k) []<|Jb 'a' Jc) Jc) '0') b8 Jw
theorem Jgj:XW (k+1) [x0] h=(Jev k [B x0] h).fin:=02
def Jfs:S1:=Jm<|Jv (Ju<|Jo (pg k) "held" 0 'a' Jc) 1 [1] (br 0) (Jl aV<|JU mf mf (Je Jh 'a' '1') 'b'<|Je Jh 'a' '2')<|Je Jh 'a' '0'
theorem Jhk:xI (k+1) [x0,x1] h=(Jfs k [B x0,B x1] h).fin:=02
def K5(k:Nat):E1:=Je QT 'b' 'a'
def Jo6:S1:=Jm<|bt (bu VD)<|Jb (Je Jq (J2<|Jb 'a' Jc)<|Jv (Ju 'b') 1 [2] (br 0) J7<|K5 k) Jc
theorem Jsh:CJ (k+1) [x0,x1,x2] h=(Jo6 k [B x0,B x1,B x2] h).fin:=02
def K6(k:Nat):E1:=cG<|Jb 'd'<|Jb 'a' Jc
def K8(k:Nat):T1:=Jl aV<|Je fA (Je QT 'c'<|Je Jh 'a' '0') 'b'
def Jeu:S1:=Jg (Jj 2<|Ji (XQ k) []<|Jb 'a' Jc)<|Jg (Jj 3<|J2 Jc)<|Jg (cz (cT VB<|Jb (Je Jq 'b' '1')<|Jb (Jo (pg k) "size" 0 'a' Jc) Jc) (br 4)<|JA<|Jo (pg k) "extend" 1 'd'<|Jb (Jv (Ju<|Jo (pg k) "held" 0 (Jo (pg k) "work" 1 'a'<|Jb 'e' Jc) Jc) 1 [1,2,4] (br 0) (K8 k)<|K6 k) Jc)<|Jm<|Yn m8 "longest_hold" 0 [] (Jb 'd' Jc) (bw)<|eC .ag
theorem Jgi:xJ (k+1) [x0,x1] h=(Jeu k [B x0,B x1,Ze,Ze,Ze] h).fin:=02
def Jmh:S1:=Jg (Jj 2<|Ji (xJ k) []<|Jb 'a'<|Jb 'b' Jc)<|Jm<|kQ (Jl aV<|Je oF 'c'<|eC .ag) '0' bw
theorem Jpf:CK (k+1) [x0,x1] h=(Jmh k [B x0,B x1,Ze] h).fin:=02
def Jg4:S1:=Jm<|kQ (Jl aV<|Je pX 'b' '1') (Ji (xF k) []<|Jb (Je Jq 'b'<|Jk "late" 'a')<|Jb (Jk "gap" 'a') Jc) '0'
theorem Jjh:Xo (k+1) [x0,x1] h=(Jg4 k [B x0,B x1] h).fin:=02
def K9:E1:=Jo (pg k) "work" 1 'b'<|Jb 'a' Jc
def Df:E1:=Je Qd (Ji (Xo k) []<|Jb 'a'<|Jb 'b' Jc)<|Jk "length" 'a'
def Ju7:S1:=Jg (Jj 3<|Jv (cT JX<|Jb 'b' Jc) 1 [0] (br 0) J7<|K9 k)<|Jg (Jj 4<|bt (bu eF)<|Jb (Jv (Ju 'd') 1 [2] (br 0) J7<|Df k) Jc)<|Jm<|Je Jq (Je Jq (Ji (CK k) []<|Jb 'a'<|Jb 'b' Jc)<|Jk "length"<|Jo (pg k) "work" 1 'a'<|Jb 'b' Jc) 'e'
theorem J0h:CL (k+1) [x0,x1,x2] h=(Ju7 k [B x0,B x1,B x2,Ze,Ze] h).fin:=02
def Jmi(k:Nat):S1:=Jm<|Je fA (Je Jq 'b'<|Jk "late" 'a')<|Jk "due" 'a'
theorem Jpg:CM (k+1) [x0,x1] h=(Jmi k [B x0,B x1] h).fin:=02
def Jo3:S1:=Jg (Jj 2 '1')<|Jg (Xk (Jl cH<|Ji (CM k) []<|Jb (Jo (pg k) "work" 1 'a'<|Jb 'b' Jc)<|Jb 'c' Jc)<|Jg (Jj 3<|Ji (CL k) []<|Jb 'a'<|Jb 'b'<|Jb 'c' Jc)<|Jg (bY (Jl aV<|Je fA 'd' 'c') (Jm 'c') Jw)<|Jj 2 'd')<|Jm<|eC .ag
theorem Jse:CO (k+1) [x0,x1] h=(Jo3 k [B x0,B x1,Ze,Ze] h).fin:=02
def Jmf(k:Nat):S1:=Jg (Jj 2<|Je Qe (Je Jq 'b'<|Jk "late" 'a')<|Jk "due" 'a')<|Jm<|kQ (Jl aV<|Je pX 'c' '0') (Je Jq (Je JQ 'c'<|Jk "gap" 'a') '1') '0'
theorem Jpd:XR (k+1) [x0,x1] h=(Jmf k [B x0,B x1,Ze] h).fin:=02
def Jo4:S1:=Jm<|bt (bu eF)<|Jb (Jv (Ju<|Jk "works" 'a') 1 [1] (br 0) J7<|Je Qd (Ji (XR k) []<|Jb 'a'<|Jb 'b' Jc)<|Jk "length" 'a') Jc
theorem Jsf:CP (k+1) [x0,x1] h=(Jo4 k [B x0,B x1] h).fin:=02
def Jqw:S1:=Jm<|bt (bu eF)<|Jb (Jv (Ju<|Jk "works" 'a') 1 [1] (br 0) J7<|Je Qd (Ji (Xo k) []<|Jb 'a'<|Jb 'b' Jc)<|Jk "length" 'a') Jc
theorem Jvt:XO (k+1) [x0,x1] h=(Jqw k [B x0,B x1] h).fin:=02
def Jme:S1:=Jm<|bt (bu eF)<|Jb (Jv (Ju<|Jk "works" 'a') 1 [1] (br 0) J7<|Ji (Xo k) []<|Jb 'a'<|Jb 'b' Jc) Jc
theorem Jpc:xK (k+1) [x0,x1] h=(Jme k [B x0,B x1] h).fin:=02
def Jc5:S1:=bY (Jl aV<|Je f6 (Ji (xK k) []<|Jb 'a'<|Jb 'b' Jc)<|eC<|.int 200) b8 Jw
theorem Jd6:CQ (k+1) [x0,x1] h=(Jc5 k [B x0,B x1] h).fin:=02
def La(k:Nat):E1:=Je Qe (Je Jq (Je Qd 'a'<|Jk "gap" 'b')<|Jk "due" 'b')<|Jk "late" 'b'
def Jqx:S1:=Jg (JA<|Ji (CQ k) []<|Jb 'a'<|Jb 'b' Jc)<|Jg (Jj 2<|J2 Jc)<|Jg (cz (Ju<|Jk "works" 'a') (br 3)<|JA<|Jo (pg k) "extend" 1 'c'<|Jb (Jv (cT JX<|Jb (Ji (XR k) []<|Jb 'd'<|Jb 'b' Jc) Jc) 1 [3] (br 0) J7<|La k) Jc)<|Jm<|Yp<|Jb 'c' Jc
theorem Jvu:CS (k+1) [x0,x1] h=(Jqx k [B x0,B x1,Ze,Ze] h).fin:=02
def Jcq:S1:=Jg (cz (Ju<|Ji (CS k) []<|Jb 'a'<|Jb 'b' Jc) (br 2)<|bY (Jl aV<|Je f6 (Ji (CP k) []<|Jb 'a'<|Jb 'c' Jc) 'c') (Jm 'c') Jw)<|Jm<|eC .ag
theorem Jdl:CT (k+1) [x0,x1] h=(Jcq k [B x0,B x1,Ze] h).fin:=02
def Lb(k:Nat):E1:=Jk "due" 'a'
def Lc(k:Nat):S1:=Jm 'b'
def Jq3:S1:=Jg (Jj 1<|J2<|Jb (VY (Jb (Jv (Ju<|Jk "works" 'a') 1 [] (br 0) J7<|Lb k) Jc) '1') Jc)<|Jg (Jj 2<|Ji (XO k) []<|Jb 'a'<|Jb (Je Jh 'b'<|dH VE '1') Jc)<|Jg (Xk (Qy (Jl aV<|Je f6 'c'<|Je Jh 'b'<|dH VE '1')<|Jl aV<|Je fA (Ji (xK k) []<|Jb 'a'<|Jb 'c' Jc)<|eC<|.int 200)<|Jg (JA<|Jo (pg k) "append" 1 'b'<|Jb 'c' Jc)<|Jj 2<|Ji (XO k) []<|Jb 'a'<|Jb 'c' Jc)<|Lc k
theorem Jvy:CU (k+1) [x0] h=(Jq3 k [B x0,Ze,Ze] h).fin:=02
def Dg(k:Nat):E1:=Je Jq (Je Qe 'b'<|Jk "late" 'c')<|Je Qd 'a'<|Jk "gap" 'c'
def Ld(k:Nat):E1:=cG<|Jb 'b'<|Jb 'a'<|Jb (bt (mj jS)<|Jb '0'<|Jb (Je Qe 'c' 'a') Jc)<|Jb (Jk "length" 'd') Jc
def Jkg:S1:=Jg (Jj 4<|Jo (pg k) "work" 1 'a'<|Jb 'b' Jc)<|Jg (Jj 5<|Jv (cT JX<|Jb 'd' Jc) 1 [2,4] (br 0) J7<|Dg k)<|Jm<|Jv (Ju 'f') 1 [1,2,4] (br 0) J7<|Ld k
theorem Jm0:xM (k+1) [x0,x1,x2,x3] h=(Jkg k [B x0,B x1,B x2,B x3,Ze,Ze] h).fin:=02
def Dh(k:Nat):E1:=Jk "late" 'a'
def Jmg:S1:=Jg (Jj 2<|Ji (xJ k) []<|Jb 'a'<|Jb 'b' Jc)<|Jg (Jj 3<|kQ (Jl aV<|Je oF 'c'<|eC .ag) '0'<|Je Jq (Je Jh (Je Jh 'c' '1') '1') '1')<|Jg (Jj 4<|bt (bu Vw)<|Jb (Je Jq (Jv (Ju<|kn kW (Jk "works" 'a') Xg<|Qp<|Je Jq 'b' '1') 1 [] (br 0) J7<|Dh k)<|J2<|Jb 'd' Jc) Jc)<|Jg (Jj 5<|J2 Jc)<|Jg (bY (Jl aV<|Je VV 'c'<|eC .ag) (JA<|Jo (pg k) "append" 1 'f'<|Jb (cG<|Jb (Je Jh 'c' '0')<|Jb (Je Qe 'e' 'd')<|Jb '0'<|Jb (Jk "length"<|Jo (pg k) "work" 1 'a'<|Jb (Je Jh 'c' '0') Jc) Jc) Jc) Jw)<|Jg (Jj 6<|Je Qe (Jk "due"<|Jo (pg k) "work" 1 'a'<|Jb 'b' Jc)<|Jk "late"<|Jo (pg k) "work" 1 'a'<|Jb 'b' Jc)<|Jg (cz (cT JX<|Jb 'b' Jc) (br 7)<|JA<|Jo (pg k) "extend" 1 'f'<|Jb (Ji (xM k) []<|Jb 'a'<|Jb 'h'<|Jb 'e'<|Jb (Ji (Xo k) []<|Jb (Jo (pg k) "work" 1 'a'<|Jb 'h' Jc)<|Jb 'g' Jc) Jc) Jc)<|Jg (JA<|Jo (pg k) "extend" 1 'f'<|Jb (Ji (xM k) []<|Jb 'a'<|Jb 'b'<|Jb 'e'<|Jb '1' Jc) Jc)<|Jm<|cG<|Jb 'f'<|Jb (Je Qe (bt (bu bH)<|Jb 'f' Jc) '1') Jc
theorem Jpe:CV (k+1) [x0,x1] h=(Jmg k [B x0,B x1,Ze,Ze,Ze,Ze,Ze,Ze] h).fin:=02
def Jg2(k:Nat):S1:=JJ "duty" 'a' 'b'
theorem Jjf:XM (k+1) [x0,x1] h=(Jg2 k [B x0,B x1] h).fin:=02
def Jfo(k:Nat):S1:=Jm<|eC<|.bl Zl
theorem Jhg:xN (k+1) [x0,x1,x2] h=(Jfo k [B x0,B x1,B x2] h).fin:=02
def Jg3:S1:=Jm<|Xw jG "Order.pick" 1 [3,1,0] (Jb 'c' Jc)<|Je Jq (Jo (pg k) "standing" 2 'd'<|Jb (Je Jh 'c' 'a')<|Jb (Je Jh 'b' 'a') Jc)<|cG<|Jb 'a' Jc
theorem Jjg:Xn (k+1) [x0,x1,x2,x3] h=(Jg3 k [B x0,B x1,B x2,B x3] h).fin:=02
def Jc3:S1:=Jm<|cG<|Jb (Jo (pg k) "rank_of" 2 'a'<|Jb 'b'<|Jb 'c' Jc)<|Jb (kQ (Jl cH<|Jo (pg k) "holds" 2 'a'<|Jb 'b'<|Jb 'c' Jc) '0' '1') Jc
theorem Jd5:XN (k+1) [x0,x1,x2] h=(Jc3 k [B x0,B x1,B x2] h).fin:=02
def Jfn:S1:=Jg (JA<|Ji (XM k) []<|Jb 'a'<|Jb 'b' Jc)<|JJ "tops" 'a'<|Ji (XQ k) []<|Jb 'b' Jc
theorem Jhf:xO (k+1) [x0,x1] h=(Jfn k [B x0,B x1] h).fin:=02
def Jc2:S1:=Jm<|Ji (CJ k) []<|Jb (Je Jh 'b' '0')<|Jb (Ji (xI k) []<|Jb (Jo (pg k) "work" 1 (Jk "duty" 'a')<|Jb (Je Jh 'b' '0') Jc)<|Jb 'c' Jc)<|Jb (Jk "tops" 'a') Jc
theorem Jd4:CW (k+1) [x0,x1,x2] h=(Jc2 k [B x0,B x1,B x2] h).fin:=02
def Jes:S1:=Jm<|Je f6 (bt (bu bH)<|Jb (Ji (xI k) []<|Jb (Jo (pg k) "work" 1 (Jk "duty" 'a')<|Jb (Je Jh 'b' '0') Jc)<|Jb 'c' Jc) Jc) '0'
theorem Jgg:CY (k+1) [x0,x1,x2] h=(Jes k [B x0,B x1,B x2] h).fin:=02
def Jg1:S1:=Jg (JA<|Ji (XW k) []<|Jb 'b' Jc)<|JA<|Ji (XM k) []<|Jb 'a'<|Jb 'b' Jc
theorem Jje:XL (k+1) [x0,x1] h=(Jg1 k [B x0,B x1] h).fin:=02
def Jdw:S1:=Jm<|Ji (Xp k) []<|Jb (Jk "duty" 'a')<|Jb 'b' Jc
theorem Jez:CZ (k+1) [x0,x1,x2] h=(Jdw k [B x0,B x1,B x2] h).fin:=02
def Jdv:S1:=Jg (JA<|Ji (XW k) []<|Jb 'b' Jc)<|JA<|Ji (XM k) []<|Jb 'a'<|Jb 'b' Jc
theorem Jey:xP (k+1) [x0,x1] h=(Jdv k [B x0,B x1] h).fin:=02
def Jb4(k:Nat):S1:=Jm<|Je Jh 'b' '1'
theorem Jcv:C0 (k+1) [x0,x1,x2] h=(Jb4 k [B x0,B x1,B x2] h).fin:=02
def Le:S1:=Jg (Jj 3<|Ji (CO k) []<|Jb 'a'<|Jb 'c' Jc)<|Jg (bY (Jl aV<|Je oF 'd'<|eC .ag) (Y6 (λc=>c=="NotKept")<|wG "NotKept" (xx k) []<|Jb 'c' Jc) Jw)<|JA<|Jo (pg k) "append" 1 'b'<|Jb 'd' Jc
def Lf:S1:=Jg (cz (cT JX<|Jb (Jo (pg k) "size" 0 'a' Jc) Jc) (br 2)<|Le k)<|Jm 'b'
def Lg:S1:=Jg (Jj 1<|J2 Jc)<|Lf k
theorem Jvw:C1 (k+1) [x0] h=(Lg k [B x0,Ze,Ze,Ze] h).fin:=02
def Jkc(k:Nat):S1:=Jm<|kQ (Jl cH<|dC XY 'a') (bt (bu QM)<|Jb 'a' Jc) 'a'
theorem Jmz:xQ (k+1) [x0] h=(Jkc k [B x0] h).fin:=02
def Jiq:S1:=JJ "lines" 'a'<|Ji (xQ k) []<|Jb 'b' Jc
theorem Jlb:xR (k+1) [x0,x1] h=(Jiq k [B x0,B x1] h).fin:=02
def Jir(k:Nat):S1:=Jm<|eC<|.bl Zi
theorem Jlc:C2 (k+1) [x0] h=(Jir k [B x0] h).fin:=02
def Jfl:S1:=Jg (JJ "row" 'a'<|Ji (xQ k) []<|Jb 'b' Jc)<|Jg (JJ "place" 'a' 'c')<|JJ "turn" 'a' 'd'
theorem Jhd:C3 (k+1) [x0,x1,x2,x3] h=(Jfl k [B x0,B x1,B x2,B x3] h).fin:=02
def Jfm(k:Nat):S1:=Jm<|eC<|.bl Zl
theorem Jhe:C4 (k+1) [x0] h=(Jfm k [B x0] h).fin:=02
def Jiu:S1:=Jm<|JV "Broken" (C3 k) []<|Jb 'b'<|Jb 'c'<|Jb (Ji (Xp k) []<|Jb 'a'<|Jb (Je Jh 'b' 'c') Jc) Jc
theorem Jlf:xS (k+1) [x0,x1,x2] h=(Jiu k [B x0,B x1,B x2] h).fin:=02
def Jfq:S1:=jj (Jm<|JV "Kept" (xR k) []<|Jb (Ji (C1 k) []<|Jb 'a' Jc) Jc) [(Jqd,B 1,(Xj 1<|Jg (Jj 2<|Ji (CV k) []<|Jb 'a'<|Jb (Yl (eJ T "at") "at" 'b') Jc)<|Jm<|Ji (xS k) []<|Jb 'a'<|Jb (Je Jh 'c' '0')<|Jb (Je Jh 'c' '1') Jc))]
theorem Jhi:xT (k+1) [x0] h=(Jfq k [B x0,Ze,Ze] h).fin:=02
def Jiw:S1:=Jg (JA<|Ji (XW k) []<|Jb 'a' Jc)<|Jg (Jj 1<|Je Jh (Ji (CU k) []<|Jb 'a' Jc)<|dH VE '1')<|Jg (Jj 2<|Ji (CT k) []<|Jb 'a'<|Jb 'b' Jc)<|Jg (bY (Jl aV<|Je VV 'c'<|eC .ag) (Jg (Jj 3<|Je Jh bw '0')<|Jm<|Ji (xS k) []<|Jb 'a'<|Jb 'd'<|Jb (Je Jh (Ji (VR k) []<|Jb (JV "ByDue" (XL k) []<|Jb 'a' Jc)<|Jb 'd' Jc) '0') Jc) Jw)<|Jg (bY (Jl aV<|Je f6 (Ji (XO k) []<|Jb 'a'<|Jb 'b' Jc) 'b') b8 Jw)<|Jm<|JV "Kept" (xR k) []<|Jb (J2<|Jb 'b' Jc) Jc
theorem Jlh:C5 (k+1) [x0] h=(Jiw k [B x0,Ze,Ze,Ze] h).fin:=02
def Lh(k:Nat):E1:=dC (HP ["Work"]) 'a'
def Li(k:Nat):E1:=Jk "name" 'a'
def Ji0:S1:=Jg (bY (Qa<|Jl cH<|dC XY 'a') b8 Jw)<|Jg (bY (Qa<|Jl cH<|bt (bu allI)<|Jb (Jv (Ju 'a') 1 [] (br 0) J7<|Lh k) Jc) b8 Jw)<|Jg (bY (Jl aV<|Je kY (Ym<|Jb (Jv (Ju 'a') 1 [] (br 0) J7<|Li k) Jc)<|bt (bu bH)<|Jb 'a' Jc) b8 Jw)<|Jm<|bt (bu VM)<|Jb 'a' Jc
theorem Jll:C6 (k+1) [x0] h=(Ji0 k [B x0] h).fin:=02
def Di(k:Nat):E1:=Jk "due" 'a'
def Lj:E1:=Ji (xF k) []<|Jb (Je Jq 'b'<|Jk "late" 'a')<|Jb (Jk "gap" 'a') Jc
def Jj8:S1:=Jg (Jj 1<|VY (Jb (Jv (Ju 'a') 1 [] (br 0) J7<|Di k) Jc) '0')<|Jm<|bt (bu eF)<|Jb (Jv (Ju 'a') 1 [1] (br 0) J7<|Lj k) Jc
theorem Jmv:C7 (k+1) [x0] h=(Jj8 k [B x0,Ze] h).fin:=02
def Jin:S1:=Jg (JJ "works" 'a'<|Ji (C6 k) []<|Jb 'b' Jc)<|Jg (bY (Jl aV<|Je f6 (bt (bu bH)<|Jb (Jk "works" 'a') Jc)<|eC<|.int 12) b8 Jw)<|bY (Jl aV<|Je f6 (Ji (C7 k) []<|Jb (Jk "works" 'a') Jc)<|eC<|.int 80) b8 Jw
theorem Jk8:xU (k+1) [x0,x1] h=(Jin k [B x0,B x1] h).fin:=02
def Jio(k:Nat):S1:=Jm<|bt (bu bH)<|Jb (Jk "works" 'a') Jc
theorem Jk9:C8 (k+1) [x0] h=(Jio k [B x0] h).fin:=02
def Jip(k:Nat):S1:=Jm<|Je Jh (Jk "works" 'a') 'b'
theorem Jla:C9 (k+1) [x0,x1] h=(Jip k [B x0,B x1] h).fin:=02
def Jfr(k:Nat):S1:=Jg (bY (Jl aV<|Je mf 'b'<|bt (bu bH)<|Jb 'a' Jc) (Jm<|Je Jh 'a' 'b') Jw)<|Jm '0'
theorem Jhj:V3 (k+1) [x0,x1] h=(Jfr k [B x0,B x1] h).fin:=02
def Jg6:S1:=Jg (Jj 2<|J2 Jc)<|Jg (bY (Jl aV<|Je pX 'a'<|Je JK (eC<|.int 10)<|eC<|.int 30) (Jg (Jj 3<|Je Qe 'a'<|Je JK (eC<|.int 10)<|eC<|.int 30)<|Jg (cz (cT JX<|Jb 'b' Jc) (br 4)<|Jg (JA<|Jo (pg k) "append" 1 'c'<|Jb (Je J0 'd'<|Je JK (eC<|.int 10)<|eC<|.int 45) Jc)<|Jj 3<|Je JQ 'd'<|Je JK (eC<|.int 10)<|eC<|.int 45)<|Jm 'c') Jw)<|Jg (Jj 5<|Je Jq (Je J0 'a'<|Je Jq (Je JK (eC<|.int 10)<|eC<|.int 18) '9')<|eC<|.int 48271)<|Jg (cz (cT JX<|Jb (Je Jq 'b' '2') Jc) (br 4)<|Jg (Jj 5<|Je J0 (Je Jq (Je Jq (Je Qd 'f' 'f')<|Je Qd (eC<|.int 48271) 'f') 'e')<|Je Jq (Je JK (eC<|.int 10)<|eC<|.int 18) '9')<|JA<|Jo (pg k) "append" 1 'c'<|Jb 'f' Jc)<|Jm<|kn kW 'c' (Qp '2') Xg
theorem Jjj:xV (k+1) [x0,x1] h=(Jg6 k [B x0,B x1,Ze,Ze,Ze,Ze] h).fin:=02
def Lk(k:Nat):E1:=Je Jh 'c'<|Je J0 (Je JQ 'b'<|Je Jq (eC<|.int 11)<|Je Qd 'a' 'a')<|eC<|.int 26
def Jkb:S1:=Jg (Jj 2<|eC<|.str "abcdefghijklmnopqrstuvwxyz")<|Jg (Jj 3<|Je Jq '1'<|Je J0 'a' '8')<|Jg (Jj 4<|Jo (pg k) "join" 1 (eC<|.str "")<|Jb (Jv (cT JX<|Jb 'd' Jc) 1 [0,2] (br 0) J7<|Lk k) Jc)<|Jg (Jj 5<|Je J0 (Je JQ 'a' '8') 'd')<|Jm<|Je Jq (Je Jq (kn oK 'e' Xg<|Qp 'f')<|Je Jh 'c'<|Je J0 (Je Jq (Je JQ 'a'<|eC<|.int 64) 'b')<|eC<|.int 26)<|kn oK 'e' (Qp<|Je Jq 'f' '1') Xg
theorem Jmy:xW (k+1) [x0,x1] h=(Jkb k [B x0,B x1,Ze,Ze,Ze,Ze] h).fin:=02
def Jix:S1:=Jg (Jj 3<|Ji (xV k) []<|Jb 'a'<|Jb (eC<|.int 15) Jc)<|Jg (Jj 4<|Je Jq (Je Qd 'b'<|Je Jq '1'<|Je J0 (Je Jh 'd' '0') '7')<|Je J0 (Je Jh 'd' '1')<|Je Jq '1'<|Je JQ 'b' '2')<|Jg (Jj 5<|Je Qe 'e'<|Je Jh (J2<|Jb '0'<|Jb (Je J0 (Je Jh 'd' '2') 'e') Jc)<|Je J0 (Je Jh 'd' '3') '2')<|Jg (Jj 6<|Je Jh (J2<|Jb '0'<|Jb '0'<|Jb (Je J0 (Je Jh 'd' '4')<|Je Jq '1'<|Je JQ 'e' '3')<|Jb (Je J0 (Je Jh 'd' '4')<|Je Jq '1'<|Je JQ (Je Qd '3' 'e') '2') Jc)<|Je J0 (Je Jh 'd' '5') '4')<|Jg (Jj 7<|Je Jq '1'<|Je J0 (Je Jh 'd' '6')<|bt (mj jS)<|Jb '1'<|Jb (Je JQ 'e'<|Je Jh (J2<|Jb '1'<|Jb '2'<|Jb '4'<|Jb '9' Jc)<|Je J0 (Je Jh 'd' '7') '4') Jc)<|Jg (Jj 8<|J2 Jc)<|Jg (bY (Jl aV<|Je kY 'c'<|J2 Jc) (Jj 8 bw) Jw)<|Jm<|cG<|Jb 'e'<|Jb 'h'<|Jb 'f'<|Jb 'g'<|Jb 'i' Jc
theorem Jli:Dc (k+1) [x0,x1,x2] h=(Jix k [B x0,B x1,B x2,Ze,Ze,Ze,Ze,Ze,Ze] h).fin:=02
def Jka:S1:=Jg (Jj 2<|Ji (V3 k) []<|Jb 'a'<|Jb '0' Jc)<|Jg (Jj 3<|Je Jq '1'<|Je J0 (Je JQ 'c' '4')<|Je Jh (J2<|Jb '4'<|Jb (Je JK (eC<|.int 10)<|eC<|.int 15)<|Jb (Je JK (eC<|.int 10)<|eC<|.int 15)<|Jb (Je JK (eC<|.int 10)<|eC<|.int 40) Jc)<|Je J0 'c' '4')<|Jg (Jj 4<|Ji (V3 k) []<|Jb 'a'<|Jb '1' Jc)<|Jg (Jj 5<|J2 Jc)<|Jg (bY (Jl cH 'b') (Jj 5<|Jv (cT JX<|Jb '3' Jc) 1 [4] (br 0) J7<|Ji (xW k) []<|Jb (Je JQ 'b' '5')<|Jb 'a' Jc) Jw)<|Jg (Jj 6<|J2 Jc)<|Jg (cz (cT JX<|Jb (Je J0 'e' '6') Jc) (br 7)<|Jg (Jj 8<|Ji (Dc k) []<|Jb (Je Jq (Ji (V3 k) []<|Jb 'a'<|Jb (Je Jq '2' 'h') Jc)<|Je Qd '7' 'h')<|Jb 'd'<|Jb 'f' Jc)<|JA<|Jo (pg k) "append" 1 'g'<|Jb (Je Jq (cG<|Jb (Ji (xW k) []<|Jb (Je JQ 'e' '7')<|Jb 'h' Jc) Jc) 'i') Jc)<|Jm 'g'
theorem Jmx:Dd (k+1) [x0,x1] h=(Jka k [B x0,B x1,Ze,Ze,Ze,Ze,Ze,Ze,Ze] h).fin:=02
def Ll:S1:=Jg (Jj 6<|Ji (xV k) []<|Jb 'f'<|Jb '6' Jc)<|Jg (Jj 7<|Je J0 (Je Jh 'g' '0')<|bt (bu bH)<|Jb 'b' Jc)<|Jg (eZ (Je Jh 'b' 'h')<|oB 6<|gC (br 8)<|gC (br 9)<|gC (br 10)<|gC (br 11)<|gC (br 12)<|gC (br 13) gN)<|Jg (Jj 14<|Je Jh (J2<|Jb 'm'<|Jb '0'<|Jb (Je J0 (Je Jh 'g' '1')<|Je Jq 'm' '1') Jc)<|Je J0 (Je Jh 'g' '2') '3')<|Jg (Jj 15<|Je Jq (Je Qe 'e' 'o')<|Je Jh (J2<|Jb '0'<|Jb (Je J0 (Je Jh 'g' '3') 'j')<|Jb (Je Qe '0'<|Je J0 (Je Jh 'g' '3') 'j') Jc)<|Je J0 (Je Jh 'g' '4') '3')<|Jg (bY (Jl aV<|Je fQ 'h' 'd') (Jj 15<|Je Jq (Je Jq (Je QT 'd' 'h') 'j')<|Je Jh (J2<|Jb '0'<|Jb (Je J0 (Je Jh 'g' '3')<|Je Jq '1' 'j') Jc)<|Je J0 (Je Jh 'g' '4') '2') Jw)<|Jg (eZ 'p'<|gJ 'd' 'h')<|JA<|Jo (pg k) "append" 1 'c'<|Jb (cG<|Jb 'h'<|Jb 'p'<|Jb 'o'<|Jb (Je Jh (J2<|Jb 'k'<|Jb 'k'<|Jb (Je Jq '1'<|Je J0 (Je Jh 'g' '5') 'k') Jc)<|Je J0 (Je JQ (Je Jh 'g' '4') '6') '3') Jc) Jc
def Jmk:S1:=Jg (Jj 2<|J2 Jc)<|Jg (Jj 3 Xv)<|Jg (bY (Jl aV<|Je kX 'b'<|J2 Jc) (Jm 'c') Jw)<|Jg (Jj 4<|Je Qd '3'<|bt (bu Vw)<|Jb (Jv (Ju 'b') 1 [] (br 0) J7<|Je Jh 'a' '1') Jc)<|Jg (cz (Ju 'a') (br 5)<|Ll k)<|Jm 'c'
theorem Jpi:De (k+1) [x0,x1] h=(Jmk k [B x0,B x1,Ze,Ze,Ze,Ze,Ze,Ze,Ze,Ze,Ze,Ze,Ze,Ze,Ze,Ze] h).fin:=02
def Jg5:S1:=Jg (Jj 1<|eC .ag)<|Jg (jj (Jj 1<|Ji (C5 k) []<|Jb 'a' Jc) [(Jqe,Ze,(Jj 1<|eC .ag))])<|Jm<|iw (Je VV 'b'<|eC .ag) (dH (VF cH)<|Jo (pg k) "kept" 0 'b' Jc) cH
theorem Jji:xX (k+1) [x0] h=(Jg5 k [B x0,Ze] h).fin:=02
def xZ:E1:=JV "Work" (xH k) [.ag]<|Jb (Je Jh 'a' '0')<|Jb (Je Jh 'a' '1')<|Jb (Je Jh 'a' '2')<|Jb (Je Jh 'a' '3')<|Jb (Je Jh 'a' '4') Jc
def Lm:S1:=Jm<|pW (dH (VF cH)<|Jo (pg k) "kept" 0 (Ji (xT k) []<|Jb 'd' Jc) Jc) (dH (VF cH)<|Ji (xX k) []<|Jb 'd' Jc) cH
def Ln:S1:=Jg (bY (Qy (Jl aV<|Je oE (J2 Jc) 'e')<|Jl aV<|Je kY (Ji (VR k) []<|Jb (JV "ByDue" (XL k) []<|Jb 'd' Jc)<|Jb (bt (bu QM)<|Jb 'c' Jc) Jc)<|J2 Jc) (Jm<|eC<|.bl Zl) Jw)<|Lm k
def Lo:S1:=Jg (Jj 4<|J2<|Jb (Ji (VR k) []<|Jb (JV "ByRank" (xO k) []<|Jb 'd' Jc)<|Jb (bt (bu QM)<|Jb 'c' Jc) Jc)<|Jb (Ji (VR k) []<|Jb (JV "ByComing" (xP k) []<|Jb 'd' Jc)<|Jb (bt (bu QM)<|Jb 'c' Jc) Jc) Jc)<|Ln k
def Lp:S1:=Jg (Jj 2<|Ji (De k) []<|Jb (kn kW 'a' (Qp '8')<|Qp<|Je Jq '8'<|Je J0 (Ji (V3 k) []<|Jb 'a'<|Jb '7' Jc)<|eC<|.int 10)<|Jb 'b' Jc)<|Jg (Jj 3<|JV "Duty" (xU k) []<|Jb (Jv (Ju 'b') 1 [] (br 0) J7<|xZ k) Jc)<|Lo k
def Jzo:S1:=Jg (Jj 1<|Ji (Dd k) []<|Jb 'a'<|Jb (eC<|.bl Zl) Jc)<|Jg (bY (Jl aV<|Je kX (Je J0 (Je JQ (Ji (V3 k) []<|Jb 'a'<|Jb '7' Jc)<|eC<|.int 10) '2') '1') (Jj 1<|dH gG 'b') Jw)<|Lp k
theorem J30:XS (k+1) [x0] h=(Jzo k [B x0,Ze,Ze,Ze,Ze] h).fin:=02
end
theorem ya(k):JE (pg k) "held" 0 "Work"=B (Cy k,[]):=02
theorem Jcs(k):JE (pg k) "next_ready" 0 "Bench"=B (CB k,[]):=02
theorem Jga(k):JE (pg k) "let_in" 0 "Bench"=B (CC k,[]):=02
theorem Jdh(k):JE (pg k) "turns_for" 1 "Bench"=B (CD k,[]):=02
theorem Ji7(k):JE (pg k) "tell" 2 "Bench"=B (CF k,[]):=02
theorem Jg8(k):JE (pg k) "go_on" 0 "Bench"=B (CG k,[]):=02
theorem Jd2(k):JE (pg k) "rank_of" 2 "ByRank"=B (CW k,[]):=02
theorem Jgb(k):JE (pg k) "holds" 2 "ByRank"=B (CY k,[]):=02
theorem Jhb(k):JE (pg k) "pick" 3 "ByRank"=B (Xn k,[]):=02
theorem Jdi(k):JE (pg k) "standing" 2 "ByRank"=B (XN k,[]):=02
theorem Jex(k:Nat):JE (pg k) "rank_of" 2 "ByDue"=B (CZ k,[]):=02
theorem Jha(k:Nat):JE (pg k) "holds" 2 "ByDue"=B (xN k,[]):=02
theorem Ji8(k:Nat):JE (pg k) "pick" 3 "ByDue"=B (Xn k,[]):=02
theorem Jd1(k:Nat):JE (pg k) "standing" 2 "ByDue"=B (XN k,[]):=02
theorem Jct(k:Nat):JE (pg k) "rank_of" 2 "ByComing"=B (C0 k,[]):=02
theorem Jd0(k:Nat):JE (pg k) "holds" 2 "ByComing"=B (xN k,[]):=02
theorem Jew(k:Nat):JE (pg k) "pick" 3 "ByComing"=B (Xn k,[]):=02
theorem Jb5(k:Nat):JE (pg k) "standing" 2 "ByComing"=B (XN k,[]):=02
theorem Jk2(k):JE (pg k) "kept" 0 "Kept"=B (C2 k,[]):=02
theorem Jg9(k):JE (pg k) "kept" 0 "Broken"=B (C4 k,[]):=02
theorem yb(k):JE (pg k) "size" 0 "Duty"=B (C8 k,[]):=02
theorem Lq(k):JE (pg k) "work" 1 "Duty"=B (C9 k,[]):=02
end LW
section
open PySem L2 L3 L4
namespace LW
open PySem L2 L3 L4
section
variable{k:Nat}{h:IH}
theorem J4:1000000<sizeLine:=01
theorem Xl(o o'):List.set (h++[o]) h.length o'=h++[o']:=03
theorem V0(o o')(g):List.set (h++o::g) h.length o'=h++o'::g:=03
end
section
seal L4.run
section
variable{α β:Type}{U:aA}{h h1:IH}{N:aA->IH->Prop}{R P:IV->IH->Prop}
theorem xb(x:WR r λa h=>WR (f a h) Q):WR (r.bind f) Q:=(JB ..).mpr x
theorem ae(x:WS (a U h) (λj h1=>WS (b j h1) N R) R):WS (Jg a b U h) N R:=(YT ..).mpr x
theorem ak(x:WS r (λ_ h=>P .ag h) P):WR r.fin P:=(YS ..).mpr x
theorem aj(x:WR (e U h) λv h1=>N (U.set i<|B v) h1):WS (Jj i e U h) N R:=(YU ..).mpr x
theorem ax(x:WR (e U h) R):WS (Jm e U h) N R:=(YW ..).mpr x
theorem JM(x:WR (e U h) λ_ h1=>N U h1):WS (JA e U h) N R:=(YX ..).mpr x
theorem t8(x:WR (t U h) λc h1=>(c=Zi->WS (a U h1) N R)/\(c=Zl->WS (b U h1) N R)):WS (bY t a b U h) N R:=(YV ..).mpr x
theorem jZ(x:WR (t U h) λc h1=>(c=Zi->WR (a U h1) P)/\(c=Zl->WR (b U h1) P)):WR (kQ t a b U h) P:=(YZ ..).mpr x
theorem Dj(x:WR (a U h) λc h1=>(c=Zi->WR (b U h1) Q)/\(c=Zl->Q Zl h1)):WR (Qy a b U h) Q:=(Za ..).mpr x
theorem fm[Decidable p](x:p->a)(y:¬p->b):(decide p=Zi->a)/\(decide p=Zl->b):=05
theorem aK(x:N U h):WS (Jw U h) N R:=x
theorem nu(x:WR (a U h) λxs h1=>xs.length<=sizeLine/\P (.tup xs) h1):WR (cG a U h) P:=(J6t ..).mpr x
theorem lB(x:WR (a U h) λxs h1=>xs.length<=sizeLine/\P (.ref h1.length) (h1++[.lst xs])):WR (J2 a U h) P:=(J6o ..).mpr x
theorem Dl(g:h[i]?=B (.lst xs))(e:bW xs n=B x)(q:P x h):WR (Jh (.ref i) (.int n) h) P:=(J6k ..).mpr #[_,g,_,e,q]
theorem t9(e:bW xs n=B x)(q:P x h):WR (Jh (.tup xs) (.int n) h) P:=(J6m ..).mpr #[_,e,q]
theorem J9a(g:h[i]?=B (.lst xs))(q:P (.int xs.length) h):WR (bH (.ref i) h) P:=(J2q ..).mpr #[_,g,q]
theorem Dm(l:0<j)(q:P (.int<|i%j) h):WR (J0 (.int i) (.int j) h) P:=(J6p ..).mpr #[l,q]
theorem J88(l:0<j/\j.natAbs.log2<9000)(q:P (.int<|i/j) h):WR (JQ (.int i) (.int j) h) P:=(J2o ..).mpr #[l,q]
theorem ua(l:Ve i j)(q:P (.int<|i*j) h):WR (Qd (.int i) (.int j) h) P:=(J6q ..).mpr #[l,q]
def ao(ho:o U h=.ok (.ref i) h1)(g:h1[i]?=B (.ins c fs))(l:fs.lookup f=B x):Jk f o U h=.ok x h1:=by calc Js ?_;rw[J6i,ho];show#[x,(Q9 g).trans l,rfl,rfl]
def aJ(ea:a U h=.ok x h1)(j:b U h1=.ok y J):Je f a b U h=f x y J:=by unfold Je;rw[ea];dsimp only[Res.bind];rw[j]
def aq(ea:a U h=.ok x h1):Jb a Jc U h=.ok [x] h1:=by unfold Jb;rw[ea];rfl
def ar(ea:a U h=.ok x h1)(j:b U h1=.ok y J):Jb a (Jb b Jc) U h=.ok [x,y] J:=by unfold Jb;rw[ea];dsimp only[Res.bind];rw[j];rfl
def iG(ea:a U h=.ok xs h1):bt f a U h=f xs h1:=by unfold bt;rw[ea];rfl
def Jr(ea:a U h=.ok xs h1)(j:f (xs++d) h1=.ok v J):Ji f d a U h=.ok v J:=by unfold Ji;rw[ea];show j
def cg(ea:a U h=.ok (.bl c) h1):Jl aV a U h=.ok c h1:=by unfold Jl;rw[ea];rfl
def dP(ea:a U h=.ok (.ref i) h1)(g:h1[i]?=B (.lst xs)):bt (bu bH) (Jb a Jc) U h=.ok (.int xs.length) h1:=by rw[iG<|aq ea];show Js<|J9a g #[rfl,rfl]
def aW(ea:a U h=.ok (.ref i) h1)(j:b U h1=.ok (.int n) J)(g:J[i]?=B (.lst xs))(e:bW xs n=B x):Je Jh a b U h=.ok x J:=by rw[aJ ea j];show Js<|Dl g e #[rfl,rfl]
def bp(ea:a U h=.ok (.tup xs) h1)(j:b U h1=.ok (.int n) J)(e:bW xs n=B x):Je Jh a b U h=.ok x J:=by rw[aJ ea j];show Js<|t9 e #[rfl,rfl]
theorem jk(ea:a U h=.ok (.int i) h1)(m:b U h1=.ok (.int j) J):Jl aV (Je f6 a b) U h=.ok (decide (j<i)) J:=cg<|aJ ea m
theorem Dp(ea:a U h=.ok (.int i) h1)(m:b U h1=.ok (.int j) J):Jl aV (Je fA a b) U h=.ok (decide (i<=j)) J:=cg<|aJ ea m
theorem m3(ea:a U h=.ok (.int i) h1)(m:b U h1=.ok (.int j) J):Jl aV (Je mf a b) U h=.ok (decide (i<j)) J:=cg<|aJ ea m
theorem Dq(ea:a U h=.ok (.int i) h1)(m:b U h1=.ok (.int j) J):Jl aV (Je pX a b) U h=.ok (decide (j<=i)) J:=cg<|aJ ea m
theorem yc(ea:a U h=.ok (.int i) h1)(m:b U h1=.ok (.int j) J):Jl aV (Je kX a b) U h=.ok (decide (i=j)) J:=cg<|aJ ea m
theorem aP(ea:a U h=.ok (.int i) h1)(m:b U h1=.ok (.int j) J):Je Jq a b U h=.ok (.int<|i+j) J:=aJ ea m
theorem dQ(ea:a U h=.ok (.int i) h1)(m:b U h1=.ok (.int j) J):Je Qe a b U h=.ok (.int<|i-j) J:=aJ ea m
def gW(ea:a U h=.ok x h1)(j:b U h1=.ok y J)(m:c U J=.ok z h3):Jb a (Jb b<|Jb c Jc) U h=.ok [x,y,z] h3:=by rw[show Jb a (Jb b<|Jb c Jc) U h=(a U h).bind λx h1=>(Jb b (Jb c Jc) U h1).bind λxs J=>.ok (x::xs) J from rfl,ea];change(Jb b (Jb c Jc) U h1).bind _=_;rw[ar j m];rfl
def jl(ea:a U h=.ok x h1)(m:b U h1=.ok y J)(j:c U J=.ok z h3)(C:d U h3=.ok u h4):Jb a (Jb b<|Jb c<|Jb d Jc) U h=.ok [x,y,z,u] h4:=by rw[show Jb a (Jb b<|Jb c<|Jb d Jc) U h=(a U h).bind λx h1=>(Jb b (Jb c<|Jb d Jc) U h1).bind λxs J=>.ok (x::xs) J from rfl,ea];change(Jb b (Jb c<|Jb d Jc) U h1).bind _=_;rw[gW m j C];rfl
theorem bI(ea:a U h=.ok (.int i) h1)(m:b U h1=.ok (.int j) J)(l:0<j):Je J0 a b U h=.ok (.int<|i%j) J:=(aJ ea m).trans<|Js<|Dm l #[rfl,rfl]
theorem Qv(ea:a U h=.ok (.int i) h1)(m:b U h1=.ok (.int j) J)(l:0<j)(z:j.natAbs.log2<9000):Je JQ a b U h=.ok (.int<|i/j) J:=(aJ ea m).trans<|Js<|J88 #[l,z] #[rfl,rfl]
theorem ft(ea:a U h=.ok (.int i) h1)(m:b U h1=.ok (.int j) J)(l:Ve i j):Je Qd a b U h=.ok (.int<|i*j) J:=(aJ ea m).trans<|Js<|ua l #[rfl,rfl]
theorem cK(ea:a U h=.ok xs h1)(l:Nat.ble xs.length 1000=Zi):J2 a U h=.ok (.ref h1.length) (h1++[.lst xs]):=Js<|lB<|Jf ea #[Zc (EG l)<|Zc 01<|ZC J4,rfl,rfl]
theorem j0(ea:a U h=.ok xs h1)(l:Nat.ble xs.length 1000=Zi):cG a U h=.ok (.tup xs) h1:=Js<|nu<|Jf ea #[Zc (EG l)<|Zc 01<|ZC J4,rfl,rfl]
theorem oO(ea:a U h=.ok xs h1)(l:Nat.ble xs.length 1000=Zi)(j:b U (h1++[.lst xs])=.ok (.int n) (h1++[.lst xs]))(e:bW xs n=B x):Je Jh (J2 a) b U h=.ok x (h1++[.lst xs]):=aW (cK ea l) j grown e
theorem qr(ea:a U h=.ok (.int i) h1)(m:b U h1=.ok (.int j) J):bt (mj jS) (Jb a<|Jb b Jc) U h=.ok (.int (if j>i then j else i)) J:=iG<|ar ea m
theorem Ds(ea:a U h=.ok (.int i) h1)(m:b U h1=.ok (.int j) J):bt (mj m6) (Jb a<|Jb b Jc) U h=.ok (.int (if j<i then j else i)) J:=iG<|ar ea m
def dS{Pg:Pg}(e:o U h=.ok (.ref i) h1)(Z:h1[i]?=B (.ins c fs))(j:fs.lookup m=Ze)(hd:JE Pg m n c=B (f,d))(ha:a U h1=.ok xs J)(C:f (.ref i::(xs++d)) J=.ok v h3):Jo Pg m n o a U h=.ok v h3:=by calc Js<|(HZ e Z j hd).mpr<|Jf ha<|Jf C #[rfl,rfl]
theorem jm[Decidable p](e:t U h=.ok (decide p) h1)(x:p->WS (a U h1) N R)(y:¬p->WS (b U h1) N R):WS (bY t a b U h) N R:=t8<|Jf e<|fm x y
theorem bJ(e:t U h=.ok Zl h1)(x:WS (b U h1) N R):WS (bY t a b U h) N R:=t8 (Jf e #[(λz=>by cases z),λ_=>x])
theorem qt(e:t U h=.ok Zi h1)(x:WS (a U h1) N R):WS (bY t a b U h) N R:=t8 (Jf e #[λ_=>x,λz=>by cases z])
def j1(e:r=.next W1 h1)(x:N W1 h1):WS r N R:=by rw[e];show x
theorem jo(x:WR (it U h) λbC h1=>WS (JS bC.aZ g b bC.xs U h1) N R):WS (cz it g b U h) N R:=(HR ..).mpr x
theorem fU{r:Res α}(e:r=.ok c h)(q:c=d):r=.ok d h:=q▸e
theorem nv(ea:a U h=.ok v h1)(t:(iB v h1).bind ans=B b):dC ans a U h=.ok (.bl b) h1:=Js<|(J6j ..).mpr<|Jf ea #[b,t,rfl,rfl]
def gX(e:a U h=.ok c h1):Qa a U h=.ok (!c) h1:=by unfold Qa;rw[e];rfl
def fV(e:a U h=.ok (.bl c) h1):Jl cH a U h=.ok c h1:=by unfold Jl;rw[e];rfl
def Dt(e:a U h=.ok Zl h1)(j:b U h1=r):iy a b U h=r:=by unfold iy;rw[e];show j
def uc(e:a U h=.ok Zi h1)(j:b U h1=r):Qy a b U h=r:=by unfold Qy;rw[e];show j
def ud(e:a U h=.ok Zl h1):Qy a b U h=.ok Zl h1:=by unfold Qy;rw[e];rfl
def Dv(e:a U h=.ok (.bl Zi) h1)(j:b U h1=r):iw a b cH U h=r:=by unfold iw;rw[e];show j
def chT(ea:a U h=.ok (.int i) h1)(C:b U h1=.ok (.int j) J)(m:c U J=.ok (.int l) h3)(t1:i<=j)(t2:j<l):JU fA mf a b c U h=.ok (.bl Zi) h3:=by unfold JU;rw[ea];dsimp only[Res.bind];rw[C];change(match IV.bl (decide (i<=j))with|.bl Zi=>_|.bl Zl=>_|_=>_)=_;rw[decide_eq_true t1];rw[m];change Res.ok (IV.bl<|decide (j<l)) h3=_;rw[decide_eq_true t2]
def lE{n:Nat}(j:e U h=.ok (.int (n:Int)) h1)(l:n<1000000)(x:WS (JS (λ_=>True) g b (aN 0 (n:Int)) U h1) N R):WS (cz (cT JX<|Jb e Jc) g b U h) N R:=by rw[HR,Vn];calc Jf (aq j) ?_;rw[Xm];show#[05,x]
def Lr(ea:a U h=.ok (.ref i) h1)(g:h1[i]?=B (.lst xs)):bt (bu QM) (Jb a Jc) U h=.ok (.ref h1.length) (h1++[.lst xs]):=by rw[iG<|aq ea];show Js<|(Jx4 ..).mpr #[_,g,rfl,rfl]
def Qk(ev:e U h=.ok v h1)(j:o U h1=.ok (.ref i) h1)(g:h1[i]?=B (.ins c fs))(l:fs.length<1000)(q:N U<|h1.set i<|.ins c<|bG f v fs):WS (JJ f o e U h) N R:=by rw[YI];show Jf ev<|Jf j #[i,c,fs,rfl,g,l,q]
def J84(j:o U h=.ok (.ref i) h1)(g:h1[i]?=B (.ins c fs))(l:fs.lookup f=B (.int a))(m:e U h1=.ok (.int b) J)(g2:J[i]?=B (.ins c gs))(z:gs.length<1000)(q:N U<|J.set i<|.ins c<|bG f (.int<|a+b) gs):WS (XC .Add f o e U h) N R:=by unfold XC;rw[j];simp![rS,g,l,m,L4.mz,g2,z];show q
def J85(D:o U h=.ok (.ref i) h1)(F:k U h1=.ok (.int n) J)(g:J[i]?=B (.lst xs))(ea:bW xs n=B (.int a))(n0:0<=n)(E:e U J=.ok (.int b) h3)(m:h3[i]?=B (.lst ys))(C:jP ys.length n=B j)(q:N U<|h3.set i<|.lst<|ys.set j<|.int<|a+b):WS (XD .Add o k e U h) N R:=by unfold XD;rw[D];simp![rS,F,wZ,g,ea,n0,if_true,E,L4.mz,m5,m,C];show q
theorem Qo{Pg:Pg}(e:o U h=.ok (.ref i) h1)(Z:h1[i]?=B (.ins c fs))(j:fs.lookup m=Ze)(hd:JE Pg m n c=B (f,d))(x:WR (a U h1) λvs J=>WR (f (.ref i::(vs++d)) J) P):WR (Jo Pg m n o a U h) P:=(HZ e Z j hd).mpr x
theorem Qt{Pg:Pg}(e:o U h=.ok (.ref i) h1)(hl:h1[i]?=B (.lst xs))(j:dN "list" m n=B g)(x:WR (a U h1) λvs J=>WR (g (.ref i) vs J) P):WR (Jo Pg m n o a U h) P:=(J2m e hl j).mpr x
theorem iH(g:h[i]?=B (.lst xs))(l:xs.length<sizeLine)(q:P .ag<|h.set i<|.lst<|xs++[y]):WR (VS (.ref i) [y] h) P:=(Juq ..).mpr #[_,g,l,q]
def ue(g:h[i]?=B (.lst xs))(l:xs[xs.length-1]?=B y)(q:P y<|h.set i<|.lst xs.dropLast):WR (X8 (.ref i) [] h) P:=by
 have e:VC (.ref i) h=B (i,xs):=by unfold VC;simp![g]
 unfold X8;rw[e];dsimp only;rw[l];show q
def Dw{ns:Tp}(g:h[i]?=B (.lst<|ns.map .int))(l:ns.findIdx? (· ==k)=B j)(q:P .ag<|h.set i<|.lst<|(ns.map IV.int).eraseIdx j):WR (XA (.ref i) [.int k] h) P:=by
 have e:VC (.ref i) h=B (i,ns.map .int):=by unfold VC;simp![g]
 unfold XA;rw[e];dsimp only;rw[QH];dsimp only;rw[l];show q
theorem Ls:dN "list" "pop" 0=B X8:=02
theorem Jq5:dN "list" "remove" 1=B XA:=02
end
end
section
variable{k:Nat}{h:IH}
theorem Ye(ns:Tp)(n)(hn:0<=n):V3 (k+1) [.bX<|ns.map .int,.int n] h=.ok (.int<|ns.getD n.toNat 0) h:=Js (by
 rw[Jhj];refine ak<|ae<|jm (m3 rfl ((iG<|aq rfl).trans rfl)) (λq=>?_) λq=>aK<|ax<|Jf rfl #[?_,rfl]
 .rw[Zp]at q;have l:n.toNat<ns.length:=(Int.toNat_lt hn).mpr q;show ax (Jf ((aJ rfl rfl).trans<|Js<|(J6l ..).mpr #[.int ns[n.toNat],Ca hn 03,rfl,rfl]) #[by rw[Zv,Zd l];rfl,rfl])
 .rw[Zp]at q;rw[Zv,nU 05];rfl)
end
section
seal L4.run L4.WS
section
variable{k:Nat}{h:IH}
def chV{q:Int->Int->Bool}(D:∀x y h,f (.int x) (.int y) h=.ok (.bl<|q x y) h)(ea:a U h=.ok (.int i) h)(C:b U h=.ok (.int j) h)(m:c U h=.ok (.int l) h):JU fA f a b c U h=.ok (.bl<|decide (i<=j)&&q j l) h:=by unfold JU;rw[ea];dsimp only[Res.bind];rw[C];change(match IV.bl (decide (i<=j))with|.bl Zi=>_|.bl Zl=>_|_=>_)=_;cases decide (i<=j)with|false=>rfl|true=>rw[m];show D _ _ _
def Lu(i):xy (k+1) [.int i] h=.ok (.bl Zi) h:=by rw[Jmw];rfl
def Lv(i j):VQ (k+2) [.int i,.int j] h=.ok (.bl<|decide (j<=i)) h:=by show Js<|by rw[Je0];show ak<|ax<|Jf (Dv (Jr (aq rfl)<|Lu i)<|(aJ rfl rfl).trans rfl) #[rfl,rfl]
def j2(x:Str):Prop:=1<=x.length/\x.length<=8/\∀c∈x.cps.toList,97<=c/\c<=122
def J61:(ZG "a").cps.toList=[97]:=by decide +kernel
def J9b:(ZG "z").cps.toList=[122]:=by decide +kernel
def J1z(j:97<=c/\c<=122):xY k [B<|.str ⟨#[c]⟩] h=.ok (.bl Zi) h:=by
 calc Js ?_;have m:¬([c]<[97]):=λq=>by cases q with|rel q=>show sL (Zh j.1 1) q|cons q=>cases q
 have J:¬([122]<[c]):=λq=>by cases q with|rel q=>show sL (Zh j.2 1) q|cons q=>cases q
 simp![xY,Jx1,V2,R0,YH,J6n,J61,J9b,m,J,decide_false,Bool.not_false,false_implies,true_and,Bool.true_eq_false,IV.bl.injEq,exists_eq_left',implies_true]
def Jpq(j:j2 x):WR (Cw (k+1) [.str x] h) λv h'=>v=.bl Zi/\Ex h h':=by let#[I,J,F]:=j;have O:=J4;have D:x.length<=sizeLine:=Zc (Zq _ 999993)<|Zc (Zh J 999993) O;have M:(1:Int)<=x.length:=vo.mpr 06;have L:(x.length:Int)<=8:=vo.mpr 06;have m:bu bH [IV.str x] h=.ok (.int x.length) h:=Js<|(J2r x).mpr #[D,rfl,rfl];rw[Jph];calc ak<|ae<|bJ (Dt (gX<|fV<|nv (b:=Zi) rfl rfl)<|fU (gX<|cg<|chV (λ_ _ _=>rfl) rfl ((iG<|aq rfl).trans m) rfl) 05)<|aK<|ax ?_;let#[_,_,C,rfl,g,rfl]:=(Qr (it:=Ju 'a') (e:=xY k) (js:=[]) (U:=[B<|.str x]) (f:=λ_=>.bl Zi) #[rfl,rfl,rfl] (by rw[show(VH x).length=x.length by simp[VH,vk]];show Zc (Zq _ 999992)<|Zc (Zh (Zh J 1) 999992) O) (λ_ _=>trivial) (by intro v H J _;let#[c,E,rfl]:=ZY.mp H;show Jf (J1z<|F c E) #[rfl,.refl _])).eq;show Jf ((iG<|aq C).trans<|all_map J1) #[by rw[mK.mpr λ_ _=>rfl],.cons ..]
abbrev Hd:=Str×Int×Int
noncomputable def cL (a:Hd):IV:=.tup [.str a.1,.int a.2.1,.int a.2.2]
theorem Jjt(len:Int):XU (k+1) [.ag,.int len] h=.ok (.tup []) h:=Js (by rw[Jlk];show ak<|ae<|qt (cg<|(aJ rfl rfl).trans rfl)<|ax<|Jf (j0 rfl rfl) #[rfl,rfl])
theorem Jpy(h1:1<=aD)(J:aD<=gap):XT (k+3) [.int aD,.int gap] h=.ok (.int aD) h:=Js (by rw[Jpj];show ak<|ae<|bJ (cg<|(aJ rfl rfl).trans rfl)<|aK<|ae<|bJ (Dt (fU (gX<|fV<|Jr (ar rfl rfl)<|Lv aD 1) 05)<|fU (jk rfl rfl)<|decide_eq_false<|hi.mpr J)<|aK<|ax<|Jf rfl #[rfl,rfl])
noncomputable def eP (name:Str)(gap len aD af:Int)(hs:Tw):Wo:=[("name",.str name),("gap",.int gap),("length",.int len),("due",.int aD),("late",.int af),("hold_tuples",.tup hs)]
section
variable(a b c d e f:IV)
theorem Dx:bG "name" a ([]:Wo)=([("name",a)]:Wo):=02
theorem Dy:bG "gap" b ([("name",a)]:Wo)=([("name",a),("gap",b)]:Wo):=02
theorem put2:bG "length" c ([("name",a),("gap",b)]:Wo)=([("name",a),("gap",b),("length",c)]:Wo):=02
theorem put3:bG "due" d ([("name",a),("gap",b),("length",c)]:Wo)=([("name",a),("gap",b),("length",c),("due",d)]:Wo):=02
theorem Dz:bG "late" e ([("name",a),("gap",b),("length",c),("due",d)]:Wo)=([("name",a),("gap",b),("length",c),("due",d),("late",e)]:Wo):=02
theorem DA:bG "hold_tuples" f ([("name",a),("gap",b),("length",c),("due",d),("late",e)]:Wo)=([("name",a),("gap",b),("length",c),("due",d),("late",e),("hold_tuples",f)]:Wo):=02
variable{name:Str}{gap len aD af:Int}{hs:Tw}
theorem DB:(eP name gap len aD af hs).lookup ("name":Str)=B (.str name):=02
theorem oP:(eP name gap len aD af hs).lookup ("gap":Str)=B (.int gap):=02
theorem oJ:(eP name gap len aD af hs).lookup ("length":Str)=B (.int len):=02
theorem lG:(eP name gap len aD af hs).lookup ("due":Str)=B (.int aD):=02
theorem j3:(eP name gap len aD af hs).lookup ("late":Str)=B (.int af):=02
theorem fl5:(eP name gap len aD af hs).lookup ("hold_tuples":Str)=B (.tup hs):=02
theorem yd:(eP name gap len aD af hs).lookup ("held":Str)=Ze:=02
end
def Juo(H:h[w]?=B (.ins "Work" []))(hn:j2 name)(Q:1<=gap)(hl:1<=len)(P:0<=af) (hd:∀h1,XT (k+4) [dv,.int gap] h1=.ok (.int aD) h1)(C:∀h1:IH,(∀(j:Nat)(o:IX),j≠w->h[j]?=B o->h1[j]?=B o)->WR (XU (k+4) [hv,.int len] h1) λv J=>v=.tup hs/\Ex h1 J):WR (xH (k+5) [.ref w,.str name,.int gap,.int len,dv,.int af,hv] h) λv h'=>v=.ag/\∃g,h'=h.set w (.ins "Work"<|eP name gap len aD af hs)++g:=by
 rw[Jle];calc ak<|ae<|t8<|xb<|xb<|xb<|Jf (aq rfl)<|WR.mono (Jpq hn) ?_;rintro v h1 ⟨rfl,g1,rfl⟩;have E:=J9 H;have O:∀{o:IX},(h++g1).set w o=h.set w o++g1:=by intro o;rw[mJ (h:=E)]
 have m:∀{o:IX},(h.set w o++g1)[w]?=B o:=by intro o;rw[ZE (by simp_all),ZM E]
 have D:∀{o F:IX},(h.set w o++g1).set w F=h.set w F++g1:=by intro o F;rw[mJ (h:=by rw[pj];show E),vg]
 have ok:∀{U:aA}{L I:E1}{a b:Int}{C:IH},L U C=.ok (.int a) C->I U C=.ok (.int b) C->b<=a->Qa (Jl cH<|Ji (VQ<|k+4) []<|Jb L<|Jb I Jc) U C=.ok Zl C:=λh1 J l=>fU (gX<|fV<|Jr (ar h1 J)<|Lv _ _)<|by simp_all
 calc Jf rfl (Jf rfl #[(λz=>by cases z),λ_=>aK<|ae<|bJ (ok rfl rfl Q)<|aK<|ae<|bJ (ok rfl rfl hl)<|aK<|ae<|bJ (ok rfl rfl P)<|aK<|ae<|Qk rfl rfl (grow H) 01 ?_]);rw[O,Dx];calc ae (Qk rfl rfl m (by simp_all) ?_);rw[D,Dy];calc ae (Qk rfl rfl m (by simp_all) ?_);rw[D,put2];calc ae (Qk (Jr (ar rfl rfl)<|hd _) rfl m (by simp_all) ?_);rw[D,put3];calc ae (Qk rfl rfl m (by simp_all) ?_);rw[D,Dz];unfold KS;rw[YI];refine xb<|Jf (ar rfl rfl)<|WR.mono (C _ λj o M e=>?_) ?_
 .calc grow ?_;rw[ZL<|ZP M];show e
 .rintro v J ⟨rfl,g2,rfl⟩;calc Jf rfl #[w,_,_,rfl,grow m,by change(5:Nat)<1000;decide,rfl,g1++g2,?_];rw[mJ (h:=J9 m),D,DA,hX];rfl
def J07(hn:j2 name)(C:1<=gap)(hl:1<=len)(m:0<=af) (hd:∀h1,XT (k+4) [dv,.int gap] h1=.ok (.int aD) h1)(D:∀h1:IH,(∀(j:Nat)(o:IX),h[j]?=B o->h1[j]?=B o)->WR (XU (k+4) [hv,.int len] h1) λv J=>v=.tup hs/\Ex h1 J):WR (xH (k+5) [.ref h.length,.str name,.int gap,.int len,dv,.int af,hv]<|h++[.ins "Work" []]) λv h'=>v=.ag/\∃g,h'=h++.ins "Work" (eP name gap len aD af hs)::g:=by calc WR.mono (Juo grown hn C hl m hd λh1 q=>D h1 λj o e=>q j o (by have:=J9 e;show Z1 this)<|grow e) ?_;rintro v h' ⟨rfl,g,rfl⟩;show#[rfl,g,by rw[Xl];simp]
end
end
section
seal L4.run L4.WS
section
variable{k:Nat}{h:IH}
def ye(j:h[w]?=B (.ins "Work"<|eP name gap len aD af hs)):Cy (k+1) [.ref w] h=.ok (.ref h.length) (h++[.lst hs]):=by show Js<|by rw[Jld];show ak<|ax<|Jf ((iG<|aq<|ao rfl j fl5).trans rfl) #[rfl,rfl]
end
end
structure WD where
 name:Str
 gap:Int
 len:Int
 aD:Int
 af:Int
abbrev _root_.Tz:=List WD
def qA(h:IH)(v:IV)(d:WD):Prop:=∃i hs,v=.ref i/\h[i]?=B (.ins "Work"<|eP d.name d.gap d.len d.aD d.af hs)
def qA.kp(k:Kp h h')(w:qA h v d):qA h' v d:=by let#[i,j,e,q]:=w;show#[i,j,e,k _ _ q]
structure dw(h:IH)(vs:Tw)(ds:Tz):Prop where
 len:vs.length=ds.length
 at_:∀(i:Nat) v d,vs[i]?=B v->ds[i]?=B d->qA h v d
theorem dw.kp(k:Kp h h')(w:dw h vs ds):dw h' vs ds:=#[w.len,λi v d a b=>(w.at_ i v d a b).kp k]
def dw.of(w:dw h vs ds)(m:v∈vs):∃d∈ds,qA h v d:=by
 let#[i,Z,rfl]:=iO.mp m;have j:i<ds.length:=by rw[<-w.len];show Z
 show#[ds[i],Z9 j,w.at_ i _ _ (Zd Z)<|Zd j]
def jq(f:Str)(h:IH)(v:IV):IV:=(V9 f v h).getD .ag
def dw.lH(w:dw h vs ds)(C:∀(i:Nat) (d:WD) hs,h[i]?=B (.ins "Work"<|eP d.name d.gap d.len d.aD d.af hs)->F (.ref i)=g d):vs.map F=ds.map g:=by
 refine nX λi=>?_
 rw[Z5,Z5];by_cases Z:i<vs.length
 .have m:i<ds.length:=by rw[<-w.len];show Z
  rw[Zd Z,Zd m];let#[j,hs,e,q]:=w.at_ i _ _ (Zd Z)<|Zd m;simp;rw[e,C j _ hs q]
 .have m:¬i<ds.length:=by rw[<-w.len];show Z
  rw[nU<|ZO Z,nU<|ZO m];rfl
section
variable{k:Nat}{h:IH}
theorem Jwy:HP ["Work"] (.ins "Work")=B Zi:=02
def Jls(Z:h[i]?=B (.lst vs))(w:dw h vs ds)(nd:(ds.map (·.name)).Nodup)(hl:ds.length<=20):WR (C6 (k+1) [.ref i] h) λv h'=>v=.tup vs/\Ex h h':=by have O:=J4;have P:=w.len;rw[Jll];let#[_,_,C,rfl,g,rfl]:=(Qr (it:=Ju 'a') (e:=Lh k) (U:=[B<|.ref i]) (f:=λ_=>.bl Zi) (by rw[Qc];show Jf rfl ((Qs _).mpr #[_,Z,rfl,rfl,rfl])) 05 (λJ q=>q _ _ Z) (by intro v H J q;let#[d,_,j,I,rfl,e]:=w.of H;show Jf (nv rfl (by rw[show iB (.ref j) J=B (.ins "Work") by simp[iB,q _ _ e]];show Jwy)) #[rfl,.refl _])).eq;calc ak (ae<|bJ (gX (c:=Zi)<|fV<|nv rfl (by rw[HV Z];rfl))<|aK<|ae<|bJ (fU (gX<|fV<|(iG<|aq C).trans<|all_map J1) 03)<|aK<|ae ?_);have D:Ex h (h++IX.lst (vs.map λ_=>.bl Zi)::g):=.cons _ _ _;generalize h++IX.lst (vs.map λ_=>.bl Zi)::g=E at D;have L:=w.kp D.kp;have m:=D.get Z;let#[_,_,C,rfl,g2,rfl]:=(Qr (it:=Ju 'a') (e:=Li k) (U:=[B<|.ref i]) (f:=jq "name" E) (by rw[Qc];show Jf rfl ((Qs _).mpr #[_,m,rfl,rfl,rfl])) 05 (λJ q=>q _ _ m) (by intro v H J q;let#[d,_,j,I,rfl,e]:=L.of H;show Jf (ao rfl (q _ _ e) DB) #[by rw[jq,Q9 e,DB];rfl,.refl _])).eq;rw[L.lH (g:=λd=>.str d.name) λj d I e=>by rw[jq,Q9 e,DB];rfl,show ds.map (λd=>IV.str d.name)=(ds.map (·.name)).map IV.str by rw[fy];rfl]at C;have F:Ex E (E++IX.lst ((ds.map (·.name)).map IV.str)::g2):=.cons _ _ _;have M:=Js (by rw[Juw];calc Jf (aq C) #[_,rfl,_,J1,ds.map (·.name),Cf _,by rw[Zp];unfold kc;show Zc (Zh hl 2)<|Zq _ 4074,?_];rw[Ia nd _<|Zk _,Zp];show#[rfl,rfl]);calc bJ (fU (cg<|(aJ M<|dP rfl (F.get m)).trans rfl)<|by rw[P];simp)<|aK<|ax<|Jf ((iG<|aq rfl).trans<|Js ?_) #[rfl,D.trans F];change WR (VM (.ref i) _) _;rw[J2x];show#[_,F.get m,rfl,rfl]
noncomputable def iI (top bottom:Int):Int:=(top+bottom-1)/bottom
def fW(ds:Tz):Int:=if ds.map (·.aD)=[]then 0 else JL (λi=>(ds.map (·.aD)).getD i 0) (ds.map (·.aD)).length
def yf(ds:Tz):Int:=(ds.map λd=>iI (fW ds+d.af) d.gap).sum
def DC(T:Int)(h:IH)(v:IV):IV:=match V9 "late" v h,V9 "gap" v h with|some (.int l),B (.int g)=>.int<|iI (T+l) g|_,_=>.ag
section
seal L4.run L4.WS
theorem Lw(O:0<b)(hl:b.natAbs.log2<9000):xF (k+1) [.int a,.int b] h=.ok (.int<|iI a b) h:=Js (by rw[Jlm];show ak<|ax<|Jf (Qv (dQ (aP rfl rfl) rfl) rfl O hl) #[rfl,rfl])
def Jvc(w:dw h vs ds)(hl:ds.length<=20)(L:∀d∈ds,0<d.gap/\d.gap.natAbs.log2<9000):WR (C7 (k+2) [.tup vs] h) λv h'=>v=.int (yf ds)/\Ex h h':=by have O:=J4;have P:=w.len;let#[_,_,m,rfl,g,rfl]:=(Qr (it:=Ju 'a') (e:=Di<|k+1) (U:=[B<|.tup vs,Ze]) (f:=jq "due" h) #[rfl,rfl,rfl] 05 (λ_ _=>trivial) (by intro v E J q;let#[d,_,j,C,rfl,e]:=w.of E;show Jf (ao rfl (q _ _ e) lG) #[by rw[jq,Q9 e,lG];rfl,.refl _])).eq;rw[w.lH (g:=λd=>.int d.aD) λj d C e=>by rw[jq,Q9 e,lG];rfl,show ds.map (λd=>IV.int d.aD)=(ds.map (·.aD)).map IV.int by rw[fy];rfl]at m;have D:Ex h (h++IX.lst ((ds.map (·.aD)).map IV.int)::g):=.cons _ _ _;have I:VY (Jb (Jv (Ju 'a') 1 [] (br 0) J7<|Di<|k+1) Jc) '0' [B<|.tup vs,Ze] h=.ok (.int<|fW ds) (h++IX.lst ((ds.map (·.aD)).map IV.int)::g):=Js (by rw[H0];calc Jf (aq m)<|Jf rfl #[_,rfl,_,J1,_,QH _,?_,rfl];unfold maxD fW;split<;>rfl);generalize h++IX.lst ((ds.map (·.aD)).map IV.int)::g=M at D I;have H:=w.kp D.kp;let#[_,_,m,rfl,g2,rfl]:=(Qr (it:=Ju 'a') (e:=Lj<|k+1) (js:=[1]) (U:=[B<|.tup vs,B<|.int<|fW ds]) (f:=DC (fW ds) M) #[rfl,rfl,rfl] 05 (λ_ _=>trivial) (by intro v E J q;let#[d,hd,j,C,rfl,e]:=H.of E;have F:=q _ _ e;show Jf (Jr (ar (aP rfl (ao rfl F j3))<|ao rfl F oP)<|Lw (L d hd).1 (L d hd).2) #[by rw[DC,Q9 e,Q9 e,j3,oP],.refl _])).eq;rw[H.lH λj d C e=>by rw[DC,Q9 e,Q9 e,j3,oP],show ds.map (λd=>IV.int<|iI (fW ds+d.af) d.gap)=(ds.map λd=>iI (fW ds+d.af) d.gap).map IV.int by rw[fy];rfl]at m;rw[Jmv];calc ak<|ae<|aj<|Jf I<|ax ?_;rw[HS];calc Jf (aq m) ?_;change WR (eF (.ref _) _) _;rw[Cg];show#[_,J1,_,QH _,rfl,D.trans<|.cons _ _ _]
abbrev ny(vs:Tw):Wo:=[("works",.tup vs)]
theorem dp0:bG "works" a ([]:Wo)=([("works",a)]:Wo):=02
theorem oQ:(([("works",a)]:Wo)).lookup ("works":Str)=B a:=02
theorem Lx:(([("works",a)]:Wo)).lookup ("work":Str)=Ze:=02
def Jrz(Z:h[i]?=B (.lst vs))(w:dw h vs ds)(nd:(ds.map (·.name)).Nodup)(hl:ds.length<=12)(C:∀d∈ds,0<d.gap/\d.gap.natAbs.log2<9000)(m:yf ds<=80):WR (xU (k+3) [.ref h.length,.ref i]<|h++[.ins "Duty" []]) λv h'=>v=.ag/\∃g,h'=h++.ins "Duty" (ny vs)::g:=by have E:=w.len;rw[Jk8];let#[_,_,D,rfl,g1,rfl]:=(Jls (grow Z) (w.kp (Ex.one h<|IX.ins "Duty" []).kp) nd<|o3 06).eq;calc ak<|ae<|Qk (Jr (aq rfl) D) rfl (grow grown) 01 ?_;rw[dp0,hX,iQ,jM,V0];let#[_,_,j,rfl,g2,rfl]:=(Jvc (w.kp (Ex.cons h (IX.ins "Duty"<|ny vs) g1).kp) (o3 06) C).eq;show ae<|bJ (fU (jk ((iG<|aq<|ao rfl J1 oQ).trans rfl) rfl)<|decide_eq_false 05)<|aK<|bJ (fU (jk (Jr (aq<|ao rfl J1 oQ) j) rfl)<|decide_eq_false<|hi.mpr m)<|aK #[rfl,g1++g2,03]
def Ly(hD:h[D]?=B (.ins "Duty"<|ny vs))(j:bW vs n=B x):C9 (k+1) [.ref D,.int n] h=.ok x h:=by show Js<|by rw[Jla];show ak<|ax<|Jf (bp (ao rfl hD oQ) rfl j) #[rfl,rfl]
end
end
def Y5(O:0<b)(h:a<=m*b):iI a b<=m:=by
 unfold iI;have:(a+b-1)/b<m+1:=by rw[zd O];lia
 show Int.le_of_lt_add_one 06
theorem Lz(m):∀l:Tp,(∀x∈l,x<=m)->l.sum<=l.length*m
 |[],_=>03
 |x::l,q=>by
  have:=Lz m l λy j=>q y<|Zm _ j
  have:=q x<|Z7 ..;simp;lia
def DD{a b K:Nat}(h:a<=b)(O:b.log2<K):a.log2<K:=by
 by_cases ha:a=0
 .subst ha;show ki (ZF _) O
 .have j:b≠0:=d0<|Zc (sJ<|ZP<|ZP ha) h;rw[Nat.log2_lt ha];show ki h<|(Nat.log2_lt j).mp O
abbrev RH:=WD×List Hd
abbrev _root_.Ua:=List RH
noncomputable def rd:RH:=#[#[⟨#[]⟩,0,0,0,0],[]]
abbrev wo(r:RH):IX:=.ins "Work"<|eP r.1.name r.1.gap r.1.len r.1.aD r.1.af<|r.2.map cL
structure fX(h:IH)(vs:Tw)(rs:Ua):Prop where
 len:vs.length=rs.length
 at_:∀(i:Nat) v r,vs[i]?=B v->rs[i]?=B r->∃j,v=.ref j/\h[j]?=B (wo r)
theorem fX.kp(k:Kp h h')(w:fX h vs rs):fX h' vs rs:=#[w.len,λi v r a b=>let ⟨j,e,g⟩:=w.at_ i v r a b;#[j,e,k _ _ g]]
def fX.w(w:fX h vs rs):dw h vs (rs.map (·.1)):=by calc#[by rw[Zp];show w.len,λi v d a b=>?_];rw[Z5]at b;cases m:rs[i]? with|none=>rw[m]at b;cases b|some r=>rw[m]at b;cases b;let#[j,e,g]:=w.at_ i v r a m;show#[j,_,e,g]
def fX.get(w:fX h vs rs){n:Nat}(e:rs[n]?=B r):∃j,vs[n]?=B (.ref j)/\h[j]?=B (wo r):=by
 have hn:n<vs.length:=by rw[w.len];show(Zu.mp e).1
 let#[j,m,g]:=w.at_ n _ r (Zd hn) e;show#[j,by rw[Zd hn,m],g]
structure F8(unit:Int)(r:RH):Prop where
 nm:j2 r.1.name
 g1:unit<=r.1.gap
 g2:2*r.1.gap<=15*unit
 l1:1<=r.1.len
 d1:1<=r.1.aD
 d2:r.1.aD<=r.1.gap
 t1:0<=r.1.af
 t2:r.1.af<=3*r.1.gap/2
 no:r.2=[]
structure Gd(unit:Int)(rs:Ua):Prop where
 u1:1<=unit
 u2:unit<=10^40
 dI:rs.length<=5
 f:∀r∈rs,F8 unit r
 nd:(rs.map λr=>r.1.name).Nodup
def J3k(G:Gd unit rs):yf (rs.map (·.1))<=80:=by
 have M:=G.u1;have E:=G.f;have J:=G.dI;have L:fW (rs.map (·.1))<=9*unit:=by
  unfold fW;split
  .lia
  .rename_i C;refine Ib _ _ _ (by rw[Zp,Zp];cases rs with|nil=>show absurd rfl C|cons _ _=>simp) λj m=>?_
   rw[Zp,Zp]at m;have e:((rs.map (·.1)).map (·.aD)).getD j 0=(rs[j]).1.aD:=by rw[Zv,Z5,Z5,Zd m];rfl
   have f:=E _<|Z9 m;have F:=f.d2;have D:=f.g2;rw[e];lia
 have:=Lz 11 ((rs.map (·.1)).map λd=>iI (fW (rs.map (·.1))+d.af) d.gap) λx I=>by let#[d,hd,rfl]:=ZY.mp I;let#[r,H,rfl]:=ZY.mp hd;have f:=E r H;have F:=f.g1;have D:=f.t2;show Y5 (jy 06 06) 05
 rw[Zp,Zp]at this;unfold yf;lia
theorem Gd.gl(G:Gd unit rs):∀d∈rs.map (·.1),0<d.gap/\d.gap.natAbs.log2<9000:=λd hd=>by let#[r,j,rfl]:=ZY.mp hd;have f:=G.f r j;have m:=f.g1;have C:=f.g2;have u1:=G.u1;have u2:=G.u2;calc#[jy 06 06,DD (b:=9*10^40) ?_<|by decide +kernel];lia
def bK(h:IH)(D:Nat)(rs:Ua):Prop:=∃vs,h[D]?=B (.ins "Duty"<|ny vs)/\fX h vs rs
theorem bK.kp(k:Kp h h')(w:bK h D rs):bK h' D rs:=let ⟨j,a,b⟩:=w;#[j,k _ _ a,b.kp k]
section
variable{k:Nat}{h:IH}
def J7c(Z:h[i]?=B (.lst vs))(w:fX h vs rs)(G:Gd unit rs):WR (xU (k+3) [.ref h.length,.ref i]<|h++[.ins "Duty" []]) λv h'=>v=.ag/\Ex h h'/\bK h' h.length rs:=by have j:=G.dI;calc WR.mono (Jrz Z w.w (by have:=G.nd;rwa [fy]) (by rw[Zp];show o3 06) G.gl<|J3k G) ?_;rintro _ _ ⟨rfl,g,rfl⟩;show#[rfl,.cons _ _ _,vs,J1,w.kp (Ex.cons _ _ _).kp]
end
section
seal L4.run L4.WS
section
variable{k:Nat}{h:IH}
theorem e45(U)(h):Je JK (eC<|.int 10) (eC<|.int 45) U h=.ok (.int<|10^45) h:=Js (by rw[YG,V2,V2,xj];show#[01,rfl,rfl])
theorem e30(U)(h):Je JK (eC<|.int 10) (eC<|.int 30) U h=.ok (.int<|10^30) h:=Js (by rw[YG,V2,V2,xj];show#[01,rfl,rfl])
theorem e18(U)(h):Je Jq (Je JK (eC<|.int 10)<|eC<|.int 18) '9' U h=.ok (.int 1000000000000000009) h:=Js (by rw[YG,YG,V2,V2,xj];calc#[01,?_];show#[congrArg IV.int (by decide +kernel),rfl])
def LA(c)(m:Nat)(hm:m<=40):WR (xV (k+1) [.int c,.int m] h) λv h'=>∃(i:Nat)(xs:Tp),v=.ref i/\h.length<=i/\h'[i]?=B (.lst<|xs.map .int)/\xs.length=m/\(∀x∈xs,(0:Int)<=x/\x<10^45)/\Ex h h':=by
 have O:=J4;have P:(0:Int)<10^45:=by decide +kernel
 have le:(1000000000000000009:Int)<=10^45:=by decide +kernel
 obtain⟨T,V⟩:∃T:Int,∀U h,Je JK (eC<|.int 10) (eC<|.int 30) U h=.ok (.int T) h:=#[_,e30];obtain⟨G,Q,X⟩:∃G:Int,(∀U h,Je Jq (Je JK (eC<|.int 10)<|eC<|.int 18) '9' U h=.ok (.int G) h)/\G=1000000000000000009:=#[_,e18,rfl];obtain⟨F,R,L,Y,W⟩:∃F:Int,(∀U h,Je JK (eC<|.int 10) (eC<|.int 45) U h=.ok (.int F) h)/\0<F/\F.natAbs.log2<9000/\F=10^45:=#[_,e45,P,by decide +kernel,rfl];rw[<-W]at le ⊢;rw[Jjj];refine ak<|ae<|aj<|Jf (cK rfl rfl)<|ae<|jm (Dq rfl (V _ _)) (λ_=>ae<|aj<|Jf (dQ rfl (V _ _))<|ae<|lE rfl (Zc (Zh hm 1)<|Zq _ 999959) ?_) λ_=>aK<|ae<|aj<|Jf (aP (bI rfl (Q _ _) 05) rfl)<|ae<|lE (fU (aP rfl rfl) rfl) 05 ?_
 .refine Vc (λn U h'=>∃xs D a b,h'=h++[.lst<|xs.map IV.int]/\U=[B<|.int c,B<|.int (m:Int),B<|.ref h.length,B<|.int D,a,b]/\xs.length=n/\∀x∈xs,(0:Int)<=x/\x<F) (λ_ _ _ _=>trivial) ?_ ?_ #[[],_,_,_,rfl,rfl,rfl,03]
  .rintro n hn _ _ ⟨xs,D,a,b,rfl,rfl,E,H⟩;rw[JG]at hn;have M:=fH D (b:=F)<|oh L;have J:=ZS D L;refine j1 rfl (ae<|JM<|Qt rfl grown V5 (Jf (aq<|bI rfl (R _ _) L)<|iH grown (by rw[Zp];show Zc (Zq _ 999961)<|Zc (Zh (Zc (Zc (Zh (Zn E) 1) hn) hm) 999961) O)<|aj<|Jf (Qv rfl (R _ _) L Y) #[xs++[D%F],_,_,_,?_,rfl,by simp[E],λx C=>?_]))
   .rw[Xl];simp
   .rw[ZQ,Z8]at C;rcases C with C|rfl
    .show H x C
    .show#[M,J]
  .rintro _ _ ⟨xs,D,a,b,rfl,rfl,E,H⟩;rw[JG]at E;show ax<|Jf rfl #[_,xs,rfl,Zk _,grown,06,H,.one _ _]
 .have s0:=fH c (b:=G) 05;have S:=ZS c (b:=G) 05;refine Vc (λn U h'=>∃xs j a b,h'=h++[.lst<|xs.map IV.int]/\U=[B<|.int c,B<|.int (m:Int),B<|.ref h.length,a,b,B<|.int j]/\(0<=j/\j<2000000000000000000)/\xs.length=n/\∀x∈xs,(0:Int)<=x/\x<G) (λ_ _ _ _=>trivial) ?_ ?_ #[[],_,_,_,rfl,rfl,05,rfl,03]
  .rintro n hn _ _ ⟨xs,j,a,b,rfl,rfl,I,E,H⟩;rw[Qq];rw[JG]at hn;have M:=fH (j*j+48271*j+(0+(n:Int))) (b:=G)<|oh<|iU s0 S;have J:=ZS (j*j+48271*j+(0+(n:Int))) (b:=G)<|iU s0 S;refine j1 rfl (ae<|aj<|Jf (bI (aP (aP (ft rfl rfl (.inl 05))<|ft rfl rfl (.inl 01)) rfl) (Q _ _)<|iU M J)<|JM<|Qt rfl grown V5 (Jf (aq rfl)<|iH grown (by rw[Zp];lia) #[xs++[(j*j+48271*j+(0+(n:Int)))%G],_,_,_,?_,rfl,00,by simp[E],λx C=>?_]))
   .rw[Xl];simp
   .rw[ZQ,Z8]at C;rcases C with C|rfl
    .show H x C
    .show#[M,J]
  .rintro _ _ ⟨xs,j,a,b,rfl,rfl,I,E,H⟩;rw[JG]at E;calc ax<|(xh ..).mpr<|Jf rfl (Jf rfl (Jf rfl ((J6s ..).mpr #[_,grown,?_])));rw[show(B (2:Int))=B ((2:Nat):Int)from rfl,Jvd,<-List.map_drop];calc#[_,xs.drop 2,rfl,03,grown,by simp;(rw[E];rfl),λx C=>?_,(Ex.one _ _).trans<|.one _ _];have:=H x<|List.mem_of_mem_drop C;show#[this.1,(jy (jy this.2<|lV X) le)]
end
end
section
variable{k:Nat}{h:IH}
mutual
theorem Jvn:∀d:lQ,d.canLay0=Zi->h2 d d=Zi|.none,_=>by simp[h2]|.bool _,_=>by simp[h2]|.int _,_=>by simp[h2]|.str _,_=>by simp[h2]|.list xs,q=>by rw[h2];show DE xs<|by rw[iX]at q;show q|.tuple xs,q=>by rw[h2];show DE xs<|by rw[iX]at q;show q|.dict _,q=>by rw[iX]at q;cases q
theorem DE:∀ds:List lQ,iW ds=Zi->oo ds ds=Zi|[],_=>by rw[oo]|d::ds,q=>by rw[iW,Zs]at q;rw[oo,Jvn d q.1,DE ds q.2];rfl
end
def XH(e:h[i]?=B (.lst xs)):toD h (n+1) (.ref i)=(xs.mapM<|toD h n).map vw:=by change(match h[i]? with|some (.lst xs)=>(xs.mapM<|toD h n).map vw|_=>Ze)=_;rw[e]
end
section
seal L4.run
section
variable{k:Nat}{h:IH}
def Jm5:(ZG "abcdefghijklmnopqrstuvwxyz").cps.toList=(ZK 26).map (97+ ·):=by decide +kernel
def Jm6:(ZG "abcdefghijklmnopqrstuvwxyz").length=26:=by decide +kernel
def Jte(h0:0<=n)(h1:n<26):WR (Jh (.str "abcdefghijklmnopqrstuvwxyz") (.int n) h) Q=Q (.str ⟨#[97+n.toNat]⟩) h:=by
 have O:=J4;have e:bW (ZG "abcdefghijklmnopqrstuvwxyz").cps.toList n=B (97+n.toNat):=by rw[Jm5];calc Ca h0 ?_;rw[Z5,u7 05];rfl
 change WR (if (ZG "abcdefghijklmnopqrstuvwxyz").length<=sizeLine then(match bW (ZG "abcdefghijklmnopqrstuvwxyz").cps.toList n with|some c=>Res.ok (IV.str ⟨#[c]⟩) h|none=>.stuck)else .stuck) Q=_;rw[if_pos (by rw[Jm6];show o9 _ _),e];rfl
def J16(l m:Tq):(⟨l.toArray⟩:Str)++(⟨m.toArray⟩:Str)=⟨(l++m).toArray⟩:=by change Str.append _ _=_;unfold Str.append;simp
def YB(l:Tq):(⟨l.toArray⟩:Str).length=l.length:=by simp[vk]
def Jr0:(ZG "")=(⟨([]:Tq).toArray⟩:Str):=by decide +kernel
noncomputable def j4 (c:Int):Int:=1+c%8
def iJ(c:Int):Int:=c/8%j4 c
def wB(c:Int):Tq:=(ZK (j4 c).toNat).map λj:Nat=>97+(c/(11+(j:Int)*(j:Int))%26).toNat
def wL(c:Int)(q:Nat):Tq:=((wB c).take (iJ c).toNat++[97+((c/64+(q:Int))%26).toNat])++(wB c).drop ((iJ c).toNat+1)
def wd(c:Int)(q:Nat):Str:=⟨(wL c q).toArray⟩
def qB(c):0<j4 c/\j4 c<=8/\0<=iJ c/\iJ c<j4 c:=by
 have j:0<j4 c/\j4 c<=8:=by unfold j4;(rw[zh];show#[(iU (fH _<|oh 01)<|lU _ 01),(ZS _ 01)])
 show#[j.1,j.2,fH _<|oh j.1,ZS _ j.1]
def LB(c):(wB c).length=(j4 c).toNat:=by simp[wB]
def LD(c)(q):(wL c q).length=(j4 c).toNat:=by have:=qB c;simp[wL,LB];show E9<|(Int.toNat_lt_toNat this.1).mpr this.2.2.2
def J2f(c)(q):j2 (wd c q):=by
 have E:=qB c;refine#[?_,?_,?_]
 .rw[wd,YB,LD];omega
 .rw[wd,YB,LD];lia
 .intro x m;have m:x∈wL c q:=by simpa[wd]using m
  have C:∀x∈wB c,97<=x/\x<=122:=λx m=>by let#[j,_,rfl]:=ZY.mp m;lia
  have D:=fH (c/64+(q:Int)) (b:=26) 01;have J:=ZS (c/64+(q:Int)) (b:=26) 01;simp![wL,ZQ,Z8]at m;rcases m with(m|rfl)|m
  .show C x<|nV m
  .lia
  .show C x<|List.mem_of_mem_drop m
def J6e(hp:p<26)(m:q<26)(e:wd c p=wd c q):p=q:=by
 have j:wL c p=wL c q:=by have:(wL c p).toArray=(wL c q).toArray:=congrArg Str.cps e;simpa using this
 have C:(97+((c/64+(p:Int))%26).toNat)=97+((c/64+(q:Int))%26).toNat:=by have:=List.append_cancel_right j;have:=List.append_cancel_left this;simpa using this
 omega
noncomputable def DF (c:Int)(v:IV):IV:=match v with|.int j=>.str ⟨#[97+(c/(11+j*j)%26).toNat]⟩|_=>.ag
def Jp4(l:Tq):QB (l.map λx=>IV.str ⟨#[x]⟩)=B (rG ⟨l.toArray⟩):=by have:=Cf<|rG ⟨l.toArray⟩;rw[<-this];simp[rG];rfl
def J00{l:Tq}(hl:l.length<=8):JoinOk (ZG "") (rG ⟨l.toArray⟩)=Zi:=by
 have O:=J4;have j:(ZG "").length=0:=by decide +kernel
 have:∀(m:Tq) (a:Nat),(m.map λx=>(⟨#[x]⟩:Str)).foldl (λn (x:Str)=>n+x.length+(ZG "").length) a=a+m.length:=by intro m;induction m with|nil=>intro a;rfl|cons x m C=>intro a;rw[ZW,List.foldl_cons,C,j];simp[vk];show nO _ _ _
 have e:(rG ⟨l.toArray⟩).foldl (λn (x:Str)=>n+x.length+(ZG "").length) 0=0+l.length:=this l 0;unfold JoinOk Builtin.Str.tooLong;simp;lia
def letE(ea:a U h=.ok (.str "abcdefghijklmnopqrstuvwxyz") h1)(j:b U h1=.ok (.int n) h1)(n0:0<=n)(n1:n<26):Je Jh a b U h=.ok (.str ⟨#[97+n.toNat]⟩) h1:=by rw[aJ ea j];show Js<|by rw[Jte n0 n1];show#[rfl,rfl]
def LF(ea:a U h=.ok (.str x) h)(m:lo U h=.ok l h)(j:Z U h=.ok u h)(z:x.length<=8)(e:sY x l u=y):kn oK a lo Z U h=.ok (.str y) h:=by have O:=J4;calc Js<|(xh ..).mpr<|Jf ea<|Jf m<|Jf j ?_;rw[J2v,e];show#[Zc (Zq _ 999993)<|Zc (Zh z 999993) O,rfl,rfl]
def uf{x y:Tq}(ea:a U h=.ok (.str ⟨x.toArray⟩) h)(j:b U h=.ok (.str ⟨y.toArray⟩) h)(z:x.length+y.length<=9):Je Jq a b U h=.ok (.str ⟨(x++y).toArray⟩) h:=by have O:=J4;rw[aJ ea j];calc Js ?_;rw[J2j,J16,YB,YB];show#[Zc (Zq _ 999992)<|Zc (Zh z 999992) O,rfl,rfl]
def J2i(c)(q:Nat):WR (xW (k+1) [.int c,.int q] h) λv h'=>v=.str (wd c q)/\Ex h h':=by
 have O:=J4;have m:=qB c;have bl:=LB c;have C:(⟨(wB c).toArray⟩:Str).length=(wB c).length:=YB _;rw[Jmy];refine ak (ae<|aj<|Jf rfl (ae<|aj<|Jf (a:=.int<|j4 c) (aP rfl (bI rfl rfl 01))<|ae<|aj<|(J2n (x:=ZG "") (h1:=h) rfl Jzr).mpr<|xb<|WR.mono (Qr (h:=h) (xs:=aN 0<|j4 c) (aZ:=λ_=>True) (f:=DF c) ?_ (by rw[JG];omega) (λ_ _=>trivial) ?_) ?_))
 .rw[Vn];calc Jf (aq rfl) ?_;rw[Xm];show#[00,rfl,rfl,rfl]
 .intro x Q J S;let#[n,hn,rfl]:=iO.mp Q;rw[Qq,show(0+(n:Int))=(n:Int) by show zh _ _];rw[JG]at hn;have D:n<8:=00;have sq:=(by decide:∀n:Nat,n<8->(n:Int)*(n:Int)<=49/\0<=(n:Int)*(n:Int)) n D;unfold Lk;show Jf (letE rfl (bI (Qv rfl (aP rfl (ft rfl rfl (.inl<|Zc D<|Zq _ 18446744073709551608))) (iU sq.2<|Int.lt_add_of_pos_left _ 01) (DD (b:=60) 00 01)) rfl 01) (fH _ 01) (ZS _ 01)) #[rfl,.refl _]
 .rintro _ _ ⟨rfl,g,rfl⟩;have M:(aN 0<|j4 c).map (DF c)=(wB c).map λx=>IV.str ⟨#[x]⟩:=by
   rw[wB,fy];refine mL (by rw[Zp,Zp,JG,ph];lia) λi h1 J=>?_
   rw[iS,Qq,iS,yV];simp[DF]
  rw[M];have F:Ex h (h++IX.lst ((wB c).map λx=>IV.str ⟨#[x]⟩)::g):=.cons _ _ _;have g1:(h++IX.lst ((wB c).map λx=>IV.str ⟨#[x]⟩)::g)[h.length]?=B (.lst<|(wB c).map λx=>IV.str ⟨#[x]⟩):=J1;generalize h++IX.lst ((wB c).map λx=>IV.str ⟨#[x]⟩)::g=h1 at F g1;have H:Txt.join (ZG "") (rG ⟨(wB c).toArray⟩)=⟨(wB c).toArray⟩:=by rw[Jr0];show(StrLaws.glued_eq_join _ _).trans<|PyProof.Rows.join_nil_signs _
  have I:sY ⟨(wB c).toArray⟩ Ze (B<|iJ c)=⟨((wB c).take (iJ c).toNat).toArray⟩:=by have:=beq_iff_eq.mp (PyProof.Rows.slice_closes_toL (x:=⟨(wB c).toArray⟩) (j:=iJ c) m.2.2.1<|by rw[C,bl];show ZV<|jy m.2.2.2<|Int.self_le_toNat _);rw[this];simp
  have L:sY ⟨(wB c).toArray⟩ (B<|iJ c+1) Ze=⟨((wB c).drop<|(iJ c).toNat+1).toArray⟩:=by have:=beq_iff_eq.mp (PyProof.Rows.slice_closes_fromL (x:=⟨(wB c).toArray⟩) (i:=iJ c+1) (ZV<|iU m.2.2.1<|lU _ 01) (by rw[C,bl];show jy m.2.2.2<|Int.self_le_toNat _) rfl);rw[this];have P:(iJ c+1).toNat=(iJ c).toNat+1:=Int.toNat_add m.2.2.1 01;rw[P,nR (by rw[rq];change _<=((⟨(wB c).toArray⟩:Str).length-(iJ c+1)).toNat;rw[C];simp;omega)]
  have E:(⟨(wB c).toArray⟩:Str).length<=8:=05;have R:=List.length_take_le (iJ c).toNat<|wB c;have U:((wB c).drop<|(iJ c).toNat+1).length<=8-(iJ c).toNat-1:=by rw[rq];(rw[Nat.sub_sub];show Nat.sub_le_sub_right (Zc (Zn C.symm) E) _)
  calc Jf rfl (J2p.mpr #[_,g1,_,Jp4 _,J00 (show(wB c).length<=8 by assumption),?_]);rw[H];refine ae<|aj<|Jf (a:=.int<|iJ c) (bI (Qv rfl rfl 01 01) rfl m.1)<|ax<|Jf (uf (uf (LF rfl rfl rfl E I) (letE rfl (bI (aP (Qv rfl rfl 01 01) rfl) rfl 01) (fH _ 01) (ZS _ 01)) ?_) (LF rfl rfl rfl E L) ?_) #[rfl,F]
  .simp;show Zc (Zc (rh _ _)<|Zn C.symm) E
  .simp;(rw[bl,nP,mI 1,E9<|(Int.toNat_lt_toNat m.1).mpr m.2.2.2];show rg<|Int.toNat_le.mpr m.2.1)
end
end
section
seal L4.run L4.WS
noncomputable abbrev ug (r:RH)(q:Nat):Tw:=[.int r.1.gap,.int r.1.len,.int r.1.aD,.int r.1.af,.ref q]
structure F7(unit:Int)(r:RH):Prop where
 g1:unit<=r.1.gap
 g2:2*r.1.gap<=15*unit
 l1:1<=r.1.len
 d1:1<=r.1.aD
 d2:r.1.aD<=r.1.gap
 t1:0<=r.1.af
 t2:r.1.af<=3*r.1.gap/2
 no:r.2=[]
section
variable{k:Nat}{h:IH}
def J43(D:h[W]?=B (.lst []))(E:h[j]?=B (.lst [])):kY (.ref W) (.ref j) h=.ok (.bl Zl) h:=by
 have m:∀{i:Nat},h[i]?=B (.lst [])->toD h 6 (.ref i)=B (.list []):=λe=>by rw[XH e];rfl
 have C:QG (.ref W) (.ref j) h=B Zi:=by unfold QG;rw[m D,m E];dsimp only;rw[if_pos #[by rw[iX,iW],by rw[iX,iW]],h2,oo]
 unfold kY;rw[show VG (.ref W) (.ref j)=Ze from rfl];dsimp only;rw[C];rfl
def pk(xs:Tp)(hn:(xs.length:Int)=n)(h0:0<n):∃x∈xs,bW (xs.map IV.int) (y%n)=B (.int x):=by have a:=fH y (b:=n)<|oh h0;have b:=ZS y h0;have l:(y%n).toNat<xs.length:=(Int.toNat_lt a).mpr<|jy b<|lV hn.symm;show#[xs[(y%n).toNat],Z9 l,Ca a 03]
def Jw1{c j:Int}{W:Nat}(hu:1<=j)(hu2:j<=10^40)(hW:h[W]?=B (.lst [])):WR (Dc (k+2) [.int c,.int j,.ref W] h) λv h'=>Ex h h'/\∃r q,F7 j r/\v=.tup (ug r q)/\h.length<=q/\h'[q]?=B (.lst<|r.2.map cL):=by
 have O:=J4;rw[Jli];calc ak<|ae<|aj<|xb<|Jf (ar rfl rfl)<|WR.mono (LA (k:=k) (h:=h) c 15 01) ?_;rintro _ X ⟨i,xs,rfl,_,Z,lx,hx,x1⟩;have at_:∀n:Nat,n<15->∃x,0<=x/\bW (xs.map IV.int) (n:Int)=B (.int x):=λn hn=>#[xs[n],(hx _<|Z9 _).1,JN<|by rw[Z5,Zd 05];rfl]
 let#[V,z0,e0]:=at_ 0 01;let#[Y,z1,e1]:=at_ 1 01;let#[F,z2,e2]:=at_ 2 01;let#[y3,z3,e3]:=at_ 3 01;let#[m,z4,e4]:=at_ 4 01;let#[y5,z5,e5]:=at_ 5 01;let#[S,z6,e6]:=at_ 6 01;let#[y7,z7,e7]:=at_ 7 01;clear at_ hx;have b1:j*1<=j*(1+V%7):=vm 05 05;have b2:j*(1+V%7)<=j*7:=vm 05 05;have b3:=fH Y (b:=1+j/2) 05;have b4:=ZS Y (b:=1+j/2) 05;calc ae<|aj<|Jf (aP (ft rfl (aP rfl (bI (aW rfl rfl Z e0) rfl 01)) (.inr<|.inl 05))<|bI (aW rfl rfl Z e1) (aP rfl (Qv rfl rfl 01 01)) 05) ?_;obtain⟨g,eg,g1,g2⟩:∃g,j*(1+V%7)+Y%(1+j/2)=g/\j<=g/\2*g<=15*j:=#[_,rfl,05,05];rw[eg];clear eg b1 b2 b3 b4;have I:(0:Int)<g:=05;have d1:=fH F (b:=g) 05;have d2:=ZS F I;let#[H,hd,ed]:=pk (n:=2) (y:=y3) [0,F%g] rfl 01;have hd:0<=H/\H<g:=by simp![ZA,iR,or_false]at hd;lia
 calc ae<|aj<|Jf (dQ rfl (oO (ar rfl (bI (aW rfl rfl Z e2) rfl I)) rfl (bI (aW rfl rfl (grow Z) e3) rfl 01) ed)) ?_;have U:Ex X (X++[IX.lst [IV.int 0,IV.int<|F%g]]):=.one _ _;generalize X++[IX.lst [IV.int 0,IV.int<|F%g]]=Q at U ⊢;have C:=U.get Z;have t1:=fH m (b:=1+g/3) 05;have t2:=ZS m (b:=1+g/3) 05;have t3:=fH m (b:=1+3*g/2) 05;have t4:=ZS m (b:=1+3*g/2) 05;let#[lt,L,el]:=pk (n:=4) (y:=y5) [0,0,m%(1+g/3),m%(1+3*g/2)] rfl 01;have L:0<=lt/\lt<=3*g/2:=by simp![ZA,iR,or_false]at L;lia
 calc ae<|aj<|Jf (oO (jl rfl rfl (bI (aW rfl rfl C e4) (aP rfl (Qv rfl rfl 01 01)) 05) (bI (aW rfl rfl C e4) (aP rfl (Qv (ft rfl rfl (.inl 01)) rfl 01 01)) 05)) rfl (bI (aW rfl rfl (grow C) e5) rfl 01) el) ?_;have xB:Ex Q (Q++[IX.lst [IV.int 0,IV.int 0,IV.int<|m%(1+g/3),IV.int<|m%(1+3*g/2)]]):=.one _ _;generalize Q++[IX.lst [IV.int 0,IV.int 0,IV.int<|m%(1+g/3),IV.int<|m%(1+3*g/2)]]=P at xB ⊢;have E:=xB.get C;let#[dv,R,ev]:=pk (n:=4) (y:=y7) [1,2,4,9] rfl 01;have R:0<dv/\dv<=9:=by simp![ZA,iR,or_false]at R;lia
 obtain⟨M,eM,M1,M2⟩:∃M:Int,(if g/dv>1 then g/dv else 1)=M/\1<=M/\M<=g:=by
  have:g/dv<=g:=Int.ediv_le_self _ 05;split
  .show#[_,rfl,05,this]
  .show#[_,rfl,05,05]
 have s1:=fH S (b:=M) 05;have s2:=ZS S (b:=M) 05;calc ae<|aj<|Jf (aP rfl (bI (aW rfl rfl E e6) (fU (qr rfl (Qv rfl (oO (jl rfl rfl rfl rfl) rfl (bI (aW rfl rfl (grow E) e7) rfl 01) ev) R.1 (DD (b:=9) 05 01)))<|congrArg IV.int eM) 05)) ?_;generalize hlen:1+S%M=len;have xC:Ex P (P++[IX.lst [IV.int 1,IV.int 2,IV.int 4,IV.int 9]]):=.one _ _;generalize P++[IX.lst [IV.int 1,IV.int 2,IV.int 4,IV.int 9]]=J at xC ⊢;have D:=((x1.trans U).trans xB).trans xC;have lC:=D.len;have xD:Ex J (J++[IX.lst []]++[IX.lst []]):=(Ex.one _ _).trans<|.one _ _;have gE:(J++[IX.lst []]++[IX.lst []])[J.length]?=B (.lst []):=grow grown;calc ae (aj<|Jf (cK rfl rfl)<|ae<|bJ (cg<|(aJ rfl (cK rfl rfl)).trans<|J43 (xD.get<|D.get hW) grown)<|aK<|ax<|Jf (j0 rfl rfl) #[D.trans xD,#[#[⟨#[]⟩,g,len,g-H,lt],[]],_,#[g1,g2,by change 1<=len;lia,by change 1<=g-H;lia,by change g-H<=g;lia,L.1,L.2,rfl],rfl,05,gE])
end
end
section
seal L4.run L4.WS
abbrev kq(r:RH)(q:Nat):IV:=.tup<|.str r.1.name::ug r q
structure cu(h:IH)(lo:Nat)(ys:Tw)(rs:Ua):Prop where
 len:ys.length=rs.length
 at_:∀(i:Nat) y r,ys[i]?=B y->rs[i]?=B r->∃q,y=kq r q/\q≠lo/\h[q]?=B (.lst<|r.2.map cL)
theorem cu.DG(k:iF lo h h')(w:cu h lo ys rs):cu h' lo ys rs:=#[w.len,λi y r a b=>let ⟨q,e,n,g⟩:=w.at_ i y r a b;#[q,e,n,k _ _ n g]]
theorem cu.kp(k:Kp h h')(w:cu h lo ys rs):cu h' lo ys rs:=w.DG λ_ _ _ q=>k _ _ q
def cu.get(w:cu h lo ys rs){n:Nat}(e:rs[n]?=B r):∃q,ys[n]?=B (kq r q)/\h[q]?=B (.lst<|r.2.map cL):=by
 have hn:n<ys.length:=by rw[w.len];show(Zu.mp e).1
 let#[q,j,_,g]:=w.at_ n _ r (Zd hn) e;show#[q,by rw[Zd hn,j],g]
def cu.snoc{h:IH}{lo q:Nat}{ys:Tw}{rs:Ua}{r:RH}(w:cu h lo ys rs)(n:q≠lo)(g:h[q]?=B (.lst<|r.2.map cL)):cu h lo (ys++[kq r q]) (rs++[r]):=by
 have j:=w.len;calc#[by simp[j],λi y s a b=>?_];by_cases Z:i<ys.length
 .rw[ZE Z]at a;rw[ZE<|sI 06 06]at b;show w.at_ i y s a b
 .have m:=(Zu.mp a).1;rw[ZB,pd]at m;obtain rfl:i=ys.length:=gf (mH m)<|ZO Z;rw[ZN<|Zk _,yO]at a;rw[j,ZN<|Zk _,yO]at b;cases a;cases b;show#[q,rfl,n,g]
structure Dr(c unit:Int)(rs:Ua):Prop where
 u1:1<=unit
 u2:unit<=10^40
 f:∀r∈rs,F7 unit r
 nm:(rs.map λr=>r.1.name)=(ZK rs.length).map (wd c)
theorem F7.to8{j:Int}{r:RH}(f:F7 j r)(hn:j2 r.1.name):F8 j r:=#[hn,f.g1,f.g2,f.l1,f.d1,f.d2,f.t1,f.t2,f.no]
def Dr.gd{c m:Int}{rs:Ua}(D:Dr c m rs)(hl:rs.length<=5):Gd m rs:=by
 refine#[D.u1,D.u2,hl,λr E=>(D.f r E).to8 ?_,?_]
 .have:r.1.name∈(ZK rs.length).map (wd c):=by rw[<-D.nm];show List.mem_map_of_mem E
  let#[j,_,e]:=ZY.mp this;rw[<-e];show J2f c j
 .rw[D.nm,List.Nodup,yW];calc(vc (n:=rs.length)).imp_of_mem λ{a b} ha O C e=>C ?_;show J6e (by have:=fx.mp ha;lia) (by have:=fx.mp O;lia) e
def SQ(h:IH)(v:IV)(h':IH):Prop:=Ex h h'/\∃S lo ys rs c unit,v=.ref S/\h.length<=S/\h'[S]?=B (.lst ys)/\cu h' lo ys rs/\Dr c unit rs/\rs.length<=5
section
variable{k:Nat}{h:IH}
theorem LG(U)(h):Je JK (eC<|.int 10) (eC<|.int 15) U h=.ok (.int<|10^15) h:=Js (by rw[YG,V2,V2,xj];show#[01,rfl,rfl])
theorem e40(U)(h):Je JK (eC<|.int 10) (eC<|.int 40) U h=.ok (.int<|10^40) h:=rfl
def SmI(h hB:IH)(ns:Tp)(x0 unit x1:Int)(W n:Nat)(U:aA)(h':IH):Prop:=∃ys rs g a b,h'=hB++.lst ys::g/\U=[B<|.bX<|ns.map .int,B<|.bl Zl,B<|.int x0,B<|.int unit,B<|.int x1,B<|.ref W,B<|.ref hB.length,a,b]/\cu h' hB.length ys rs/\rs.length=n/\Dr (x1/7) unit rs
def J12(ns:Tp):WR (Dd (k+4) [.bX<|ns.map .int,.bl Zl] h) (SQ h):=by
 have O:=J4;rw[Jmx];have c0:=Ye (k:=k+2) (h:=h) ns 0 01;have c1:=λ(h:IH)=>Ye (k:=k+2) (h:=h) ns 1 01;generalize ns.getD (kG 0) 0=R at c0;generalize ns.getD (kG 1) 0=J at c1;let#[X,Q,eU]:=pk (n:=4) (y:=R) [4,10^15,10^15,10^40] rfl 01;have Q:0<X/\X<=10^40:=by simp![ZA,iR,or_false]at Q;rcases Q with rfl|rfl|rfl|rfl<;>decide +kernel
 have u0:=fH (R/4) (b:=X) 05;have u1:=ZS (R/4) Q.1;have hx:R/4%X<10^40:=jy u1 Q.2;have E:∀{U:aA}{S:IH},Jb '4' (Jb (Je JK (eC<|.int 10)<|eC<|.int 15)<|Jb (Je JK (eC<|.int 10)<|eC<|.int 15)<|Jb (Je JK (eC<|.int 10)<|eC<|.int 40) Jc) U S=.ok [IV.int 4,IV.int<|10^15,IV.int<|10^15,IV.int<|10^40] S:=λ{U S}=>jl rfl (LG U S) (LG U S) (e40 U S);calc ak<|ae<|aj<|Jf (Jr (ar rfl rfl) c0)<|ae<|aj ?_;calc Jf (aP rfl (bI (Qv rfl rfl 01 01) (oO E rfl (bI rfl rfl 01) eU) Q.1)) ?_;calc ae<|aj<|Jf (Jr (ar rfl rfl)<|c1 _)<|ae<|aj<|Jf (cK rfl rfl)<|ae ?_;generalize hu:1+R/4%X=H;have M:1<=H:=05;have P:H<=10^40:=by clear eU;generalize (10:Int)^40=y at hx;lia
 have xA:Ex h (h++[IX.lst [IV.int 4,IV.int<|10^15,IV.int<|10^15,IV.int<|10^40]]++[IX.lst []]):=(Ex.one _ _).trans<|.one _ _;have gA:(h++[IX.lst [IV.int 4,IV.int<|10^15,IV.int<|10^15,IV.int<|10^40]]++[IX.lst []])[(h++[IX.lst [IV.int 4,IV.int<|10^15,IV.int<|10^15,IV.int<|10^40]]).length]?=B (.lst []):=grown;calc bJ (fV rfl)<|aK ?_;generalize (h++[IX.lst [IV.int 4,IV.int<|10^15,IV.int<|10^15,IV.int<|10^40]]).length=W at gA;generalize h++[IX.lst [IV.int 4,IV.int<|10^15,IV.int<|10^15,IV.int<|10^40]]++[IX.lst []]=C at xA gA;obtain⟨m,em⟩:∃m:Nat,J%6=m:=#[(J%6).toNat,05];calc ae<|aj<|Jf (cK rfl rfl)<|ae<|lE (n:=m) (fU (bI rfl rfl 01)<|congrArg IV.int em) 05 ?_;refine Vc (SmI h C ns R H J W) (λ_ _ _ _=>trivial) ?_ ?_ #[[],[],[],Ze,Ze,rfl,rfl,#[rfl,λi y r a b=>by simp at a],rfl,#[M,P,03,rfl]]
 .rintro n hn _ _ ⟨F,rs,g,a,b,rfl,rfl,w,Y,D⟩;rw[Qq];rw[JG]at hn;have hn6:n<6:=05;rw[show(0+(n:Int))=(n:Int) by lia];have gW':(C++IX.lst F::g)[W]?=B (.lst []):=grow gA;calc j1 rfl (ae<|aj<|xb<|Jf (gW (aP (Jr (ar rfl (aP rfl rfl))<|Ye (k:=k+2) ns (2+(n:Int)) 05)<|ft rfl rfl (.inl 01)) rfl rfl)<|WR.mono (Jw1 (k:=k+1) M P gW') ?_);rintro _ h3 ⟨⟨I,rfl⟩,r,q,f,rfl,hq,gq⟩;have e3:C++IX.lst F::g++I=C++IX.lst F::(g++I):=03;calc JM (Qt (i:=C.length) rfl (by rw[e3];show J1) V5 (xb<|xb<|nu<|xb<|xb<|Jf (ar (Qv rfl rfl 01 01) rfl)<|WR.mono (J2i (k:=k+2) (J/7) n) ?_));rintro _ _ ⟨rfl,L,rfl⟩;have e4:C++IX.lst F::g++I++L=C++IX.lst F::(g++I++L):=03;have kB:iF C.length (C++IX.lst F::g) (C++IX.lst F::(g++I++L)):=λj o _ z=>by rw[<-e4];show grow<|grow z
  have w4:=w.DG kB;have gq4:(C++IX.lst F::(g++I++L))[q]?=B (.lst<|r.2.map cL):=by rw[<-e4];show grow gq
  have V:q≠C.length:=by rw[ZB,iP]at hq;lia
  have ly:F.length<=6:=by have:=w.len;lia
  rw[e4];have ea:Jq (.tup [.str<|wd (J/7) n]) (.tup<|ug r q) (C++IX.lst F::(g++I++L))=.ok (kq #[{r.1 with name:=wd (J/7) n},r.2] q) (C++IX.lst F::(g++I++L)):=by simp![Jq];rw[if_pos #[03,03,by simp;lia]];rfl
  calc xb (Jf rfl (Jf rfl #[by change(1:Nat)<=_;lia,xb<|Jf rfl (Jf ea<|xb<|Jf rfl (Jf rfl (iH J1 05 ?_)))]));rw[V0];refine#[F++[kq #[{r.1 with name:=wd (J/7) n},r.2] q],rs++[#[{r.1 with name:=wd (J/7) n},r.2]],g++I++L,_,_,rfl,rfl,?_,by simp[Y],#[M,P,?_,?_]]
  .have kC:iF C.length (C++IX.lst F::(g++I++L)) (C++IX.lst (F++[kq #[{r.1 with name:=wd (J/7) n},r.2] q])::(g++I++L)):=λj o hj z=>by rw[<-V0 (IX.lst F),ZL<|ZP hj];show z
   show(w4.DG kC).snoc V<|kC _ _ V gq4
  .intro s Z;rw[ZQ,Z8]at Z;rcases Z with Z|rfl
   .show D.f s Z
   .show#[f.g1,f.g2,f.l1,f.d1,f.d2,f.t1,f.t2,f.no]
  .rw[kj,D.nm,ZB,pd,yZ,kj,Y];rfl
 .rintro _ _ ⟨F,rs,g,a,b,rfl,rfl,w,Y,D⟩;rw[JG]at Y;have:=xA.len;show ax<|Jf rfl #[xA.trans<|.cons _ _ _,_,_,F,rs,J/7,H,rfl,this,J1,w,D,05]
end
end
section
variable{k:Nat}{h:IH}
def yg(kvs)(k k')(v):bo (putD kvs k v) k'=if k=k' then B v else bo kvs k':=by
 unfold putD;have j:∀l:Wp,(l.any λE=>decide (E.1=k))=(bo l k).isSome:=by
  intro l;induction l with|nil=>rfl|cons p r D=>
   rw[pv,D];by_cases e:p.1=k
   .rw[V1 e];simp[e]
   .rw[Vm e];simp[e]
 split
 .rename_i ha;have C:∀l:Wp,bo (l.map λE=>if E.1=k then(E.1,v)else E) k'=if k=k' then(if (bo l k).isSome then B v else Ze)else bo l k':=by
   intro l;induction l with|nil=>by_cases e:k=k'<;>simp[bo]|cons p r D=>
    rw[ZW];by_cases e:p.1=k
    .rw[if_pos e];by_cases m:k=k'
     .rw[V1 (by rw[<-m];show e),if_pos m,V1 e];rfl
     .rw[Vm (by rw[e];show m),D,if_neg m,if_neg m,Vm<|by rw[e];show m]
    .rw[if_neg e];by_cases m:p.1=k'
     .have:¬k=k':=λz=>e<|m.trans z.symm
      rw[V1 m,if_neg this,V1 m]
     .rw[Vm m,D,Vm e,Vm m]
  rw[C,<-j,ha];simp
 .rename_i ha;have hn:bo kvs k=Ze:=by have:=j kvs;cases q:bo kvs k with|none=>rfl|some z=>rw[q]at this;show absurd this ha
  have C:∀l:Wp,bo (l++[(k,v)]) k'=match bo l k' with|some w=>B w|none=>if k=k' then B v else Ze:=by
   intro l;induction l with
   |nil=>
    by_cases e:k=k'
    .rw[jM,V1 e,if_pos e];rfl
    .rw[jM,Vm e,if_neg e];rfl
   |cons p r D=>
    by_cases e:p.1=k'
    .rw[iQ,V1 e,V1 e]
    .rw[iQ,Vm e,Vm e,D]
  rw[C];by_cases e:k=k'
  .subst e;rw[hn,if_pos rfl]
  .rw[if_neg e,if_neg e];cases bo kvs k'<;>rfl
def DH(Z:h[i]?=B (.aY kvs)):WR (fQ (.int x) (.ref i) h) Q=Q (.bl (bo kvs<|.inl x).isSome) h:=by unfold fQ;simp![Z];rfl
def DI(Z:h[i]?=B (.aY kvs))(e:bo kvs (.inl x)=B v):WR (QT (.ref i) (.int x) h) Q=Q v h:=by unfold QT;simp![Z,iC,e];rfl
def DJ(o i)(v):WS (gJ o i v U h) N R=WR (o U h) λj h1=>WR (i U h1) λm J=>WS (Y7 j m v U J) N R:=by unfold gJ;rw[Vo];congr 1;funext j h1;rw[Vo]
def DK(Z:h[i]?=B (.aY kvs))(hl:kvs.length<sizeLine):WS (Y7 (.ref i) (.int x) v U h) N R=N U (h.set i<|.aY<|putD kvs (.inl x) v):=by unfold Y7;simp![Z,hl];rfl
end
section
seal L4.run
theorem J62:bW (x::y::z::u::v::w::xs) 5=B w:=JN rfl
def dR(r:RH):lQ:=.tuple [.str r.1.name,.int r.1.gap,.int r.1.len,.int r.1.aD,.int r.1.af,.list []]
theorem LH{j:Int}:∀{rs:Ua},(∀r∈rs,F8 j r)->iW (rs.map dR)=Zi
 |[],_=>rfl
 |r::rs,q=>by
  have m:iX (.str r.1.name)=Zi:=by simp![iX];unfold PyData.strOk;rw[<-Array.all_toList,mK];intro c C;have:=(q r Z7).nm.2.2 c C;simp![decide_eq_true_eq];lia
  have e:iX (dR r)=Zi:=by simp![dR,iX,iW]at m ⊢;rw[m];rfl
  rw[ZW,iW,e,LH λb O=>q b<|Zm _ O];rfl
def J7a{h:IH}{j:Int}{lo:Nat}{ys:Tw}{rs:Ua}(f:∀r∈rs,F8 j r)(w:cu h lo ys rs):ys.mapM (toD h 5)=B (rs.map dR):=by
 let#[m,at_]:=w;induction ys generalizing rs with
 |nil=>cases rs with|nil=>rfl|cons _ _=>simp at m
 |cons y ys F=>
  cases rs with
  |nil=>simp at m
  |cons r rs=>
   let#[q,e,_,g]:=at_ 0 y r rfl rfl;rw[(f r Z7).no]at g;have C:toD h 5 y=B (dR r):=by rw[e];change((IV.str r.1.name::ug r q).mapM<|toD h 4).map PyData.tuple=B (dR r);simp![pq,List.mapM_nil,XH g];rfl
   rw[pq,C,F (rs:=rs) (λx D=>f x<|Zm _ D) (by simpa using m) λi H E a b=>at_ (i+1) H E a b];rfl
def cu.rev(w:cu h lo ys rs):cu h lo ys.reverse rs.reverse:=by
 have j:=w.len;calc#[by rw[jw,jw,j],λi y r a b=>?_];have Z:i<ys.length:=by have:=(Zu.mp a).1;rwa [jw]at this
 rw[EO Z]at a;rw[EO 05,<-j]at b;show w.at_ _ y r a b
theorem Gd.rev(G:Gd unit rs):Gd unit rs.reverse:=#[G.u1,G.u2,by rw[jw];show G.dI,λr j=>G.f r<|sR.mp j,by rw[List.map_reverse];show(List.reverse_perm _).nodup_iff.mpr G.nd]
structure Cm where
 at_:Nat
 bO:Int
 af:Int
 len:Int
abbrev _root_.Ub:=List Cm
noncomputable abbrev aI (c:Cm):IV:=.tup [.int c.at_,.int c.bO,.int c.af,.int c.len]
structure DL(rs:Ua)(c:Cm):Prop where
 at_:c.at_<rs.length
 bO:0<=c.bO
 l0:0<=c.af
 l1:c.af<=(rs[c.at_]).1.af
 n1:1<=c.len
 n2:c.len<=(rs[c.at_]).1.len
structure cO(rs:Ua)(cs:Ub):Prop where
 ok:∀c∈cs,DL rs c
 DM:∀(i j:Nat)(a b:Cm),i<j->cs[i]?=B a->cs[j]?=B b->a.at_=b.at_->∀r,rs[a.at_]?=B r->a.bO+r.1.gap<=b.bO
structure LI(kvs:Wp)(cs:Ub):Prop where
 no:∀n:Nat,bo kvs (.inl (n:Int))=Ze->∀c∈cs,c.at_≠n
 yes:∀(n:Nat) v,bo kvs (.inl (n:Int))=B v->∃x,v=.int x/\0<=x/\∀c∈cs,c.at_=n->c.bO<=x
def LJ(v:IV):IV:=match v with|.tup (_::g::_)=>g|_=>.ag
def cu.DN{h:IH}{lo:Nat}{ys:Tw}{rs:Ua}(w:cu h lo ys rs){F:IV->IV}{g:RH->IV}(m:∀r q,F (kq r q)=g r):ys.map F=rs.map g:=by
 have C:=w.len;refine mL (by simp[C]) λi j J=>?_
 rw[Zp]at j J;rw[iS,iS];let#[q,e,_,_]:=w.at_ i _ _ (Zd j)<|Zd J;rw[e];show m _ q
structure RI(h h':IH)(cs:Ub)(kvs:Wp):Prop where
 r:h'[h.length]?=B (.lst<|cs.map aI)
 d:h'[h.length+1]?=B (.aY kvs)
 kp:Kp h h'
theorem RI.ex{h h1 J:IH}{cs:Ub}{kvs:Wp}(R:RI h h1 cs kvs)(x:Ex h1 J):RI h J cs kvs:=#[x.get R.r,x.get R.d,R.kp.trans x.kp]
def V8{h h':IH}(k:Kp h h'):Ex h h':=by
 calc#[h'.drop h.length,nX λi=>?_];by_cases Z:i<h.length
 .rw[ZE Z,Zd Z];show k i _<|Zd Z
 .rw[ZN 05,List.getElem?_drop];congr 1;lia
theorem RI.ex0{h h1:IH}{cs:Ub}{kvs:Wp}(R:RI h h1 cs kvs):Ex h h1:=V8 R.kp
section
variable{k:Nat}{h:IH}
def Jnd{S j lo:Nat}{ys:Tw}{rs:Ua}(I:h[S]?=B (.lst ys))(w:cu h lo ys rs){m:Int}(q:∀r∈rs,F8 m r)(E:h[j]?=B (.lst [])):kX (.ref S) (.ref j) h=.ok (.bl rs.isEmpty) h:=by
 have H:toD h 6 (.ref S)=B (.list<|rs.map dR):=by rw[XH I,J7a q w];rfl
 have C:toD h 6 (.ref j)=B (.list []):=by rw[XH E];rfl
 have D:QG (.ref S) (.ref j) h=B rs.isEmpty:=by unfold QG;rw[H,C];dsimp only;rw[if_pos #[by rw[iX];show LH q,by rw[iX,iW]],h2];cases rs with|nil=>rw[vh,oo];rfl|cons a J=>rw[ZW,oo];rfl;all_goals intros;simp_all
 unfold kX;have F:VG (.ref S) (.ref j)=Ze:=rfl;rw[F];dsimp only;rw[D]
def LK(Z:h[i]?=B (.lst<|ms.map .int))(hm:ms≠[]):WR (Vw (.ref i) h) Q=Q (.int<|JL (λi=>ms.getD i 0) ms.length) h:=by unfold Vw;simp![Z,QH,hm];rfl
def DO(h:IH)(C S:Nat)(T:Int)(rs:Ua)(n:Nat)(U:aA)(h':IH):Prop:=∃cs kvs a5 a6 a7 a8 a9 a10 a11 a12 a13 a14 a15,RI h h' cs kvs/\U=[B<|.ref C,B<|.ref S,B<|.ref h.length,B<|.ref<|h.length+1,B<|.int<|3*T,a5,a6,a7,a8,a9,a10,a11,a12,a13,a14,a15]/\cs.length=n/\kvs.length<=n/\cO rs cs/\LI kvs cs
def Jw6{k:Nat}{h h1:IH}{S C n:Nat}{ys:Tw}{rs:Ua}{unit T y:Int}{cs:Ub}{kvs:Wp}{a5 a6 a7 a8 a9 a10 a11 a12 a13 a14 a15:Tf}{P:IV->IH->Prop}(hS:h[S]?=B (.lst ys)){lo:Nat}(w:cu h lo ys rs)(D:Gd unit rs)(pos:0<rs.length)(hn:n<=64)(top:∀r∈rs,r.1.gap<=T)
  (R:RI h h1 cs kvs)(lc:cs.length=n)(lk:kvs.length<=n)(bD:cO rs cs)(Z_:LI kvs cs):
  WS (Ll (k+1) [B<|.ref C,B<|.ref S,B<|.ref h.length,B<|.ref<|h.length+1,B<|.int<|3*T,B<|.int y,a6,a7,a8,a9,a10,a11,a12,a13,a14,a15] h1) (DO h C S T rs<|n+1) P:=by
 have O:=J4;have wl:=w.len;have sl:=J9 hS;calc ae<|aj<|xb<|Jf (ar rfl rfl)<|WR.mono (LA (k:=k) y 6 01) ?_;rintro _ J ⟨X,xs,rfl,_,F,lx,hx,e2⟩;have R:=R.ex e2;match xs,lx,F,hx with
 |[y0,y1,y2,y3,y4,y5],_,F,hx=>
 clear hx;have F:J[X]?=B (.lst [.int y0,.int y1,.int y2,.int y3,.int y4,.int y5]):=F;have pl':(0:Int)<(ys.length:Int):=05;obtain⟨m,em⟩:∃m:Nat,y0%(ys.length:Int)=m:=#[(y0%(ys.length:Int)).toNat,by have:=fH y0 (b:=(ys.length:Int)) 05;lia];have U:m<rs.length:=by have:=ZS y0 pl';lia
 have er:=Zd U;have f:=D.f _<|Z9 U;have tg:=top _<|Z9 U;generalize hrr:rs[m]=r at er f tg;let#[q,ey,_]:=w.get er;have ay:bW ys (m:Int)=B (kq r q):=JN ey;have gS2:=R.kp _ _ hS;have f1:=f.g1;have f2:=f.l1;have f3:=f.t1;have f4:=f.t2;have u1:=D.u1;have g0:0<r.1.gap:=05;have v1:=fH y1 (b:=r.1.af+1) 05;have v2:=ZS y1 (b:=r.1.af+1) 05;have v3:=fH y3 (b:=r.1.gap) 05;have v4:=ZS y3 g0;have v5:=fH y3 (b:=1+r.1.gap) 05;have v6:=fH y5 (b:=r.1.len) 05;have v7:=ZS y5 (b:=r.1.len) 05;let#[wt,Q,ew]:=pk (n:=3) (y:=y2) [r.1.af,0,y1%(r.1.af+1)] rfl 01;let#[sh,sh1,es]:=pk (n:=3) (y:=y4) [0,y3%r.1.gap,0-y3%r.1.gap] rfl 01;let#[mo,mo1,eo]:=pk (n:=2) (y:=y4) [0,y3%(1+r.1.gap)] rfl 01;let#[ll,M,el]:=pk (n:=3) (y:=y4/6) [r.1.len,r.1.len,1+y5%r.1.len] rfl 01;simp![ZA,iR,or_false]at Q sh1 mo1 M;have Q:0<=wt/\wt<=r.1.af:=05;have sh1:0-r.1.gap<sh/\sh<r.1.gap:=05;have mo1:0<=mo:=05;have M:1<=ll/\ll<=r.1.len:=05;clear v1 v2 v3 v4 v5 v6 v7;calc ae<|aj<|Jf (fU (bI (aW rfl rfl F Q5) (dP rfl gS2) pl')<|congrArg IV.int em)<|ae<|(xg ..).mpr<|Jf (aW rfl rfl gS2 ay)<|j1 rfl (ae<|aj<|Jf (oO (gW rfl rfl (bI (aW rfl rfl F QR) (aP rfl rfl) 05)) rfl (bI (aW rfl rfl (grow F) VT) rfl 01) ew) ?_);calc ae<|aj<|Jf (aP (dQ rfl rfl)<|oO (gW rfl (bI (aW rfl rfl (grow F) VU) rfl g0) (dQ rfl (bI (aW rfl rfl (grow F) VU) rfl g0))) rfl (bI (aW rfl rfl (grow<|grow F) xk) rfl 01) es) ?_;have x5:Ex J (J++[IX.lst [IV.int r.1.af,IV.int 0,IV.int<|y1%(r.1.af+1)]]++[IX.lst [IV.int 0,IV.int<|y3%r.1.gap,IV.int<|0-y3%r.1.gap]]):=(Ex.one _ _).trans<|.one _ _;generalize J++[IX.lst [IV.int r.1.af,IV.int 0,IV.int<|y1%(r.1.af+1)]]++[IX.lst [IV.int 0,IV.int<|y3%r.1.gap,IV.int<|0-y3%r.1.gap]]=W at x5 ⊢;have R5:=R.ex x5;have gX5:=x5.get F;have last:∀(h3:IH)(bO:Int),Ex J h3->0<=bO->(∀c∈cs,c.at_=m->c.bO+r.1.gap<=bO) ->
   WS (Jg (eZ 'p'<|gJ 'd' 'h') (JA<|Jo (pg<|k+1) "append" 1 'c'<|Jb (cG<|Jb 'h'<|Jb 'p'<|Jb 'o'<|Jb (Je Jh (J2<|Jb 'k'<|Jb 'k'<|Jb (Je Jq '1'<|Je J0 (Je Jh 'g' '5') 'k') Jc)<|Je J0 (Je JQ (Je Jh 'g' '4') '6') '3') Jc) Jc)
    [B<|.ref C,B<|.ref S,B<|.ref h.length,B<|.ref<|h.length+1,B<|.int<|3*T,B<|.int y,B<|.ref X,B<|.int (m:Int),B<|.str r.1.name,B<|.int r.1.gap,B<|.int r.1.len,B<|.int r.1.aD,B<|.int r.1.af,B<|.ref q,B<|.int wt,B<|.int bO] h3)
    (DO h C S T rs<|n+1) P:=by
   intro h3 bO x3 c0 cf;have R3:=R.ex x3;have ld:h.length+1<h3.length:=J9 R3.d;calc ae<|(xg ..).mpr<|Jf rfl ?_;rw[DJ];calc Jf rfl (Jf rfl ?_);rw[DK R3.d<|show kvs.length<sizeLine by lia];generalize hh4:h3.set (h.length+1) (.aY<|putD kvs (.inl (m:Int))<|.int bO)=h4;have kd:iF (h.length+1) h3 h4:=λj o hj z=>by rw[<-hh4,ZL<|ZP hj];show z
   have gd4:h4[h.length+1]?=B (.aY<|putD kvs (.inl (m:Int))<|.int bO):=by rw[<-hh4,ZM ld]
   have Z:=kd _ _ 05 R3.r;have gX4:h4[X]?=B (.lst [.int y0,.int y1,.int y2,.int y3,.int y4,.int y5]):=by calc kd _ _ (λz=>?_)<|x3.get F;have:=x3.get F;rw[z,R3.d]at this;cases this
   calc JM (Qt rfl Z V5 (Jf (aq<|j0 (jl rfl rfl rfl (oO (gW rfl rfl (aP rfl (bI (aW rfl rfl gX4 J62) rfl 05))) rfl (bI (Qv (aW rfl rfl (grow gX4) xk) rfl 01 01) rfl 01) el)) rfl)<|iH (grow Z) (by rw[Zp];lia) ?_));refine#[cs++[#[m,bO,wt,ll]],putD kvs (.inl (m:Int))<|.int bO,_,_,_,_,_,_,_,_,_,_,_,#[?_,?_,?_],rfl,by simp[lc],?_,#[?_,?_],#[?_,?_]]
   .rw[ZM (by rw[ZB];have:=J9 Z;lia)];simp
   .rw[ZL 05];show grow gd4
   .intro j o z;have lj:=J9 z;rw[ZL 05];show grow<|kd _ _ 05<|R3.kp _ _ z
   .unfold putD;split
    .simp;lia
    .simp;lia
   .intro L E;rw[ZQ,Z8]at E;rcases E with E|rfl
    .show bD.ok L E
    .show#[U,c0,Q.1,by change wt<=(rs[m]).1.af;rw[hrr];show Q.2,M.1,by change ll<=(rs[m]).1.len;rw[hrr];show M.2]
   .intro i j a b hij ha I Y r' H;by_cases hj:j<cs.length
    .rw[ZE hj]at I;rw[ZE 05]at ha;show bD.DM i j a b hij ha I Y r' H
    .have lj:=(Zu.mp I).1;rw[ZB,pd]at lj;obtain rfl:j=cs.length:=05;rw[ZN<|Zk _,yO]at I;cases I;rw[ZE 05]at ha;have:r'=r:=by rw[Y]at H;have H:rs[m]?=B r':=H;rw[er]at H;cases H;rfl
     rw[this];show cf a (u4 ha) Y
   .intro n' e L E;rw[yg]at e;split at e
    .cases e
    .rename_i V;rw[ZQ,Z8]at E;rcases E with E|rfl
     .show Z_.no n' e L E
     .show λz=>V (by rw[show m=n' from z])
   .intro n' v e;rw[yg]at e;split at e
    .rename_i heq;cases e;have en:(m:Int)=n':=Sum.inl.inj heq;have en:m=n':=05;calc#[bO,rfl,c0,λL E ec=>?_];rw[ZQ,Z8]at E;rcases E with E|rfl
     .have:=cf L E<|by rw[ec,en]
      lia
     .show ZJ _
    .rename_i V;let#[x,e1,e2,e3]:=Z_.yes n' v e;calc#[x,e1,e2,λL E ec=>?_];rw[ZQ,Z8]at E;rcases E with E|rfl
     .show e3 L E ec
     .show absurd (by rw[show m=n' from ec]) V
 cases ev:bo kvs (.inl (m:Int))with
 |none=>
  have eI:fQ (.int (m:Int)) (.ref<|h.length+1) W=.ok (.bl Zl) W:=Js<|by rw[DH R5.d,ev];show#[rfl,rfl]
  show ae<|bJ (cg<|(aJ rfl rfl).trans eI)<|aK<|last W (3*T-wt+sh) x5 05 λL E z=>absurd z<|Z_.no m ev L E
 |some v=>
  let#[x,rfl,x0,xc]:=Z_.yes m v ev;have eI:fQ (.int (m:Int)) (.ref<|h.length+1) W=.ok (.bl Zi) W:=Js<|by rw[DH R5.d,ev];show#[rfl,rfl]
  have eX:QT (.ref<|h.length+1) (.int (m:Int)) W=.ok (.int x) W:=Js<|by rw[DI R5.d ev];show#[rfl,rfl]
  calc ae<|qt (cg<|(aJ rfl rfl).trans eI)<|aj<|Jf (aP (aP ((aJ rfl rfl).trans eX) rfl)<|oO (ar rfl (bI (aW rfl rfl gX5 VU) (aP rfl rfl) 05)) rfl (bI (aW rfl rfl (grow gX5) xk) rfl 01) eo) ?_;show last _ (x+r.1.gap+mo) (x5.trans<|.one _ _) 05 λL E z=>by have:=xc L E z;lia
def J5l{S C lo:Nat}{cells:Tp}{ys:Tw}{rs:Ua}{H:Int}(hS:h[S]?=B (.lst ys))(w:cu h lo ys rs)(D:Gd H rs)(hC:h[C]?=B (.lst<|cells.map .int))(hc:cells.length<=64):
  WR (De (k+2) [.ref C,.ref S] h) λv h'=>∃R cs,v=.ref R/\h.length<=R/\h'[R]?=B (.lst<|cs.map aI)/\cO rs cs/\cs.length<=cells.length/\Ex h h':=by
 have O:=J4;have wl:=w.len;have hr:=D.dI;have L:Ex h (h++[IX.lst []]++[IX.aY []]++[IX.lst []]):=(Ex.one _ _).trans<|(Ex.one _ _).trans<|.one _ _;rw[Jpi];calc ak<|ae<|aj<|Jf (cK rfl rfl)<|ae<|aj<|Jf rfl (ae ?_);have e0:=Jnd (L.get hS) (w.kp L.kp) D.f grown;cases rs with|nil=>show qt (cg<|(aJ rfl (cK rfl rfl)).trans e0) (ax<|Jf rfl #[_,[],rfl,Zk _,grow<|grow grown,#[03,λi j a b _ e=>by simp at e],03,L])|cons r0 E=>
 have m:0<(r0::E).length:=03;calc bJ (cg<|(aJ rfl (cK rfl rfl)).trans e0)<|aK<|ae<|aj ?_;generalize r0::E=rs at *;have gm:=w.DN (F:=LJ) (g:=λr=>IV.int r.1.gap) λr q=>rfl
 have I:=L.get hS;calc xb<|Jf rfl (xb<|xb<|xb ?_);refine WR.mono (Qr (h:=h++[IX.lst []]++[IX.aY []]++[IX.lst []]) (xs:=ys) (aZ:=λh'=>h'[S]?=B (.lst ys)) (f:=LJ) ?_ 05 (λJ q=>q _ _ I) ?_) ?_
 .rw[Qc];show Jf rfl ((Qs _).mpr #[_,I,rfl,rfl,rfl])
 .intro v hv J q;let#[n,hn,rfl]:=iO.mp hv;let#[q,e,_,_]:=w.at_ n _ _ (Zd hn) (Zd<|show n<rs.length by lia);rw[e];show Jf (bp rfl rfl QR) #[rfl,.refl _]
 rintro _ _ ⟨rfl,g,rfl⟩;have em:rs.map (λr=>IV.int r.1.gap)=(rs.map λr=>r.1.gap).map IV.int:=03;rw[gm,em];have hm:(rs.map λr=>r.1.gap)≠[]:=λe=>by rw[yS]at e;rw[e]at m;simp at m
 have W:Ex (h++[IX.lst []]++[IX.aY []]++[IX.lst []]) (h++[IX.lst []]++[IX.aY []]++[IX.lst []]++IX.lst ((rs.map λr=>r.1.gap).map IV.int)::g):=.cons _ _ _;calc xb<|Jf rfl (Jf rfl ?_);rw[HU,LK J1 hm];have top:∀r∈rs,r.1.gap<=JL (λi=>(rs.map λr=>r.1.gap).getD i 0) (rs.map λr=>r.1.gap).length:=λr hr=>by
  let#[j,hj,rfl]:=iO.mp hr;have:=Ci (λi=>(rs.map λr=>r.1.gap).getD i 0) (rs.map λr=>r.1.gap).length j<|by simpa using hj
  have e:(rs.map λr=>r.1.gap).getD j 0=(rs[j]).1.gap:=by rw[Zv,Z5,Zd hj];rfl
  rw[<-e];show this
 generalize JL (λi=>(rs.map λr=>r.1.gap).getD i 0) (rs.map λr=>r.1.gap).length=T at top;have gR:(h++[IX.lst []]++[IX.aY []]++[IX.lst []]++IX.lst ((rs.map λr=>r.1.gap).map IV.int)::g)[h.length]?=B (.lst []):=W.get<|grow<|grow grown;have M:(h++[IX.lst []]++[IX.aY []]++[IX.lst []]++IX.lst ((rs.map λr=>r.1.gap).map IV.int)::g)[(h++[IX.lst []]).length]?=B (.aY []):=W.get<|grow grown;have lD:(h++[IX.lst []]).length=h.length+1:=03;rw[lD]at M ⊢;have k2:Kp h (h++[IX.lst []]++[IX.aY []]++[IX.lst []]++IX.lst ((rs.map λr=>r.1.gap).map IV.int)::g):=(L.trans W).kp;generalize h++[IX.lst []]++[IX.aY []]++[IX.lst []]++IX.lst ((rs.map λr=>r.1.gap).map IV.int)::g=hA at gR M k2 ⊢;calc ua (.inl 01)<|ae<|jo ?_;rw[Qc];calc Jf rfl ((Qs _).mpr #[_,k2 _ _ hC,?_]);refine Vc (DO h C S T rs)
  (λn U h' q=>by let#[_,_,_,_,_,_,_,_,_,_,_,_,_,R,_]:=q;show R.kp _ _ hC) ?_ ?_ #[[],[],Ze,Ze,Ze,Ze,Ze,Ze,Ze,Ze,Ze,Ze,Ze,#[gR,M,k2],rfl,rfl,Zk _,#[03,λi j a b _ e=>by simp at e],#[03,λn v e=>by cases e]]
 .rintro n hn _ h1 ⟨cs,Q,a5,a6,a7,a8,a9,a10,Y,a12,Z,V,X,R,rfl,P,lk,bD,Z_⟩;rw[Zp]at hn;rw[iS];show j1 rfl (Jw6 (a5:=a5) hS w D m 05 top R P lk bD Z_)
 .rintro _ h1 ⟨cs,Q,a5,a6,a7,a8,a9,a10,Y,a12,Z,V,X,R,rfl,P,lk,bD,Z_⟩;rw[Zp]at P;show ax<|Jf rfl #[_,cs,rfl,Zk _,R.r,bD,05,R.ex0]
end
end
section
seal L4.run L4.WS
theorem LL(f):∀(n j:Nat),j<n->QE f n<=f j
 |0,j,h=>absurd 06<|rj _
 |1,j,h=>by
  have:j=0:=by show sG 06
  subst this;show ZJ _
 |n+2,j,h=>by
  rw[A5 f ((gZ _):0<n+1)];by_cases e:j=n+1
  .lia
  .have:=LL f (n+1) j<|ju (mH h) e;split<;>(first|show eN (ZV 06) 06|assumption|lia)
theorem LM(f):∀(n:Nat),0<n->∃j,j<n/\QE f n=f j
 |0,h=>absurd 06<|i3 _
 |1,_=>#[0,06,rfl]
 |n+2,_=>by
  rw[A5 f ((gZ _):0<n+1)];let#[j,m,e]:=LM f (n+1)<|gZ _;split
  .lia
  .show#[j,jv 06,e]
section
variable{h:IH}
def LN(Z:h[i]?=B (.lst<|ns.map .int))(hn:ns≠[]):WR (VD (.ref i) h) Q=Q (.int<|QE (λi=>ns.getD i 0) ns.length) h:=by unfold VD;simp![Z,QH];rw[if_neg hn];rfl
theorem yh:(([("works",a)]:Wo)).lookup ("size":Str)=Ze:=02
theorem yi{vs:Tw}{D k:Nat}(hD:h[D]?=B (.ins "Duty"<|ny vs)):C8 (k+1) [.ref D] h=.ok (.int vs.length) h:=Js<|by rw[Jk9];show ak<|ax<|Jf ((iG<|aq<|ao rfl hD oQ).trans rfl) #[rfl,rfl]
variable{k:Nat}
theorem mB(hD:h[D]?=B (.ins "Duty"<|ny vs))(C:o U h=.ok (.ref D) h)(E:e U h=.ok (.int n) h)(m:bW vs n=B (.ref j)):Jo (pg<|k+1) "work" 1 o (Jb e Jc) U h=.ok (.ref j) h:=dS C hD Lx (Lq _) (aq E)<|Ly hD m
abbrev No(rs:Ua):Prop:=∀r∈rs,r.2=[]
def DP(d:bK h D rs)(hl:rs.length<=12)(no:No rs):WR (XQ (k+2) [.ref D] h) λv h'=>∃i,v=.ref i/\h'[i]?=B (.aY [])/\Ex h h':=by
 let#[P,I,w]:=d;have O:=w.len;have C:Ex h (h++[IX.aY []]):=.one _ _;rw[Jmu];calc ak (ae<|aj<|Jf rfl (ae<|lE (n:=rs.length) (fU (dS rfl (C.get I) yh (yb _) rfl (yi<|C.get I))<|by rw[O]) 05 ?_));refine Vc (λn U h'=>∃a b,Ex (h++[.aY []]) h'/\U=[B<|.ref D,B<|.ref h.length,a,b]) (λ_ _ _ _=>trivial) ?_ ?_ #[Ze,Ze,.refl _,rfl]
 .rintro n hn _ M ⟨a,b,m,rfl⟩;rw[Qq,show(0:Int)+(n:Int)=(n:Int) by lia];rw[JG]at hn;have F:n<rs.length:=05;let#[j,J,H]:=w.get<|Zd F;have L:=no _<|Z9 F;have H:h[j]?=B (.ins "Work"<|eP _ _ _ _ _<|(rs[n]).2.map cL):=H;rw[L]at H;have E:=m.get<|C.get H;calc j1 rfl (jo ?_);rw[Qc];calc Jf (dS (mB (m.get<|C.get I) rfl rfl (JN J)) E yd (ya _) rfl (ye E))<|(Qs _).mpr #[_,grown,?_];simp![vh,JS];rw[if_pos grown,HQ];show#[_,_,m.trans<|.one _ _,rfl]
 .rintro _ M ⟨a,b,m,rfl⟩;show ax<|Jf rfl #[_,rfl,m.get grown,C.trans m]
def LO{d:Int}{r:RH}{w:Nat}(j:h[w]?=B (wo r))(e:r.2=[]):WR (xI (k+2) [.ref w,.int d] h) λv h'=>∃i,v=.ref i/\h'[i]?=B (.lst [])/\Ex h h':=by
 have j:h[w]?=B (.ins "Work"<|eP _ _ _ _ _<|r.2.map cL):=j;rw[e]at j;rw[Jhk];refine ak (ax<|WR.mono (xl (h:=h++[.lst ([]:Tw)]) (xs:=[]) (aZ:=λh'=>h'[h.length]?=B (.lst [])) (p:=λ_=>Zl) (f:=id) ?_ (ZD 01<|ZC J4) (λJ q=>q _ _ grown) (λv m=>by cases m) λv m=>by cases m) ?_)
 .rw[Qc];show Jf (dS rfl j yd (ya _) rfl (ye j))<|(Qs _).mpr #[_,grown,rfl,rfl,rfl]
 .rintro _ _ ⟨rfl,g,rfl⟩;show#[_,rfl,J1,(Ex.one _ _).trans<|.cons _ _ _]
def Jtf{a i:Nat}{t:IV}(m:h[i]?=B (.lst [])):WR (CJ (k+1) [.int (a:Int),.ref i,t] h) λv h'=>v=.int a/\Ex h h':=by have j:Ex h (h++[IX.lst [IV.int (a:Int)]]):=.one _ _;let#[_,_,D,rfl,g,rfl]:=(Qr (it:=Ju 'b') (e:=K5 k) (js:=[2]) (U:=[B<|.int (a:Int),B<|.ref i,B t]) (h0:=h++[IX.lst [IV.int (a:Int)]]) (h:=h++[IX.lst [IV.int (a:Int)]]) (xs:=[]) (aZ:=λh'=>h'[i]?=B (.lst [])) (f:=id) (by rw[Qc];show Jf rfl ((Qs _).mpr #[_,j.get m,rfl,rfl,rfl])) (ZD 01<|ZC J4) (λF q=>q _ _<|j.get m) λv E=>by cases E).eq;have C:Ex (h++[IX.lst [IV.int (a:Int)]]) (h++[IX.lst [IV.int (a:Int)]]++IX.lst ([]:Tw)::g):=.cons _ _ _;have O:=J4;rw[Jsh];calc ak<|ax ?_;rw[HS];calc Jf (aq<|(aJ (cK (aq rfl) rfl) D).trans<|Js<|(Ce ..).mpr #[_,C.get grown,_,J1,by change 1+0<=_;lia,rfl,rfl]) ?_;change WR (VD (.ref _) _) _;rw[show[IV.int (a:Int)]++([]:Tw).map id=([(a:Int)]:Tp).map .int from rfl,LN (ns:=[(a:Int)]) grown 03];show#[rfl,(j.trans C).trans<|.one _ _]
abbrev lJ(D T:Nat):Wo:=[("duty",.ref D),("tops",.ref T)]
abbrev fu(D:Nat):Wo:=[("duty",.ref D)]
theorem op0:bG "duty" a ([]:Wo)=([("duty",a)]:Wo):=02
theorem op1:bG "tops" b ([("duty",a)]:Wo)=([("duty",a),("tops",b)]:Wo):=02
theorem DQ{D T:Nat}:(lJ D T).lookup ("duty":Str)=B (.ref D):=02
theorem ol1{D T:Nat}:(lJ D T).lookup ("tops":Str)=B (.ref T):=02
theorem olr{D T:Nat}:(lJ D T).lookup ("rank_of":Str)=Ze:=02
theorem olh{D T:Nat}:(lJ D T).lookup ("holds":Str)=Ze:=02
theorem DR:(fu D).lookup ("duty":Str)=B (.ref D):=02
theorem LP:(fu D).lookup ("rank_of":Str)=Ze:=02
theorem LQ:(fu D).lookup ("holds":Str)=Ze:=02
def dF(h:IH)(kind:Int)(bE:Nat)(rs:Ua):Prop:=∃D,bK h D rs/\No rs/\((kind=0/\h[bE]?=B (.ins "ByDue"<|fu D))\/(kind=2/\h[bE]?=B (.ins "ByComing"<|fu D))\/(kind=1/\∃T,h[bE]?=B (.ins "ByRank"<|lJ D T)))
def dF.kp{h h':IH}{kind:Int}{bE:Nat}{rs:Ua}(k:Kp h h')(o:dF h kind bE rs):dF h' kind bE rs:=by let#[D,d,n,o]:=o;show#[D,d.kp k,n,o.imp (λ⟨a,b⟩=>#[a,k _ _ b])<|Or.imp (λ⟨a,b⟩=>#[a,k _ _ b]) λ⟨a,T,b⟩=>#[a,T,k _ _ b]]
def DS(j:h[bE]?=B (.ins c [])):XM (k+1) [.ref bE,.ref D] h=.ok .ag (h.set bE<|.ins c<|fu D):=by calc Js ?_;rw[Jjf];calc ak<|Qk rfl rfl j 01 ?_;rw[op0];show#[rfl,rfl]
def J7x(ea:a U h=.ok (.ref i) h1)(g:h1[i]?=B (.aY kvs)):bt (bu Xd) (Jb a Jc) U h=.ok (.int kvs.length) h1:=by calc(iG<|aq ea).trans ?_;change Xd (.ref i) h1=_;unfold Xd;simp![g]
def DT(d:bK h D rs)(hl:rs.length<=12)(no:No rs):WR (XW (k+3) [.ref D] h) λv h'=>v=.ag/\Ex h h':=by let#[_,E,m,i,rfl,C,j]:=(DP (k:=k) d hl no).eq;rw[Jgj];show ak<|bJ (fU (jk (J7x (Jr (aq rfl) m) C) rfl) rfl)<|aK #[rfl,j]
def Jvj(d:bK h D rs)(hl:rs.length<=12)(no:No rs):WR (XL (k+4) [.ref h.length,.ref D]<|h++[.ins "ByDue" []]) λv h'=>v=.ag/\Ex h h'/\dF h' 0 h.length rs:=by let#[_,_,m,rfl,g,rfl]:=(DT (k:=k) (d.kp (Ex.one h<|IX.ins "ByDue" []).kp) hl no).eq;have C:(h++[IX.ins "ByDue" []]++g)[h.length]?=B (.ins "ByDue" []):=grow grown;have j:=DS (k:=k+2) (D:=D) C;rw[hX,iQ,jM,V0]at j;rw[hX,iQ,jM]at m;rw[Jje];show ak<|ae<|JM<|Jf (Jr (aq rfl) m)<|JM<|Jf (Jr (ar rfl rfl) j) #[rfl,.cons _ _ _,D,d.kp (Ex.cons _ _ _).kp,no,.inl #[rfl,J1]]
def Jmq(d:bK h D rs)(hl:rs.length<=12)(no:No rs):WR (xP (k+4) [.ref h.length,.ref D]<|h++[.ins "ByComing" []]) λv h'=>v=.ag/\Ex h h'/\dF h' 2 h.length rs:=by let#[_,_,m,rfl,g,rfl]:=(DT (k:=k) (d.kp (Ex.one h<|IX.ins "ByComing" []).kp) hl no).eq;have C:(h++[IX.ins "ByComing" []]++g)[h.length]?=B (.ins "ByComing" []):=grow grown;have j:=DS (k:=k+2) (D:=D) C;rw[hX,iQ,jM,V0]at j;rw[hX,iQ,jM]at m;rw[Jey];show ak<|ae<|JM<|Jf (Jr (aq rfl) m)<|JM<|Jf (Jr (ar rfl rfl) j) #[rfl,.cons _ _ _,D,d.kp (Ex.cons _ _ _).kp,no,.inr<|.inl #[rfl,J1]]
def Jtw{D:Nat}{rs:Ua}(d:bK h D rs)(hl:rs.length<=12)(no:No rs):WR (xO (k+4) [.ref h.length,.ref D]<|h++[.ins "ByRank" []]) λv h'=>v=.ag/\Ex h h'/\dF h' 1 h.length rs:=by
 have C:Ex h (h++[IX.ins "ByRank"<|fu D]):=.one _ _;have d1:=d.kp C.kp;let#[_,_,m,t,rfl,_,g,rfl]:=(DP (k:=k+1) d1 hl no).eq;have j:=DS (k:=k+2) (h:=h++[.ins "ByRank" []]) (D:=D) grown;rw[Xl]at j;rw[Jhf];calc ak (ae<|JM<|Jf (Jr (ar rfl rfl) j)<|Qk (Jr (aq rfl) m) rfl (grow grown) (by change(1:Nat)<1000;decide) ?_);rw[op1];have e:(h++[IX.ins "ByRank"<|fu D]++g).set h.length (.ins "ByRank"<|lJ D t)=h++.ins "ByRank" (lJ D t)::g:=by rw[hX,iQ,jM,V0]
 rw[e];show#[rfl,.cons _ _ _,D,d.kp (Ex.cons _ _ _).kp,no,.inr<|.inr #[rfl,t,J1]]
def uh(hd:bK h D rs)(ha:c.at_<rs.length):Xp (k+2) [.ref D,aI c] h=.ok (.int<|c.bO+(rs[c.at_]).1.aD) h:=by let#[H,m,w]:=hd;let#[j,C,E]:=w.get<|Zd ha;have F:=JN C;calc Js ?_;rw[Jsg];show ak<|ax<|Jf (aP (bp rfl rfl QR)<|ao (mB m rfl (bp rfl rfl Q5) F) E lG) #[rfl,rfl]
def XZ(kind:Int)(rs:Ua)(c:Cm):Int:=if kind=0 then c.bO+(rs.getD c.at_ rd).1.aD else if kind=1 then c.at_ else c.bO
def yj{rs:Ua}(hn:n<rs.length):rs.getD n rd=rs[n]:=by simp_all
variable{kind d:Int}{bE D T:Nat}{rs:Ua}{c:Cm}{oe e1 e2:E1}{U:aA}
def DU(o:dF h kind bE rs):∃C,bK h C rs/\∀(e:E1) (U:aA),e U h=.ok (.ref bE) h->Jk "duty" e U h=.ok (.ref C) h:=by
 obtain⟨D,hd,_,⟨_,j⟩|⟨_,j⟩|⟨_,T,j⟩⟩:=o
 .show#[D,hd,λe U m=>ao m j DR]
 .show#[D,hd,λe U m=>ao m j DR]
 .show#[D,hd,λe U m=>ao m j DQ]
def Jq8(hd:bK h D rs)(no:No rs)(m:h[bE]?=B (.ins "ByRank"<|lJ D T))(ha:c.at_<rs.length):WR (CW (k+3) [.ref bE,aI c,.int d] h) λv h'=>v=.int c.at_/\Ex h h':=by let#[P,I,w]:=hd;let#[j,L,F]:=w.get<|Zd ha;let#[_,Q,O,i,rfl,H,C]:=(LO (k:=k) (d:=d) F<|no _<|Z9 ha).eq;let#[_,J,E,rfl,M]:=(Jtf (k:=k+1) (a:=c.at_) (t:=.ref T) H).eq;rw[Jd4];show ak<|ax<|Jf (Jr (gW (bp rfl rfl Q5) (Jr (ar (mB I (ao rfl m DQ) (bp rfl rfl Q5)<|JN L) rfl) O)<|ao rfl (C.get m) ol1) E) #[rfl,C.trans M]
def Jkm(hd:bK h D rs)(no:No rs)(m:h[bE]?=B (.ins "ByRank"<|lJ D T))(ha:c.at_<rs.length):WR (CY (k+3) [.ref bE,aI c,.int d] h) λv h'=>v=.bl Zl/\Ex h h':=by let#[L,F,w]:=hd;let#[j,I,C]:=w.get<|Zd ha;let#[_,M,J,i,rfl,E,H]:=(LO (k:=k) (d:=d) C<|no _<|Z9 ha).eq;rw[Jgg];show ak<|ax<|Jf ((aJ (dP (Jr (ar (mB F (ao rfl m DQ) (bp rfl rfl Q5)<|JN I) rfl) J) E) rfl).trans rfl) #[rfl,H]
theorem Jva(hd:bK h D rs)(j:h[bE]?=B (.ins "ByDue"<|fu D))(ha:c.at_<rs.length):CZ (k+3) [.ref bE,aI c,.int d] h=.ok (.int<|c.bO+(rs[c.at_]).1.aD) h:=Js (by rw[Jez];show ak<|ax<|Jf (Jr (ar (ao rfl j DR) rfl)<|uh (k:=k) hd ha) #[rfl,rfl])
theorem LR:xN (k+1) [.ref bE,v,w] h=.ok (.bl Zl) h:=Js<|by rw[Jhg];show ak<|ax<|Jf rfl #[rfl,rfl]
variable(o:dF h kind bE rs)(ho:oe U h=.ok (.ref bE) h)(h1:e1 U h=.ok (aI c) h)(J:e2 U h=.ok (.int d) h)(ha:c.at_<rs.length)
include o ho h1 J ha
def Jo1:WR (Jo (pg<|k+3) "rank_of" 2 oe (Jb e1<|Jb e2 Jc) U h) λv h'=>v=.int (XZ kind rs c)/\Ex h h':=by
 obtain⟨D,hd,no,⟨rfl,j⟩|⟨rfl,j⟩|⟨rfl,T,j⟩⟩:=o
 .show Qo ho j LP (Jex _) (Jf (ar h1 J)<|Jf (Jva hd j ha) #[by rw[XZ,yj ha];rfl,.refl _])
 .show Qo ho j LP (Jct _) (Jf (ar h1 J) (by change WR (C0 (k+3) [.ref bE,aI c,.int d] h) _;rw[Jcv];show ak<|ax<|Jf (bp rfl rfl QR) #[rfl,.refl _]))
 .show Qo ho j olr (Jd2 _)<|Jf (ar h1 J)<|Jq8 hd no j ha
def Jmb:WR (Jo (pg<|k+3) "holds" 2 oe (Jb e1<|Jb e2 Jc) U h) λv h'=>v=.bl Zl/\Ex h h':=by
 obtain⟨D,hd,no,⟨rfl,j⟩|⟨rfl,j⟩|⟨rfl,T,j⟩⟩:=o
 .show Qo ho j LQ (Jha _)<|Jf (ar h1 J)<|Jf LR #[rfl,.refl _]
 .show Qo ho j LQ (Jd0 _)<|Jf (ar h1 J)<|Jf LR #[rfl,.refl _]
 .show Qo ho j olh (Jgb _)<|Jf (ar h1 J)<|Jkm hd no j ha
end
end
def cd:Cm:=#[0,0,0,0]
def cS(kind:Int)(rs:Ua)(cs:Ub)(n:Nat):Tp:=[XZ kind rs<|cs.getD n cd,1,(n:Int)]
def qD(kind:Int)(rs:Ua)(cs:Ub)(v:IV):Tp:=match v with|.int x=>cS kind rs cs x.toNat|_=>[0,0,0]
theorem LS:∀{a b:Tp},a.length=b.length->cX a b=Zl->cX b a=Zl->a=b
 |[],[],_,_,_=>rfl
 |a::as,b::bs,l,h1,J=>by
  unfold cX at h1 J;by_cases e:a=b
  .subst e;rw[if_pos rfl]at h1 J;rw[LS (by simpa using l) h1 J]
  .lia
 |[],_::_,l,_,_=>by simp at l
 |_::_,[],l,_,_=>by simp at l
section
variable{k:Nat}{h:IH}
def J2k(j:xs≠[])(m:ys≠[])(hl:xs.length+ys.length<=sizeLine):WR (Jq (.tup xs) (.tup ys) h) Q=Q (.tup<|xs++ys) h:=by unfold Jq;dsimp only;rw[if_pos #[j,m,hl]];rfl
theorem ols{D T:Nat}:(lJ D T).lookup ("standing":Str)=Ze:=02
theorem LU:(fu D).lookup ("standing":Str)=Ze:=02
theorem olp{D T:Nat}:(lJ D T).lookup ("pick":Str)=Ze:=02
theorem LV:(fu D).lookup ("pick":Str)=Ze:=02
abbrev LX(kind:Int)(rs:Ua)(c:Cm):IV:=.tup [.int<|XZ kind rs c,.int 1]
section
seal L4.run L4.WS
def Jng{kind:Int}{bE:Nat}{rs:Ua}{c:Cm}{d:Int}(o:dF h kind bE rs)(ha:c.at_<rs.length):WR (XN (k+4) [.ref bE,aI c,.int d] h) λv h'=>v=LX kind rs c/\Ex h h':=by have O:=J4;rw[Jd5];calc ak<|ax<|nu<|xb<|WR.mono (Jo1 (k:=k) (c:=c) (d:=d) o rfl rfl rfl ha) ?_;rintro _ C ⟨rfl,j⟩;calc xb<|xb<|jZ<|xb<|WR.mono (Jmb (k:=k) (c:=c) (d:=d) (o.kp j.kp) rfl rfl rfl ha) ?_;rintro _ J ⟨rfl,m⟩;show#[(λz=>by cases z),λ_=>#[by change 2<=sizeLine;lia,rfl,j.trans m]]
def Jgy{kind:Int}{bE:Nat}{rs:Ua}{c:Cm}{d:Int}{oe e1 e2:E1}{U:aA}(o:dF h kind bE rs)(ho:oe U h=.ok (.ref bE) h)(h1:e1 U h=.ok (aI c) h)(J:e2 U h=.ok (.int d) h)(ha:c.at_<rs.length):WR (Jo (pg<|k+4) "standing" 2 oe (Jb e1<|Jb e2 Jc) U h) λv h'=>v=LX kind rs c/\Ex h h':=by
 have m:=Jng (k:=k) (d:=d) o ha;obtain⟨D,hd,_,⟨rfl,j⟩|⟨rfl,j⟩|⟨rfl,T,j⟩⟩:=o
 .show Qo ho j LU (Jd1 _)<|Jf (ar h1 J) m
 .show Qo ho j LU (Jb5 _)<|Jf (ar h1 J) m
 .show Qo ho j ols (Jdi _)<|Jf (ar h1 J) m
def J1m{kind:Int}{bE R W N:Nat}{rs:Ua}{cs:Ub}{ps:Tq}{ds:Tp}(h0:h[1]?=B (.tab "Order.pick"))(o:dF h kind bE rs)(Q:∀c∈cs,c.at_<rs.length)
  (M:h[R]?=B (.lst<|cs.map aI))(I:h[W]?=B (.lst (ps.map λp:Nat=>.int p)))(gN:h[N]?=B (.lst<|ds.map .int))(ld:ds.length=cs.length)(ne:ps≠[])(hp:∀p∈ps,p<cs.length):
  WR (Xn (k+5) [.ref bE,.ref R,.ref W,.ref N] h) λv h'=>∃p∈ps,v=.int (p:Int)/\(∀p'∈ps,cX (cS kind rs cs p') (cS kind rs cs p)=Zl)/\Ex h h':=by
 have O:=J4;rw[Jjg];calc ak<|ax ?_;rw[J2t h0 rfl];refine WR.mono (Juv (kf:=qD kind rs cs) (n:=3) I (by simpa using ne) ?_ ?_) ?_
 .intro y E H C;let#[p,j,rfl]:=ZY.mp E;have D:=hp p j;have ac:bW (cs.map aI) (p:Int)=B (aI cs[p]):=JN<|by rw[Z5,Zd D];rfl
  have F:bW (ds.map IV.int) (p:Int)=B (.int<|ds[p]' 05):=JN<|by rw[Z5,Zd];rfl
  have L:qD kind rs cs (.int (p:Int))=[XZ kind rs cs[p],1,(p:Int)]:=by change cS kind rs cs (kG (p:Int))=_;rw[jN];unfold cS;rw[Zv,Zd D];rfl
  have m:=Q _<|Z9 D;rw[L];generalize cs[p]=c at ac m;generalize ds[p]' 05=d at F;calc xb<|WR.mono (Jgy (k:=k) (o.kp C.kp) rfl (aW rfl rfl (C.get M) ac) (aW rfl rfl (C.get gN) F) m) ?_;rintro _ J ⟨rfl,P⟩;calc xb<|Jf (j0 (aq rfl) rfl) ?_;rw[J2k 03 03<|by simp;lia];show#[rfl,P]
 .intro y E;let#[p,j,rfl]:=ZY.mp E;rfl
 .rintro v H ⟨S,le,C⟩;let#[p,j,rfl]:=ZY.mp S;calc#[p,j,rfl,λp' q=>?_,C];have:=le _<|ZY.mpr #[p',q,rfl];simpa only[qD,jN]using this
def Jo0{kind:Int}{bE:Nat}{rs:Ua}{oe:E1}{a:A1}{U:aA}{C E m:IV}{P:IV->IH->Prop}(o:dF h kind bE rs)(ho:oe U h=.ok (.ref bE) h)(h1:a U h=.ok [C,E,m] h)(q:WR (Xn k [.ref bE,C,E,m] h) P):
  WR (Jo (pg k) "pick" 3 oe a U h) P:=by
 obtain⟨D,hd,_,⟨rfl,j⟩|⟨rfl,j⟩|⟨rfl,T,j⟩⟩:=o
 .show Qo ho j LV (Ji8 _)<|Jf h1 q
 .show Qo ho j LV (Jew _)<|Jf h1 q
 .show Qo ho j olp (Jhb _)<|Jf h1 q
end
end
section
seal L4.run L4.WS
noncomputable def mC (c:Cm):Int:=c.bO+c.af
def lK(rs:Ua)(c:Cm):Int:=c.bO+(rs.getD c.at_ rd).1.aD
section
variable{k:Nat}{h:IH}
def LY(ea:a U h=.ok (.int i) h1)(C:b U h1=.ok (.int j) J)(m:c U J=.ok (.int l) h3)(t1:i<=j)(t2:j<=l):JU fA fA a b c U h=.ok (.bl Zi) h3:=by unfold JU;rw[ea];dsimp only[Res.bind];rw[C];change(match IV.bl (decide (i<=j))with|.bl Zi=>_|.bl Zl=>_|_=>_)=_;rw[decide_eq_true t1];rw[m];change Res.ok (IV.bl<|decide (j<=l)) h3=_;rw[decide_eq_true t2]
def Jwd(hd:bK h D rs)(ok:DL rs c):WR (Ct (k+3) [.ref D,aI c] h) λv h'=>v=.bl Zi/\Ex h h':=by
 have O:=J4;let#[W,P,w]:=hd;have V:=w.len;let#[a,b,c,d]:=c;let#[q1,L,S,m,M,C]:=ok;have q1:=q1;let#[j,ev,H]:=w.get<|Zd q1;have Q:=JN ev;have m:=m;have C:=C;generalize rs[a]=r at H m C;rw[Jlg];calc ak<|ae<|bJ rfl (aK<|ae ?_);let#[_,_,R,rfl,g,rfl]:=(Qr (it:=Ju 'b') (e:=KR<|k+2) (U:=[B<|.ref D,B<|aI #[a,b,c,d],Ze]) (f:=λ_=>.bl Zi) #[rfl,rfl,rfl] (by simp;show o9 _ _) (λ_ _=>trivial) (by
  intro v I J q;obtain⟨i,rfl⟩:∃i,v=.int i:=by simp at I;rcases I with rfl|rfl|rfl|rfl<;>show#[_,rfl]
  show Jf (Jr (aq rfl)<|Lu _) #[rfl,.refl _])).eq
 calc bJ (gX (c:=Zi)<|fV<|(iG<|aq R).trans<|all_map J1)<|aK ?_;have E:Ex h (h++IX.lst ([IV.int (a:Int),IV.int b,IV.int c,IV.int d].map λ_=>.bl Zi)::g):=.cons _ _ _;have F:=E.get P;calc ae (bJ (Dt (gX<|cg<|chT rfl (bp rfl rfl Q5) (dS rfl F yh (yb _) rfl (yi F)) (og a) (by rw[V];show zg.mpr 06))<|fU (m3 (bp rfl rfl QR) rfl)<|decide_eq_false<|hi.mpr L)<|aK<|ae<|aj<|Jf (mB F rfl (bp rfl rfl Q5) Q) ?_);show ax<|Jf (Dv (LY rfl (bp rfl rfl VT) (ao rfl (E.get H) j3) S m)<|LY rfl (bp rfl rfl VU) (ao rfl (E.get H) oJ) M C) #[rfl,E]
def J0e(hd:bK h D rs)(X:h[R]?=B (.lst<|cs.map aI))(bD:cO rs cs)(hl:cs.length<=1000):
  WR (Cu (k+4) [.ref D,.ref R] h) λv h'=>v=.ag/\Ex h h':=by
 have O:=J4;let#[vs,hD,w]:=id hd;rw[Jhh];calc ak<|ae<|aj<|Jf rfl (ae<|jo ?_);rw[Vn];calc Jf (aq rfl)<|(HX _).mpr #[_,grow X,?_];refine Vc (λn U h'=>∃m g a b c,h'=h++IX.aY m::g/\U=[B<|.ref D,B<|.ref R,B<|.ref h.length,a,b,c]/\m.length<=n/\∀(a:Nat) v,bo m (.inl (a:Int))=B v->∃i c,i<n/\cs[i]?=B c/\c.at_=a/\v=.int c.bO) ?_ ?_ ?_ #[[],[],Ze,Ze,Ze,rfl,rfl,Zk _,λa v e=>by cases e]
 .rintro _ _ _ ⟨m,g,a,b,c,rfl,_⟩;show grow X
 .rintro n hn _ _ ⟨m,g,a,b,c,rfl,rfl,ln,td⟩;rw[Jz8];have S:n<cs.length:=by simpa[VZ]using hn
  have x1:Ex h (h++IX.aY m::g):=.cons _ _ _;rw[iS];have M:=Zd S;have ok:=bD.ok _<|Z9 S;generalize cs[n]=E at M ok;let#[_,_,e2,rfl,g2,rfl]:=(Jwd (hd.kp x1.kp) ok).eq;calc j1 rfl (ae<|bJ (gX<|fV<|Jr (ar rfl rfl) e2)<|aK<|ae<|aj<|Jf (bp rfl rfl Q5)<|ae ?_);have eh:h++IX.aY m::g++g2=h++IX.aY m::(g++g2):=by rw[hX,iQ]
  rw[eh];have Y:Ex h (h++IX.aY m::(g++g2)):=.cons _ _ _;have Q:=ok.at_;have L:=Zd Q;let#[j,ev,W]:=w.get L;have av:=JN ev;generalize rs[E.at_]=r at L W;have fin:∀{U:aA}(a b c),U=[B<|.ref D,B<|.ref R,B<|.ref h.length,a,b,c]->∃C I a b c,List.set (h++IX.aY m::(g++g2)) h.length (IX.aY<|putD m (.inl (E.at_:Int))<|.int E.bO)=h++IX.aY C::I/\U=[B<|.ref D,B<|.ref R,B<|.ref h.length,a,b,c]/\C.length<=n+1/\∀(a:Nat) v,bo C (.inl (a:Int))=B v->∃i c,i<n+1/\cs[i]?=B c/\c.at_=a/\v=.int c.bO:=by
   intro U a b c hZ;refine#[_,_,_,_,_,V0 _ _ _,hZ,?_,λa v e=>?_]
   .unfold putD;split
    .rw[Zp];show rg 06
    .rw[ZB,pd];show rf 06
   .rw[yg]at e;split at e
    .rename_i z;cases e;show#[n,E,ZX _,M,by have:=Sum.inl.inj z;lia,rfl]
    .let#[i,c,h1,J]:=td a v e;show#[i,c,jv 06,J]
  have F:∀{U:aA}(a b:Tf),U=[B<|.ref D,B<|.ref R,B<|.ref h.length,a,B<|aI E,B<|.int (E.at_:Int)]->∀P,WS (eZ (Je Jh 'e' '1') (gJ 'c' 'f') U<|h++IX.aY m::(g++g2)) (λU h'=>∃m g a b c,h'=h++IX.aY m::g/\U=[B<|.ref D,B<|.ref R,B<|.ref h.length,a,b,c]/\m.length<=n+1/\∀(a:Nat) v,bo m (.inl (a:Int))=B v->∃i c,i<n+1/\cs[i]?=B c/\c.at_=a/\v=.int c.bO) P:=by rintro U a b rfl P;calc(xg ..).mpr<|Jf (bp rfl rfl QR) ?_;rw[DJ];calc Jf rfl (Jf rfl ?_);rw[DK (J1)<|show m.length<sizeLine by show Zc (Zq _ 999001)<|Zc (Zh (Zc (Zc (Zh ln 1) S) hl) 999001) O];show fin _ _ _ rfl
  have V:∀{U:aA}(a b:Tf),U=[B<|.ref D,B<|.ref R,B<|.ref h.length,a,B<|aI E,B<|.int (E.at_:Int)]->Jl aV (Je fQ 'f' 'c') U (h++IX.aY m::(g++g2))=.ok (bo m<|.inl (E.at_:Int)).isSome (h++IX.aY m::(g++g2)):=by rintro U a b rfl;show cg ((aJ rfl rfl).trans<|Js<|by rw[DH J1];show#[rfl,rfl])
  cases H:bo m (.inl (E.at_:Int))with|none=>show bJ (ud<|(V _ Ze rfl).trans<|by rw[H];rfl)<|aK<|F _ Ze rfl _|some l=>
   let#[i,c0,Z,e0,ea,rfl]:=td _ _ H;have DM:=bD.DM i n c0 E Z e0 M ea r<|by rw[ea];show L
   show bJ (uc ((V _ Ze rfl).trans<|by rw[H];rfl)<|fU (m3 (dQ (bp rfl rfl QR)<|(aJ rfl rfl).trans<|Js<|by rw[DI J1 H];show#[rfl,rfl])<|ao (mB (Y.get hD) rfl rfl av) (Y.get W) oP)<|decide_eq_false 05)<|aK<|F _ Ze rfl _
 .rintro _ _ ⟨m,g,a,b,c,rfl,rfl,_⟩;show ax<|Jf rfl #[rfl,.cons _ _ _]
def J3g(hd:bK h D rs)(j:h[R]?=B (.lst<|cs.map aI))(bD:cO rs cs)(hl:cs.length<=200):
  WR (Cv (k+5) [.ref D,.ref R] h) λv h'=>v=.ag/\Ex h h':=by
 rw[Jpb];calc ak (ae<|bJ (fU (jk (dP rfl j) rfl)<|decide_eq_false<|by rw[Zp];lia)<|aK<|ae<|aj<|xb<|Jf (ar rfl rfl)<|WR.mono (J0e hd j bD<|o3 06) ?_);rintro _ C ⟨rfl,m⟩;show bJ rfl (aK #[rfl,m])
theorem LZ:xG (k+1) [aI c] h=.ok (.int<|mC c) h:=Js<|by rw[Jvx];show ak<|ax<|Jf (aP (bp rfl rfl QR)<|bp rfl rfl VT) #[rfl,rfl]
def L1(hd:bK h D rs)(ha:c.at_<rs.length):Xp (k+2) [.ref D,aI c] h=.ok (.int<|lK rs c) h:=by unfold lK;rw[yj ha];show uh hd ha
end
end
def yk(I:Nat->aA->IH->Prop) (j:∀m U h,I m U h->WR (t U h) λc h1=>(c=Zi->∃C,m=C+1/\WS (b U h1) (I C) R)/\(c=Zl->N U h1))(hm:m<1000000)(start:I m U h):WS (Xk t b U h) N R:=by
 have E:∀(n m:Nat)(U:aA)(h:IH),m<n->I m U h->WS (VO t b n U h) N R:=by
  intro n;induction n with|zero=>intro m U h hn _;show absurd 06 (rj _)|succ n O=>
   intro m U h hn L;let#[c,h1,e,q1,F]:=(j m U h L).eq;unfold VO;rw[e];cases c with|false=>show F rfl|true=>let#[C,rfl,w]:=q1 rfl;simp![if_true];cases D:b U h1 with|next H J=>rw[D]at w;show O C H J (Nat.lt_of_succ_lt_succ 06) w|ret v J=>rw[D]at w;show w|_=>rw[D]at w;show w.elim
 have M:YE=1000000:=by unfold YE;rfl
 show E _ m U h (by rw[M];show hm) start
structure Bs where
 ds:Tp
 lr:Tq
 wa:Tq
 t:Int
 sr:Wa
def aS(cs:Ub)(p:Nat):Int:=mC<|cs.getD p cd
def cZ(cs:Ub)(p:Nat):Int:=(cs.getD p cd).len
def jr(rs:Ua)(cs:Ub)(p:Nat):List Hd:=(rs.getD (cs.getD p cd).at_ rd).2
def bR(cs:Ub)(t:Int):Tq->Tq->List Nat×Tq|[],wa=>([],wa)|p::lr,wa=>if aS cs p<=t then bR cs t lr (wa++[p])else(p::lr,wa)
def bZ(cs:Ub)(s:Bs):Int:=match s.wa,s.lr with|[],p::_=>if aS cs p>s.t then aS cs p else s.t|_,_=>s.t
def aX(cs:Ub)(s:Bs):Bs:=#[s.ds,(bR cs (bZ cs s) s.lr s.wa).1,(bR cs (bZ cs s) s.lr s.wa).2,bZ cs s,s.sr]
def V4(kind:Int)(rs:Ua)(cs:Ub)(wa:Tq)(p:Nat):Prop:=p∈wa/\∀q∈wa,cX (cS kind rs cs q) (cS kind rs cs p)=Zl
def X7(kind:Int)(rs:Ua)(cs:Ub)(wa:Tq):Nat:=(wa.find? λp=>wa.all λq=>!cX (cS kind rs cs q) (cS kind rs cs p)).getD 0
def V4.uniq(a:V4 kind rs cs wa p)(b:V4 kind rs cs wa q):p=q:=by have:=LS (a:=cS kind rs cs p) (b:=cS kind rs cs q) rfl (b.2 p a.1) (a.2 q b.1);simp![cS,List.cons.injEq,and_true]at this;lia
def V4.eq(a:V4 kind rs cs wa p):X7 kind rs cs wa=p:=by unfold X7;cases e:wa.find? λp=>wa.all λq=>!cX (cS kind rs cs q) (cS kind rs cs p)with|none=>have:=List.find?_eq_none.mp e p a.1;simp![mK,nZ,Bool.not_eq_true]at this;show absurd a.2 this|some q=>have j:=List.find?_some e;simp![mK,nZ]at j;show V4.uniq #[List.mem_of_find?_eq_some e,j] a
noncomputable def QW (hs:List Hd)(d len:Int):Tp:=len::(hs.filter λa=>decide (d<a.2.2)).map (·.2.2)
def QX(hs:List Hd)(d len:Int):Int:=QE (λi=>(QW hs d len).getD i 0) (QW hs d len).length
def Qb(rs:Ua)(cs:Ub)(s:Bs)(p:Nat):Int:=match s.lr with|[]=>QX (jr rs cs p) (s.ds.getD p 0) (cZ cs p)-s.ds.getD p 0|q::_=>if aS cs q-s.t<QX (jr rs cs p) (s.ds.getD p 0) (cZ cs p)-s.ds.getD p 0 then aS cs q-s.t else QX (jr rs cs p) (s.ds.getD p 0) (cZ cs p)-s.ds.getD p 0
noncomputable def Vl (p:Nat)(t u:Int):Wa->Wa|[]=>[(p,t,u)]|a::r=>if a.1=p then(p,a.2.1,u)::r else(p,t,u)::a::r
def j5(rs:Ua)(cs:Ub)(s:Bs)(p:Nat)(n:Int):Bs:=#[s.ds.set p<|s.ds.getD p 0+n,s.lr,if s.ds.getD p 0+n=cZ cs p then s.wa.erase p else s.wa,s.t+n,Vl p s.t (s.t+n) s.sr]
def ym(kind:Int)(rs:Ua)(cs:Ub)(s:Bs):Bs:=j5 rs cs s (X7 kind rs cs s.wa)<|Qb rs cs s<|X7 kind rs cs s.wa
def QA(kind:Int)(rs:Ua)(cs:Ub)(s:Bs):Bs:=ym kind rs cs<|aX cs s
def runM(kind:Int)(rs:Ua)(cs:Ub):Nat->Bs->Bs|0,s=>s|m+1,s=>if s.lr=[]/\s.wa=[]then s else runM kind rs cs m (QA kind rs cs s)
def hU(cs:Ub):Tq:=(cR (cs.map mC).reverse cs.length).map λi=>cs.length-1-i
def s0(cs:Ub):Bs:=#[cs.map λ_=>0,hU cs,[],0,[]]
def cM(kind:Int)(rs:Ua)(cs:Ub):Bs:=runM kind rs cs (8*cs.length)<|s0 cs
def L6(hs)(d len):QX hs d len=len\/∃a∈hs,d<a.2.2/\QX hs d len=a.2.2:=by
 let#[j,D,e]:=LM (λi=>(QW hs d len).getD i 0) (QW hs d len).length<|by simp[QW]
 unfold QX;rw[e];cases j with|zero=>show .inl rfl|succ j=>
  calc .inr ?_;have C:j<(hs.filter λa=>decide (d<a.2.2)).length:=by simpa[QW]using D
  have m:=Z9 C;rw[vd]at m;calc#[_,m.1,of_decide_eq_true m.2,?_];simp[QW,Zd C]
theorem DV(hs)(d len):QX hs d len<=len:=LL (λi=>(QW hs d len).getD i 0) _ 0<|by simp[QW]
def J15(h:d<len):d<QX hs d len:=by rcases L6 hs d len with e|⟨a,_,l,e⟩<;>(first|show jy l (lV e.symm)|show jy h (lV e.symm)|lia)
structure Wf(cs:Ub)(s:Bs):Prop where
 ld:s.ds.length=cs.length
 mem:∀p∈s.lr++s.wa,p<cs.length
 nd:(s.lr++s.wa).Nodup
 oR:s.lr.Pairwise λp q=>aS cs p<=aS cs q
 z:∀p∈s.lr++s.wa,0<=s.ds.getD p 0/\s.ds.getD p 0<cZ cs p
 dn:∀p,p<cs.length->p∉s.lr++s.wa->s.ds.getD p 0=cZ cs p
 z0:∀p∈s.lr,s.ds.getD p 0=0
 rw:∀p∈s.wa,aS cs p<=s.t
theorem DX(cs)(t):∀(lr wa:Tq),((bR cs t lr wa).1++(bR cs t lr wa).2).Perm (lr++wa)
 |[],wa=>.refl _
 |p::lr,wa=>by
  unfold bR;split
  .calc(DX cs t lr<|wa++[p]).trans ?_;rw[<-hX];show List.perm_append_singleton p<|lr++wa
  .show .refl _
theorem X9(cs)(t):∀(lr wa:Tq),∃a,lr=a++(bR cs t lr wa).1/\(bR cs t lr wa).2=wa++a/\(∀p∈a,aS cs p<=t)/\∀q r,(bR cs t lr wa).1=q::r->t<aS cs q
 |[],wa=>#[[],rfl,by simp[bR],03,by simp[bR]]
 |p::lr,wa=>by
  unfold bR;split
  .rename_i c;let#[a,E,m,C,D]:=X9 cs t lr<|wa++[p];show#[p::a,congrArg (p:: ·) E,by rw[m];simp,λq j=>by rcases ZA.mp j with rfl|j;show c;show C q j,D]
  .simp_all
def DY(cs)(s):s.t<=bZ cs s:=by
 unfold bZ;split
 .split<;>(first|show ZV 06|show ZJ _|lia)
 .show ZJ _
def Wf.let(w:Wf cs s):Wf cs (aX cs s):=by
 let#[a,C,D,E,H]:=X9 cs (bZ cs s) s.lr s.wa;have m:=DX cs (bZ cs s) s.lr s.wa;have F:=DY cs s;refine#[w.ld,λp j=>w.mem p<|m.mem_iff.mp j,m.nodup_iff.mpr w.nd,?_,λp j=>w.z p<|m.mem_iff.mp j,λp l j=>w.dn p l λz=>j<|m.mem_iff.mpr z,λp j=>w.z0 p ?_,λp j=>?_]
 .have:=w.oR;rw[C]at this;show(u5.mp this).2.1
 .rw[C];show Zr _ j
 .have j:p∈(bR cs (bZ cs s) s.lr s.wa).2:=j;rw[D]at j;rcases ZQ.mp j with j|j
  .have:=w.rw p j;show eN this F
  .show E p j
def DZ(ne:¬(s.lr=[]/\s.wa=[])):(aX cs s).wa≠[]:=by
 let#[a,F,C,H,E]:=X9 cs (bZ cs s) s.lr s.wa;intro e;have e:(bR cs (bZ cs s) s.lr s.wa).2=[]:=e;rw[C]at e;let#[m,ea]:=List.append_eq_nil_iff.mp e;cases j:s.lr with|nil=>show ne #[j,m]|cons p r=>
  have:=E p r<|by rw[<-j];simpa[ea]using F.symm
  have D:bZ cs s=if aS cs p>s.t then aS cs p else s.t:=by unfold bZ;rw[m,j]
  rw[D]at this;split at this<;>(first|show kE.mpr this (ZJ _)|show kE.mpr this (hi.mp 06)|lia)
def L7(w:Wf cs s):∀q∈(aX cs s).lr,(aX cs s).t<aS cs q:=by
 let#[a,E,C,D,m]:=X9 cs (bZ cs s) s.lr s.wa;have ws:=w.let.oR;change ∀q∈(bR cs (bZ cs s) s.lr s.wa).1,bZ cs s<aS cs q;have ws:((bR cs (bZ cs s) s.lr s.wa).1).Pairwise _:=ws;cases e:(bR cs (bZ cs s) s.lr s.wa).1 with|nil=>simp|cons p r=>
  have:=m p r e;rw[e]at ws;intro q j;rcases ZA.mp j with rfl|j
  .show this
  .have:=(nW.mp ws).1 q j;show jy 06 this
def D0(gt:∀q∈s.lr,s.t<aS cs q)(l:s.ds.getD p 0<cZ cs p):0<Qb rs cs s p/\s.ds.getD p 0+Qb rs cs s p<=QX (jr rs cs p) (s.ds.getD p 0) (cZ cs p):=by
 have:=J15 (hs:=jr rs cs p) l;unfold Qb;split
 .lia
 .rename_i q r e;have:=gt q<|by rw[e];simp
  split<;>lia
def Yu{l:List α}:(l.set i x).getD j z=if i=j/\j<l.length then x else l.getD j z:=by
 simp;by_cases e:i=j
 .subst e;by_cases m:i<l.length
  .simp[m]
  .simp[m]
 .simp[e]
def Wf.do(w:Wf cs s)(hp:p∈s.wa)(n0:0<n)(D:s.ds.getD p 0+n<=cZ cs p):Wf cs (j5 rs cs s p n):=by
 have C:=w.mem p<|Zr _ hp;have sub:(s.lr++(j5 rs cs s p n).wa).Sublist (s.lr++s.wa):=by
  calc List.Sublist.append_left ?_ _;change List.Sublist (if _ then _ else _) _;split
  .show List.erase_sublist
  .show List.Sublist.refl _
 have m:=λq j e=>(u5.mp w.nd).2.2 q j p hp e
 have E:=(u5.mp w.nd).2.1;have g:∀q,(j5 rs cs s p n).ds.getD q 0=if p=q then s.ds.getD p 0+n else s.ds.getD q 0:=λq=>by
  change(s.ds.set p _).getD q 0=_;rw[Yu];by_cases e:p=q
  .subst e;rw[if_pos #[rfl,by rw[w.ld];show C],if_pos rfl]
  .rw[if_neg λz=>e z.1,if_neg e]
 refine#[by change(s.ds.set _ _).length=_;rw[pj];show w.ld,λq j=>w.mem q<|sub.subset j,w.nd.sublist sub,w.oR,λq j=>?_,λq F j=>?_,λq j=>?_,λq j=>?_]
 .have:=w.z q<|sub.subset j;rw[g];split
  .rename_i e;subst e;calc#[ZV<|iU this.1<|lU _ n0,?_];rcases ZQ.mp j with j|j
   .show absurd rfl (m p j)
   .have j:p∈if s.ds.getD p 0+n=cZ cs p then s.wa.erase p else s.wa:=j
    split at j
    .show absurd j<|List.Nodup.not_mem_erase E
    .show Int.lt_iff_le_and_ne.mpr #[D,06]
  .show this
 .rw[g];split
  .rename_i e;subst e;have j:p∉s.lr++if s.ds.getD p 0+n=cZ cs p then s.wa.erase p else s.wa:=j
   split at j
   .assumption
   .show absurd (Zr _ hp) j
  .rename_i ne;refine w.dn q F λz=>j ?_
   change q∈s.lr++if s.ds.getD p 0+n=cZ cs p then s.wa.erase p else s.wa
   split
   .rcases ZQ.mp z with z|z
    .show ZZ _ z
    .show Zr _<|(List.mem_erase_of_ne<|ZP ne).mpr z
   .show z
 .rw[g,if_neg<|ZP<|m q j];show w.z0 q j
 .have:=w.rw q (by
   have j:q∈if s.ds.getD p 0+n=cZ cs p then s.wa.erase p else s.wa:=j
   split at j
   .show ER j
   .show j)
  change _<=s.t+n;show ZV<|iU this<|lU _ n0
theorem D1:∀{wa:Tq},wa≠[]->∃p,V4 kind rs cs wa p
 |[],h=>absurd rfl h
 |[p],_=>#[p,03,λq D=>by rw[Z8.mp D];show Yy _]
 |p::q::r,_=>by
  let#[m,hm,C]:=D1 (kind:=kind) (rs:=rs) (cs:=cs) (wa:=q::r) 03;cases c:cX (cS kind rs cs p) (cS kind rs cs m)with
  |true=>
   calc#[p,03,λx j=>?_];rcases ZA.mp j with rfl|j
   .show Yy _
   .cases z:cX (cS kind rs cs x) (cS kind rs cs p)with
    |false=>rfl
    |true=>show absurd (Cq z c)<|by rw[C x j];show Zz
  |false=>
   calc#[m,Zm _ hm,λx j=>?_];rcases ZA.mp j with rfl|j
   .show c
   .show C x j
def V7(rs:Ua)(cs:Ub)(ds:Tp)(p:Nat):Nat:=((jr rs cs p).filter λa=>decide (ds.getD p 0<a.2.2)).length
def lL(rs:Ua)(cs:Ub)(s:Bs):Nat:=(s.lr++s.wa).length+((ZK cs.length).map<|V7 rs cs s.ds).sum+(s.lr.filter λp=>decide (s.t<aS cs p)).length
theorem Ys:∀{l:List α},(∀x∈l,f x=Zi->g x=Zi)->(l.filter f).length<=(l.filter g).length
 |[],_=>03
 |x::l,h=>by
  have j:=Ys λy m=>h y<|Zm _ m
  have:=h x 03;simp![rr];split
  .simp_all
  .split
   .simp;show rg 06
   .show j
theorem D2:∀{l:List α},a∈l->f a=Zl->g a=Zi->(∀x∈l,f x=Zi->g x=Zi)->(l.filter f).length<(l.filter g).length
 |x::l,ha,fa,ga,h=>by
  have le:=Ys λy j=>h y<|Zm _ j
  have C:=h x 03;rcases ZA.mp ha with rfl|ha
  .simp only[rr,fa,ga,if_true,iP];show rf 06
  .have m:=D2 ha fa ga λy j=>h y<|Zm _ j
   simp![rr];split
   .simp_all
   .split
    .simp;show rf 06
    .show m
theorem yn{f g:Nat->Nat}:∀{l:Tq},(∀x∈l,f x<=g x)->(l.map f).sum<=(l.map g).sum
 |[],_=>Zk _
 |x::l,h=>by
  have:=h x 03;have:=yn λy j=>h y<|Zm _ j
  simp;show sM 06 this
theorem L8{f g:Nat->Nat}:∀{l:Tq},a∈l->f a<g a->(∀x∈l,f x<=g x)->(l.map f).sum<(l.map g).sum
 |x::l,ha,la,h=>by
  have m:=h x 03;have le:=yn λy j=>h y<|Zm _ j
  simp;rcases ZA.mp ha with rfl|ha
  .show EE la le
  .have:=L8 ha la λy j=>h y<|Zm _ j
   show yK m this
def J08(rs)(cs)(s):lL rs cs (aX cs s)<=lL rs cs s:=by
 let#[a,D,F,H,I]:=X9 cs (bZ cs s) s.lr s.wa;have C:=(DX cs (bZ cs s) s.lr s.wa).length_eq;have j:=DY cs s;change((bR cs (bZ cs s) s.lr s.wa).1++(bR cs (bZ cs s) s.lr s.wa).2).length+_+((bR cs (bZ cs s) s.lr s.wa).1.filter λp=>decide (bZ cs s<aS cs p)).length<=_;rw[C];unfold lL;have E:=Ys (g:=λp=>decide (s.t<aS cs p)) (l:=(bR cs (bZ cs s) s.lr s.wa).1) λx _ c=>decide_eq_true<|iU j<|of_decide_eq_true c
 have J:(s.lr.filter λp=>decide (s.t<aS cs p)).length=(a.filter λp=>decide (s.t<aS cs p)).length+((bR cs (bZ cs s) s.lr s.wa).1.filter λp=>decide (s.t<aS cs p)).length:=by
  conv=>lhs;rw[D]
  rw[List.filter_append,ZB]
 have m:((ZK cs.length).map<|V7 rs cs (aX cs s).ds).sum=((ZK cs.length).map<|V7 rs cs s.ds).sum:=rfl;show sM (sM (Zk _)<|Zn m)<|Zc (Zc E<|o9 _ _)<|Zn J.symm
def J41(w:Wf cs s)(gt:∀q∈s.lr,s.t<aS cs q)(hp:p∈s.wa):lL rs cs (j5 rs cs s p<|Qb rs cs s p)<lL rs cs s:=by
 have C:=w.mem p<|Zr _ hp;let#[n0,E]:=D0 gt (w.z p<|Zr _ hp).2;have I:=DV (jr rs cs p) (s.ds.getD p 0)<|cZ cs p;have hn:∀n,n=Qb rs cs s p->0<n/\s.ds.getD p 0+n<=cZ cs p:=λn e=>by rw[e];show#[n0,eN E I]
 have j:(s.ds.getD p 0+Qb rs cs s p=cZ cs p)\/(∃a∈jr rs cs p,s.ds.getD p 0<a.2.2/\s.ds.getD p 0+Qb rs cs s p=a.2.2)\/∃q∈s.lr,s.t+Qb rs cs s p=aS cs q:=by
  unfold Qb;have:=L6 (jr rs cs p) (s.ds.getD p 0)<|cZ cs p;split
  .rcases this with e|⟨a,ha,l,e⟩
   .show .inl 05
   .show .inr<|.inl #[a,ha,l,05]
  .rename_i q r e;split
   .show .inr (.inr #[q,by rw[e];simp,05])
   .rcases this with e|⟨a,ha,l,e⟩
    .show .inl 05
    .show .inr<|.inl #[a,ha,l,05]
 generalize Qb rs cs s p=n at n0 E j;have gd:∀q,(s.ds.set p<|s.ds.getD p 0+n).getD q 0=if p=q then s.ds.getD p 0+n else s.ds.getD q 0:=λq=>by
  rw[Yu];by_cases e:p=q
  .subst e;rw[if_pos #[rfl,by rw[w.ld];show C],if_pos rfl]
  .rw[if_neg λz=>e z.1,if_neg e]
 have D:∀q∈ZK cs.length,V7 rs cs (s.ds.set p<|s.ds.getD p 0+n) q<=V7 rs cs s.ds q:=λq _=>Ys λx _ c=>by
  have c:=of_decide_eq_true c;rw[gd]at c;calc decide_eq_true ?_;split at c
  .rename_i e;subst e;show Int.lt_trans (lU _ n0) 06
  .show c
 have F:∀x∈s.lr,decide (s.t+n<aS cs x)=Zi->decide (s.t<aS cs x)=Zi:=λx _ c=>decide_eq_true<|by simp_all
 have J:=yn D;have H:=Ys F;have m:(s.lr++if s.ds.getD p 0+n=cZ cs p then s.wa.erase p else s.wa).length<=(s.lr++s.wa).length:=by
  rw[ZB,ZB];split
  .have:=EL hp;show sM (Zk _)<|Zc (Zn this)<|nQ _ _
  .show Zk _
 change(s.lr++if s.ds.getD p 0+n=cZ cs p then s.wa.erase p else s.wa).length+((ZK cs.length).map<|V7 rs cs<|s.ds.set p<|s.ds.getD p 0+n).sum+(s.lr.filter λx=>decide (s.t+n<aS cs x)).length<(s.lr++s.wa).length+((ZK cs.length).map<|V7 rs cs s.ds).sum+(s.lr.filter λx=>decide (s.t<aS cs x)).length;rcases j with e|⟨a,ha,la,e⟩|⟨q,hq,e⟩
 .rw[if_pos e,ZB,ZB];have:=EL hp;have:=List.length_pos_of_mem hp;omega
 .have:=L8 (fx.mpr C) (D2 ha (decide_eq_false<|by simp_all) (decide_eq_true la) λx _ c=>by have c:=of_decide_eq_true c;rw[gd,if_pos rfl]at c;show decide_eq_true<|Int.lt_trans (jy la<|lV e.symm) c) D;show EE (yK m this) H
 .have:=D2 hq (decide_eq_false<|hi.mpr<|lV e.symm) (decide_eq_true<|gt q hq) F;show yK (sM m J) this
section
seal L4.run
abbrev nI(n:Nat):IV:=.int (n:Int)
noncomputable abbrev tupS (a:Nat×Int×Int):IV:=.tup [.int (a.1:Int),.int a.2.1,.int a.2.2]
noncomputable def cE (bE R D bD W:Nat)(t:Int)(S:Nat):Wo:=[("order",.ref bE),("row",.ref R),("dones",.ref D),("later",.ref bD),("waiting",.ref W),("turn",.int t),("stretches",.ref S)]
section
variable{bE R D bD W S:Nat}{t u:Int}
theorem L9:(cE bE R D bD W t S).lookup ("order":Str)=B (.ref bE):=02
theorem yo:(cE bE R D bD W t S).lookup ("row":Str)=B (.ref R):=02
theorem yp:(cE bE R D bD W t S).lookup ("dones":Str)=B (.ref D):=02
theorem ui:(cE bE R D bD W t S).lookup ("later":Str)=B (.ref bD):=02
theorem uj:(cE bE R D bD W t S).lookup ("waiting":Str)=B (.ref W):=02
theorem se:(cE bE R D bD W t S).lookup ("turn":Str)=B (.int t):=02
theorem uk:(cE bE R D bD W t S).lookup ("stretches":Str)=B (.ref S):=02
theorem bn0:(cE bE R D bD W t S).lookup ("next_ready":Str)=Ze:=02
theorem bn1:(cE bE R D bD W t S).lookup ("let_in":Str)=Ze:=02
theorem bn2:(cE bE R D bD W t S).lookup ("turns_for":Str)=Ze:=02
theorem bn3:(cE bE R D bD W t S).lookup ("tell":Str)=Ze:=02
theorem bn4:(cE bE R D bD W t S).lookup ("go_on":Str)=Ze:=02
theorem Ma:bG "turn" (.int u) (cE bE R D bD W t S)=cE bE R D bD W u S:=02
end
structure Bg(h0:IH)(kind:Int)(rs:Ua)(cs:Ub)(bE R:Nat):Prop where
 o:dF h0 kind bE rs
 r:h0[R]?=B (.lst<|cs.map aI)
 c:∀c∈cs,c.at_<rs.length
 l6:∀r∈rs,r.2.length<=6
 p1:h0[1]?=B (.tab "Order.pick")
 n:cs.length<=200
structure Bn(h0 h:IH)(bA bE R D bD W S:Nat)(s:Bs):Prop where
 x:Ex h0 h
 ap:h0.length<=bA/\bA<D/\D<bD/\bD<W/\W<S
 b:h[bA]?=B (.ins "Bench"<|cE bE R D bD W s.t S)
 d:h[D]?=B (.lst<|s.ds.map .int)
 l:h[bD]?=B (.lst<|s.lr.reverse.map nI)
 w:h[W]?=B (.lst<|s.wa.map nI)
 s:h[S]?=B (.lst<|s.sr.reverse.map tupS)
def Qu(x:Ex h0 h)(l:h0.length<=i):Ex h0 (h.set i o):=by let#[g,rfl]:=x;show#[g.set (i-h0.length) o,by rw[List.set_append_right _ _ l]]
def J8{h:IH}(e:h[j]?=B o)(n:i≠j):(h.set i o')[j]?=B o:=by rw[ZL n];show e
theorem JZ{h:IH}(e:h[i]?=B o):(h.set i o')[i]?=B o':=ZM<|J9 e
section
variable{h0 h h':IH}{bA bE R D bD W S:Nat}{s:Bs}
theorem Bn.ex(b:Bn h0 h bA bE R D bD W S s)(x:Ex h h'):Bn h0 h' bA bE R D bD W S s:=#[b.x.trans x,b.ap,x.get b.b,x.get b.d,x.get b.l,x.get b.w,x.get b.s]
theorem Bn.um(b:Bn h0 h bA bE R D bD W S s)(u):Bn h0 (h.set bA<|.ins "Bench"<|cE bE R D bD W u S) bA bE R D bD W S #[s.ds,s.lr,s.wa,u,s.sr]:=
 have ap:=b.ap
 #[Qu b.x<|ap.1,ap,JZ b.b,J8 b.d<|Z1 ap.2.1,J8 b.l<|Z1<|ZC<|Zc (Zh ap.2.1 1) ap.2.2.1,J8 b.w<|Z1<|Zc (Zq _ 2)<|Zc (Zh (Zc (Zh ap.2.1 1) ap.2.2.1) 1) ap.2.2.2.1,J8 b.s<|Z1<|Zc (Zq _ 3)<|Zc (Zh (Zc (Zh (Zc (Zh ap.2.1 1) ap.2.2.1) 1) ap.2.2.2.1) 1) ap.2.2.2.2]
theorem Bn.D3(b:Bn h0 h bA bE R D bD W S s)(ds):Bn h0 (h.set D<|.lst<|ds.map .int) bA bE R D bD W S #[ds,s.lr,s.wa,s.t,s.sr]:=
 have ap:=b.ap
 #[Qu b.x<|ZC<|Zc (Zh ap.1 1) ap.2.1,ap,J8 b.b<|d0 ap.2.1,JZ b.d,J8 b.l<|Z1 ap.2.2.1,J8 b.w<|Z1<|ZC<|Zc (Zh ap.2.2.1 1) ap.2.2.2.1,J8 b.s<|Z1<|Zc (Zq _ 2)<|Zc (Zh (Zc (Zh ap.2.2.1 1) ap.2.2.2.1) 1) ap.2.2.2.2]
theorem Bn.D5(b:Bn h0 h bA bE R D bD W S s)(lr):Bn h0 (h.set bD<|.lst<|lr.reverse.map nI) bA bE R D bD W S #[s.ds,lr,s.wa,s.t,s.sr]:=
 have ap:=b.ap
 #[Qu b.x<|Zc (Zq _ 2)<|Zc (Zh (Zc (Zh ap.1 1) ap.2.1) 1) ap.2.2.1,ap,J8 b.b<|d0<|ZC<|Zc (Zh ap.2.1 1) ap.2.2.1,J8 b.d<|d0 ap.2.2.1,JZ b.l,J8 b.w<|Z1 ap.2.2.2.1,J8 b.s<|Z1<|ZC<|Zc (Zh ap.2.2.2.1 1) ap.2.2.2.2]
theorem Bn.uo(b:Bn h0 h bA bE R D bD W S s)(wa):Bn h0 (h.set W<|.lst<|wa.map nI) bA bE R D bD W S #[s.ds,s.lr,wa,s.t,s.sr]:=
 have ap:=b.ap
 #[Qu b.x<|Zc (Zq _ 3)<|Zc (Zh (Zc (Zh (Zc (Zh ap.1 1) ap.2.1) 1) ap.2.2.1) 1) ap.2.2.2.1,ap,J8 b.b<|d0<|Zc (Zq _ 2)<|Zc (Zh (Zc (Zh ap.2.1 1) ap.2.2.1) 1) ap.2.2.2.1,J8 b.d<|d0<|ZC<|Zc (Zh ap.2.2.1 1) ap.2.2.2.1,J8 b.l<|d0 ap.2.2.2.1,JZ b.w,J8 b.s<|Z1 ap.2.2.2.2]
theorem Bn.uq(b:Bn h0 h bA bE R D bD W S s)(sr):Bn h0 (h.set S<|.lst<|sr.reverse.map tupS) bA bE R D bD W S #[s.ds,s.lr,s.wa,s.t,sr]:=
 have ap:=b.ap
 #[Qu b.x<|Zc (Zq _ 4)<|Zc (Zh (Zc (Zh (Zc (Zh (Zc (Zh ap.1 1) ap.2.1) 1) ap.2.2.1) 1) ap.2.2.2.1) 1) ap.2.2.2.2,ap,J8 b.b<|d0<|Zc (Zq _ 3)<|Zc (Zh (Zc (Zh (Zc (Zh ap.2.1 1) ap.2.2.1) 1) ap.2.2.2.1) 1) ap.2.2.2.2,J8 b.d<|d0<|Zc (Zq _ 2)<|Zc (Zh (Zc (Zh ap.2.2.1 1) ap.2.2.2.1) 1) ap.2.2.2.2,J8 b.l<|d0<|ZC<|Zc (Zh ap.2.2.2.1 1) ap.2.2.2.2,J8 b.w<|d0 ap.2.2.2.2,JZ b.s]
end
def yq:bW ((p::lr).reverse.map f) (-1)=B (f p):=by have e:(-1+((lr.length:Int)+1)).toNat=lr.length:=05;have l:(1:Int)<=(lr.length:Int)+1:=ES<|og _;simp[bW,jP,e,l]
theorem Yb{cs:Ub}(j:p<cs.length):bW (cs.map aI) (p:Int)=B (aI<|cs.getD p cd):=JN<|by simp_all
theorem D6{ds:Tp}(j:p<ds.length):bW (ds.map IV.int) (p:Int)=B (.int<|ds.getD p 0):=JN<|by simp_all
section
variable{k:Nat}{h0 h:IH}{kind:Int}{rs:Ua}{cs:Ub}{bA bE R D bD W S:Nat}{s:Bs}{P:IV->IH->Prop}
def J70(g:Bg h0 kind rs cs bE R)(b:Bn h0 h bA bE R D bD W S s)(e:s.lr=p::lr)(j:p<cs.length):CB (k+2) [.ref bA] h=.ok (.int<|aS cs p) h:=by have bl:=b.l;rw[e]at bl;calc Js ?_;rw[Jcu];show ak<|ax<|Jf (Jr (aq<|aW (ao rfl b.b yo) (aW (ao rfl b.b ui) rfl bl yq) (b.x.get g.r)<|Yb j) LZ) #[rfl,rfl]
theorem D7(g:Bg h0 kind rs cs bE R)(b:Bn h0 h bA bE R D bD W S s)(e:s.lr=p::lr)(j:p<cs.length):Jo (pg<|k+2) "next_ready" 0 'a' Jc (B (.ref bA)::Pn) h=.ok (.int<|aS cs p) h:=dS rfl b.b bn0 (Jcs _) rfl (J70 g b e j)
theorem Jtr:bR cs t (p::lr) wa=if aS cs p<=t then bR cs t lr (wa++[p])else(p::lr,wa):=rfl
def Mb(g:Bg h0 kind rs cs bE R)(C:∀p∈s.lr,p<cs.length)(hl:s.lr.length+s.wa.length<=1000)(b:Bn h0 h bA bE R D bD W S s):WS (KW (k+2) [B<|.ref bA] h) (λ_ h'=>Bn h0 h' bA bE R D bD W S #[s.ds,(bR cs s.t s.lr s.wa).1,(bR cs s.t s.lr s.wa).2,s.t,s.sr]) P:=by
 have O:=J4;calc yk (λm U h'=>∃lr wa,U=[B<|.ref bA]/\Bn h0 h' bA bE R D bD W S #[s.ds,lr,wa,s.t,s.sr]/\lr.length=m/\lr.length+wa.length<=1000/\(∀p∈lr,p<cs.length)/\bR cs s.t lr wa=bR cs s.t s.lr s.wa) ?_ (show s.lr.length<1000000 by show Zc (Zc (Zh (Zq _ _) 1)<|Zh hl 1)<|Zq _ 998999) #[s.lr,s.wa,rfl,b,rfl,hl,C,rfl];rintro m _ J ⟨lr,wa,rfl,b,I,E,C,j⟩;refine Dj<|Jf (jk (dP (ao rfl b.b ui) b.l) rfl)<|fm (λc=>?_) λc=>?_
 .cases lr with|nil=>show absurd c 03|cons p lr=>
   rw[Jtr]at j;refine Jf (Dp (D7 g b rfl (C p 03))<|ao rfl b.b se)<|fm (λc=>?_) λc=>?_
   .calc#[lr.length,by simpa using I.symm,?_];calc JM<|Qt (ao rfl b.b uj) b.w V5<|xb<|Qt (ao rfl b.b ui) b.l Ls<|Jf rfl (ue (y:=nI p) b.l 03 ?_);have e:(((p::lr).reverse.map nI).dropLast)=lr.reverse.map nI:=03;rw[e];have F:=b.D5 lr;calc xb (Jf rfl (Jf rfl (iH F.w (by simp at E ⊢;show Zc (Zq _ 999000)<|Zc (Zh (Zc (Zh (o9 _ _) 1)<|Zh E 1) 999000) O) #[lr,wa++[p],rfl,?_,rfl,by simp at E ⊢;lia,λq H=>C q<|Zm _ H,by rw[<-j,if_pos c]])));have:=F.uo<|wa++[p];rw[kj]at this;show this
   .rw[if_neg c]at j;rw[<-j];show b
 .cases lr with|nil=>show#[(λz=>by cases z),λ_=>by rw[<-j];show b]|cons p lr=>show absurd 03 c
def J7y(g:Bg h0 kind rs cs bE R)(C:∀p∈s.lr,p<cs.length)(hl:s.lr.length+s.wa.length<=1000)(ne:¬(s.lr=[]/\s.wa=[]))(b:Bn h0 h bA bE R D bD W S s):
  WR (CC (k+3) [.ref bA] h) λv h'=>v=.ag/\Bn h0 h' bA bE R D bD W S (aX cs s):=by
 rw[Jgf];refine ak<|ae<|jm (yc (dP (ao rfl b.b uj) b.w) rfl) (λc=>?_) λc=>?_
 .have E:s.wa=[]:=uZ.mp<|by simpa using c
  cases j:s.lr with|nil=>show absurd #[j,E] ne|cons p lr=>
   have m:bZ cs s=if aS cs p>s.t then aS cs p else s.t:=by unfold bZ;rw[E,j]
   calc Qk (qr (ao rfl b.b se)<|D7 g b j<|C p<|by rw[j];simp) rfl b.b (by change(7:Nat)<1000;decide) ?_;rw[Ma];have F:=b.um (if aS cs p>s.t then aS cs p else s.t);refine WS.mono (Mb (s:=#[s.ds,s.lr,s.wa,if aS cs p>s.t then aS cs p else s.t,s.sr]) g C hl F) (λ_ h' q=>#[rfl,?_]) λ_ _ z=>z
   unfold aX;rw[m];show q
 .have m:bZ cs s=s.t:=by
   unfold bZ;split
   .rename_i e _;rw[e]at c;show absurd rfl c
   .rfl
  refine aK<|WS.mono (Mb g C hl b) (λ_ h' q=>#[rfl,?_]) λ_ _ z=>z
  unfold aX;rw[m];show q
end
end
section
seal L4.run
noncomputable def D8 (d:Int):IV->Bool|.tup [_,_,.int e]=>decide (d<e)|_=>Zl
noncomputable def Mc:IV->IV|.tup [_,_,e]=>e|_=>.ag
def J3u(hs:List Hd)(d):((hs.map cL).filter<|D8 d).map Mc=((hs.filter λa=>decide (d<a.2.2)).map (·.2.2)).map .int:=by
 induction hs with|nil=>rfl|cons a hs j=>
  simp![ZW,rr];rw[show D8 d (cL a)=decide (d<a.2.2)from rfl];split
  .simp only[ZW,j];rfl
  .show j
section
variable{k:Nat}{h0 h:IH}{kind:Int}{rs:Ua}{cs:Ub}{bA bE R D bD W S:Nat}{s:Bs}{P:IV->IH->Prop}
def J71(D:h[w]?=B (.ins "Work"<|eP name gap ln aD af<|hs.map cL))(l6:hs.length<=6):WR (Cz (k+2) [.ref w,.int d,.int len] h) λv h'=>v=.int (QX hs d len)/\Ex h h':=by
 have O:=J4;rw[Jlj];have j:Ex h (h++[.lst [.int len]]):=.one _ _;calc ak (ax<|xb<|xb<|xb<|lB<|Jf (aq rfl) #[by simp;show o7 06,xb ?_]);refine WR.mono (xl (h:=h++[.lst [.int len]]++[.lst<|hs.map cL]) (xs:=hs.map cL) (p:=D8 d) (f:=Mc) ?_ (by rw[Zp];show Zc (Zq _ 999994)<|Zc (Zh (Zh l6 1) 999994) O) (λJ q=>q _ _ grown) ?_ ?_) ?_
 .rw[Qc];show Jf (dS rfl (j.get D) yd (ya _) rfl (ye<|j.get D))<|(Qs _).mpr #[_,grown,rfl,rfl,rfl]
 .intro v m J q;let#[a,_,rfl]:=ZY.mp m;show Jf (jk (bp rfl rfl VT) rfl) #[rfl,.refl _]
 .intro v m _ J q;let#[a,_,rfl]:=ZY.mp m;show Jf (bp rfl rfl VT) #[rfl,.refl _]
 .rintro _ _ ⟨rfl,g,rfl⟩;rw[J3u];have E:=yQ (λa:Hd=>decide (d<a.2.2)) hs;have C:Ex (h++[.lst [.int len]]) (h++[.lst [.int len]]++[.lst<|hs.map cL]++.lst (((hs.filter λa=>decide (d<a.2.2)).map (·.2.2)).map .int)::g):=(Ex.one _ _).trans<|.cons _ _ _;calc(Ce ..).mpr #[_,C.get grown,_,J1,by simp;(rw[mI];show Zc (Zq _ 999994)<|Zc (Zh (Zc (Zh E 1)<|Zh l6 1) 999994) O),?_];calc xb<|Jf rfl (Jf rfl ?_);rw[HU,show[IV.int len]++((hs.filter λa=>decide (d<a.2.2)).map (·.2.2)).map .int=(QW hs d len).map .int from rfl,LN grown<|by simp[QW]];show#[rfl,(j.trans C).trans<|.one _ _]
def J8u(g:Bg h0 kind rs cs bE R)(O:∀p∈s.lr,p<cs.length)(b:Bn h0 h bA bE R D bD W S s)(H:p<cs.length)(ld:s.ds.length=cs.length):WR (CD (k+3) [.ref bA,nI p] h) λv h'=>v=.int (Qb rs cs s p)/\Ex h h':=by
 let#[Q,#[V,I,w],P]:=DU<|g.o.kp b.x.kp;have ca:(cs.getD p cd).at_<rs.length:=g.c _<|by simp_all
 have l6:=g.l6 _<|Z9 ca;let#[j,L,C]:=w.get<|Zd ca;have M:=JN L;have J:jr rs cs p=(rs[(cs.getD p cd).at_]).2:=by unfold jr;rw[yj ca]
 rw[<-J]at l6;rw[Jdk];calc ak<|ae<|aj<|Jf (aW (ao rfl b.b yo) rfl (b.x.get g.r) (Yb H))<|ae<|aj<|Jf (aW (ao rfl b.b yp) rfl b.d (D6<|Zc H<|Zn ld.symm)) ?_;calc ae<|aj<|xb<|xb<|xb<|Jf (dS (P _ _<|ao rfl b.b L9) I Lx (Lq _) (aq<|bp rfl rfl Q5)<|Ly I M)<|xb<|Jf (ar rfl (bp rfl rfl VU))<|Jf rfl ?_;have C:h[j]?=B (.ins "Work"<|eP _ _ _ _ _<|(rs[(cs.getD p cd).at_]).2.map cL):=C;rw[<-J]at C;calc WR.mono (J71 C l6) ?_;rintro _ U ⟨rfl,F⟩;have E:=b.ex F;refine xb<|Jf rfl (Jf rfl (ae<|jm (jk (dP (ao rfl E.b ui) E.l) rfl) (λc=>?_) λc=>?_))
 .cases m:s.lr with|nil=>rw[m]at c;show absurd c 03|cons q lr=>calc aj (Jf (Ds rfl (dQ (D7 g E m<|O q<|by rw[m];simp)<|ao rfl E.b se))<|ax<|Jf rfl #[?_,F]);unfold Qb;rw[m];rfl
 .calc aK<|ax<|Jf rfl #[?_,F];have m:s.lr=[]:=by cases m:s.lr with|nil=>rfl|cons q lr=>rw[m]at c;show absurd 03 c
  unfold Qb;rw[m];rfl
def J8t(b:Bn h0 h bA bE R D bD W S s)(sl:s.sr.length<100000):WR (CF (k+1) [.ref bA,nI p,.int u] h) λv h'=>v=.ag/\Bn h0 h' bA bE R D bD W S #[s.ds,s.lr,s.wa,s.t,Vl p s.t u s.sr]:=by
 have O:=J4;have fin:∀{E:IH}{m:Int}{r:Wa},Bn h0 E bA bE R D bD W S #[s.ds,s.lr,s.wa,s.t,r]->r.length<=s.sr.length->Vl p s.t u s.sr=(p,m,u)::r ->WS (KY k [B<|.ref bA,B<|nI p,B<|.int u,B<|.int m] E) (λ_ h'=>IV.ag=.ag/\Bn h0 h' bA bE R D bD W S #[s.ds,s.lr,s.wa,s.t,Vl p s.t u s.sr]) λv h'=>v=.ag/\Bn h0 h' bA bE R D bD W S #[s.ds,s.lr,s.wa,s.t,Vl p s.t u s.sr]:=by intro E m r C lr F;calc JM (Qt (ao rfl C.b uk) C.s V5<|xb<|nu<|xb<|Jf rfl (xb<|Jf (ar rfl rfl)<|Jf rfl #[by simp;show o9 _ _,xb<|Jf rfl (Jf rfl (iH C.s (by simp;show Zc (Zq _ 900001)<|Zc (Zh (Zc (Zh lr 1) sl) 900001) O) #[rfl,?_]))]));have:=C.uq<|(p,m,u)::r;rw[pe,kj]at this;rw[F];show this
 rw[Jjd];refine ak<|ae<|aj<|Jf (ao rfl b.b se)<|ae<|t8<|Dj<|Jf (jk (dP (ao rfl b.b uk) b.s) rfl)<|fm (λc=>?_) λc=>?_
 .cases j:s.sr with|nil=>rw[j]at c;show absurd c 03|cons a r=>
   have bs:=b.s;rw[j]at bs;refine Jf (yc (bp (aW (ao rfl b.b uk) rfl bs yq) rfl Q5) rfl)<|fm (λc=>?_) λc=>?_
   .calc aj<|xb<|Qt (ao rfl b.b uk) bs Ls<|Jf rfl (ue (y:=tupS a) bs 03<|xb<|Jf rfl (t9 QR ?_));have e:((a::r).reverse.map tupS).dropLast=r.reverse.map tupS:=03;rw[e];rw[<-j];calc fin (r:=r) (b.uq r) (by rw[j];simp) ?_;rw[j];show if_pos 05
   .calc aK ?_;rw[<-j];calc fin (r:=s.sr) b (Zk _) ?_;rw[j];show if_neg λz=>c<|by rw[z]
 .calc#[(λz=>by cases z),λ_=>aK<|fin (r:=s.sr) b (Zk _) ?_];cases j:s.sr with|nil=>rfl|cons a r=>rw[j]at c;show absurd 03 c
theorem Md:∀(l:List α)(j:Nat),(l.map f).eraseIdx j=(l.eraseIdx j).map f|[],_=>rfl|_::_,0=>rfl|a::l,j+1=>congrArg (f a:: ·)<|Md l j
def Jr7{wa:Tq}{p j:Nat}(e:(wa.map λn:Nat=>(n:Int)).findIdx? (· ==(p:Int))=B j):wa.eraseIdx j=wa.erase p:=by
 rw[List.findIdx?_map]at e;have e:wa.findIdx? (· ==p)=B j:=by rw[<-e];congr 1;funext x;lia
 rw[List.erase_eq_eraseIdx,show List.idxOf? p wa=B j from e]
def J7h(g:Bg h0 kind rs cs bE R)(w:Wf cs s)(ne:¬(s.lr=[]/\s.wa=[]))(sl:s.sr.length<100000)(b:Bn h0 h bA bE R D bD W S s):WR (CG (k+6) [.ref bA] h) λv h'=>v=.ag/\Bn h0 h' bA bE R D bD W S (QA kind rs cs s):=by
 have ll:(s.lr++s.wa).length<=cs.length:=by
  have:=w.nd.length_le_of_subset (l₂:=ZK cs.length) λp E=>fx.mpr<|w.mem p E
  rwa [ph]at this
 rw[ZB]at ll;have cn:=g.n;have H:=w.let;have n1:=DZ (cs:=cs) ne;rw[Jhc];calc ak<|ae<|JM<|Qo rfl b.b bn1 (Jga _) (Jf rfl (WR.mono (J7y (k:=k+2) g (λp E=>w.mem p<|ZZ _ E) 05 ne b) ?_));rintro _ L ⟨rfl,C⟩;have Z:=g.o.kp C.x.kp;unfold QA;have O:(aX cs s).sr.length<100000:=sl;generalize aX cs s=m at *;calc ae (aj<|Jo0 Z (ao rfl C.b L9) (by rw[show ∀(a b c:E1)(U:aA),Jb a (Jb b<|Jb c Jc) U L=(a U L).bind λx L=>((Jb b<|Jb c Jc) U L).bind λxs J=>.ok (x::xs) J from λ_ _ _ _=>rfl,ao rfl C.b yo];show congrArg (λr=>Res.bind r _)<|ar (ao rfl C.b uj)<|ao rfl C.b yp)<|WR.mono (J1m (k:=k) (C.x.get g.p1) Z g.c (C.x.get g.r) C.w C.d H.ld n1 λp E=>H.mem p<|Zr _ E) ?_);rintro _ J ⟨p,E,rfl,lm,x2⟩;have ep:=V4.eq #[E,lm];have V:=H.mem p<|Zr _ E;have ld:=H.ld;have P:=C.ex x2;calc ae<|aj<|Qo rfl P.b bn2 (Jdh _) (Jf (aq rfl)<|WR.mono (J8u (k:=k+2) g (λq hq=>H.mem q<|ZZ _ hq) P V ld) ?_);rintro _ h3 ⟨rfl,x3⟩;have M:=P.ex x3;unfold ym;rw[ep];generalize Qb rs cs m p=n;calc ae<|JM<|Qo rfl M.b bn3 (Ji7 _) (Jf (ar rfl (aP (ao rfl M.b se) rfl))<|WR.mono (J8t (k:=k+4) M O) ?_);rintro _ h4 ⟨rfl,Q⟩;calc ae (J84 rfl Q.b se rfl Q.b (by change(7:Nat)<1000;decide) ?_);rw[Ma];have I:Bn h0 _ bA bE R D bD W S #[m.ds,m.lr,m.wa,m.t+n,Vl p m.t (m.t+n) m.sr]:=Q.um<|m.t+n;calc ae (J85 (ao rfl I.b yp) rfl I.d (D6 (by change p<m.ds.length;lia)) 05 rfl I.d (j:=p) (by rw[Zp];simp[jP];lia) ?_);have F:Bn h0 _ bA bE R D bD W S #[m.ds.set p<|m.ds.getD p 0+n,m.lr,m.wa,m.t+n,Vl p m.t (m.t+n) m.sr]:=I.D3<|m.ds.set p<|m.ds.getD p 0+n;rw[<-List.map_set];refine jm (yc (aW (ao rfl F.b yp) rfl F.d (D6<|by rw[pj];lia))<|bp (aW (ao rfl F.b yo) rfl (F.x.get g.r) (Yb V)) rfl VU) (λc=>?_) λc=>?_
 .rw[Yu,if_pos #[rfl,05]]at c;have Y:m.wa.map nI=(m.wa.map λn:Nat=>(n:Int)).map .int:=by rw[fy];rfl
  have gw:=F.w;obtain⟨j,X⟩:∃j,(m.wa.map λn:Nat=>(n:Int)).findIdx? (· ==(p:Int))=B j:=by cases z:(m.wa.map λn:Nat=>(n:Int)).findIdx? (· ==(p:Int))with|none=>have:=EK.mp z p<|ZY.mpr #[p,E,rfl];simp at this|some j=>show#[j,rfl]
  calc JM (Qt (ao rfl F.b uj) gw Jq5<|Jf (aq rfl)<|Dw (ns:=m.wa.map λn:Nat=>(n:Int)) (by rw[<-Y];show gw) X #[rfl,?_]);have b7:=F.uo<|m.wa.erase p;unfold j5;rw[if_pos<|show _=cZ cs p from c,<-Y,Md,Jr7 X];show b7
 .rw[Yu,if_pos #[rfl,05]]at c;calc aK #[rfl,?_];unfold j5;rw[if_neg<|show ¬_=cZ cs p from c];show F
end
end
section
seal L4.run
section
variable{bE R D bD W S:Nat}
theorem bp0:bG "order" (.ref bE) ([]:Wo)=(cE bE 0 0 0 0 0 0).take 1:=02
theorem bp1:bG "row" (.ref R) ((cE bE 0 0 0 0 0 0).take 1)=(cE bE R 0 0 0 0 0).take 2:=02
theorem bp2:bG "dones" (.ref D) ((cE bE R 0 0 0 0 0).take 2)=(cE bE R D 0 0 0 0).take 3:=02
theorem bp3:bG "later" (.ref bD) ((cE bE R D 0 0 0 0).take 3)=(cE bE R D bD 0 0 0).take 4:=02
theorem bp4:bG "waiting" (.ref W) ((cE bE R D bD 0 0 0).take 4)=(cE bE R D bD W 0 0).take 5:=02
theorem bp5:bG "turn" (.int 0) ((cE bE R D bD W 0 0).take 5)=(cE bE R D bD W 0 0).take 6:=02
theorem bp6:bG "stretches" (.ref S) ((cE bE R D bD W 0 0).take 6)=cE bE R D bD W 0 S:=02
end
theorem Me:∀{ys:Tw}{ks:Tp},(∀y∈ys,mk y h=.ok (.int<|kf y) h)->QJ mk ys ks h=.ok (ks++ys.map kf) h|[],ks,_=>by simp[QJ]|y::ys,ks,q=>by unfold QJ;rw[q y 03];change QJ mk ys (ks++[kf y]) h=_;rw[Me λz j=>q z<|Zm _ j];simp
theorem Mf:∀p∈hU cs,p<cs.length:=λp j=>by let#[i,Z,rfl]:=ZY.mp j;have:=Y2 _ i Z;omega
def J4x(cs):(cR (cs.map mC).reverse cs.length).map (λi=>(aN 0 (cs.length:Int)).reverse.getD i .ag)=(hU cs).map nI:=by
 unfold hU;rw[fy];refine rn λi Z=>?_
 have m:=Y2 _ i Z;rw[XB];have j:i<(((ZK cs.length).map λk=>((k:Nat):Int)).map IV.int).reverse.length:=by simpa using m
 rw[jN,Zv,Zd j,yR];simp
def Mg(cs):(hU cs).Perm (ZK cs.length):=by
 by_cases n0:cs.length=0
 .unfold hU;rw[n0,wK];show .refl _
 have:=(Hb (cs.map mC).reverse<|sJ n0).map λi=>cs.length-1-i
 calc this.trans ?_;have e:(ZK cs.length).map (λi=>cs.length-1-i)=(ZK cs.length).reverse:=by
  refine mL 03 λi j J=>?_
  simp
 rw[e];show List.reverse_perm _
def J06(cs):(hU cs).Pairwise λp q=>aS cs p<=aS cs q:=by
 unfold hU;rw[yW];calc(T3 (cs.map mC).reverse cs.length).imp_of_mem λ{i j} Z E h=>?_;have m:=Y2 _ i Z;have C:=Y2 _ j E;have e:∀i,i<cs.length->(cs.map mC).reverse.getD i 0=aS cs (cs.length-1-i):=λi m=>by
  have D:i<(cs.map mC).reverse.length:=by simpa using m
  unfold aS;rw[Zv,Zd D,yR,Zv,Zd<|show cs.length-1-i<cs.length by omega];simp
 rwa [e i m,e j C]at h
def Mh(l1:∀c∈cs,1<=c.len):Wf cs (s0 cs):=by
 have D:∀p,((s0 cs).ds.getD p 0:Int)=0:=λp=>by change(cs.map λ_=>(0:Int)).getD p 0=0;rw[Zv,Z5];cases cs[p]?<;>rfl
 have C:=Mg cs;refine#[by simp[s0],λp j=>?_,?_,J06 cs,λp j=>?_,λp m j=>?_,λp j=>D p,λp j=>?_]
 .rw[show(s0 cs).lr++(s0 cs).wa=hU cs from mM _]at j;show Mf p j
 .rw[show(s0 cs).lr++(s0 cs).wa=hU cs from mM _];show C.nodup_iff.mpr vc
 .rw[show(s0 cs).lr++(s0 cs).wa=hU cs from mM _]at j;have m:=Mf p j;rw[D];have:1<=cZ cs p:=l1 _<|by simp_all
  lia
 .rw[show(s0 cs).lr++(s0 cs).wa=hU cs from mM _]at j;show absurd (C.mem_iff.mpr<|fx.mpr m) j
 .cases j
def Wf.step{kind:Int}{rs:Ua}{cs:Ub}{s:Bs}(w:Wf cs s)(ne:¬(s.lr=[]/\s.wa=[])):Wf cs (QA kind rs cs s)/\lL rs cs (QA kind rs cs s)<lL rs cs s:=by have m:=w.let;have C:=L7 w;have le:=J08 rs cs s;let#[p,j]:=D1 (kind:=kind) (rs:=rs) (cs:=cs)<|DZ (cs:=cs) ne;unfold QA ym;rw[j.eq];let#[a,b]:=D0 (rs:=rs) C (m.z p<|Zr _ j.1).2;have D:=DV (jr rs cs p) ((aX cs s).ds.getD p 0)<|cZ cs p;show#[m.do j.1 a 05,ZD (J41 m C j.1) le]
def Mi(p)(t u)(sr):(Vl p t u sr).length<=sr.length+1:=by
 unfold Vl;split
 .simp
 .split<;>simp
def Mj(h:s.lr=[]/\s.wa=[]):runM kind rs cs m s=s:=by cases m with|zero=>rfl|succ m=>show if_pos h
def ur(l6:∀r∈rs,r.2.length<=6)(C:∀c∈cs,c.at_<rs.length):lL rs cs (s0 cs)<=8*cs.length:=by
 have D:((ZK cs.length).map<|V7 rs cs (s0 cs).ds).sum<=((ZK cs.length).map λ_=>6).sum:=yn λp m=>by
  have F:=fx.mp m;have ca:(cs.getD p cd).at_<rs.length:=C _<|by simp_all
  have:=l6 _<|Z9 ca;calc Zc (yQ _ _) ?_;unfold jr;rw[yj ca];show this
 have E:=yQ (λp=>decide ((s0 cs).t<aS cs p)) (s0 cs).lr;have j:(s0 cs).lr.length=cs.length:=by have:=(Mg cs).length_eq;rwa [ph]at this
 have H:((s0 cs).lr++(s0 cs).wa).length=cs.length:=by rw[show(s0 cs).lr++(s0 cs).wa=(s0 cs).lr from mM _];show j
 rw[List.map_const',List.sum_replicate_nat,ph]at D;unfold lL;lia
def J0d:(cM kind rs cs).sr.length<=8*cs.length:=by
 have:∀(m:Nat)(s:Bs),(runM kind rs cs m s).sr.length<=s.sr.length+m:=by
  intro m;induction m with|zero=>intro s;show Zk _|succ m j=>
   intro s;unfold runM;split
   .show Zq _ _
   .have C:=j<|QA kind rs cs s;have J:(QA kind rs cs s).sr.length<=s.sr.length+1:=Mi _ _ _ _;lia
 have:=this (8*cs.length)<|s0 cs;have e:(s0 cs).sr.length=0:=rfl;unfold cM;lia
def ds0(cs)(p):(s0 cs).ds.getD p 0=0:=by change(cs.map λ_=>(0:Int)).getD p 0=0;rw[Zv,Z5];cases cs[p]?<;>rfl
section
variable{k:Nat}{h:IH}{kind:Int}{rs:Ua}{cs:Ub}{bE R:Nat}
def J0w(g:Bg h kind rs cs bE R)(t0:h[2]?=B (.tab "Bench.__init__"))(n64:cs.length<64):WR (CA (k+2) [.ref h.length,.ref bE,.ref R]<|h++[.ins "Bench" []]) λv h'=>v=.ag/\∃D bD W S,Bn h h' h.length bE R D bD W S (s0 cs):=by
 have O:=J4;rw[Jjc];calc ak<|ae<|Qk rfl rfl grown 01 ?_;rw[bp0,Xl];calc ae (Qk rfl rfl grown (by change(1:Nat)<1000;decide) ?_);rw[bp1,Xl];have H:Ex h (h++[.ins "Bench"<|(cE bE R 0 0 0 0 0).take 2]):=.one _ _;have g1:(h++[IX.ins "Bench"<|(cE bE R 0 0 0 0 0).take 2])[h.length]?=B (.ins "Bench"<|(cE bE R 0 0 0 0 0).take 2):=grown;generalize h++[IX.ins "Bench"<|(cE bE R 0 0 0 0 0).take 2]=j at H g1;calc ae ?_;rw[YI];refine WR.mono (Qr (h:=j) (xs:=cs.map aI) (aZ:=λh'=>h'[R]?=B (.lst<|cs.map aI)) (f:=λ_=>.int 0) ?_ (by rw[Zp];lia) (λJ q=>q _ _<|H.get g.r) λv hv J q=>Jf rfl #[rfl,.refl _]) ?_
 .rw[Qc];show Jf rfl ((Qs _).mpr #[_,H.get g.r,rfl,rfl,rfl])
 rintro _ _ ⟨rfl,F,rfl⟩;have Z:=J9 g1;calc Jf rfl #[_,_,_,rfl,grow g1,by change(2:Nat)<1000;decide,?_];rw[bp2];have C:=Qu (i:=h.length) (o:=.ins "Bench"<|(cE bE R j.length 0 0 0 0).take 3) (H.trans<|Ex.cons j (.lst<|(cs.map aI).map λ_=>.int 0) F)<|Zk _;have g2:=JZ (o':=.ins "Bench"<|(cE bE R j.length 0 0 0 0).take 3)<|grow g1 (g:=.lst ((cs.map aI).map λ_=>.int 0)::F);have d2:=J8 (i:=h.length) (o':=.ins "Bench"<|(cE bE R j.length 0 0 0 0).take 3) (J1 (h:=j) (o:=.lst<|(cs.map aI).map λ_=>.int 0) (g:=F)) 05;generalize j.length=D at *;generalize (j++IX.lst ((cs.map aI).map λ_=>.int 0)::F).set h.length (.ins "Bench"<|(cE bE R D 0 0 0 0).take 3)=J at C g2 d2;have ks:QJ (λv h'=>Xt (k+1) [B v,B<|.ref R] h') (aN 0 (cs.length:Int)) [] J=.ok (cs.map mC) J:=by
  have:=Me (mk:=λv h'=>Xt (k+1) [B v,B<|.ref R] h') (kf:=λv=>match v with|.int p=>aS cs p.toNat|_=>0) (h:=J) (ys:=aN 0 (cs.length:Int)) (ks:=[]) λy Q=>by rw[XB,jN,fy]at Q;let#[p,hp,rfl]:=ZY.mp Q;have V:=fx.mp hp;change Xt (k+1) [B<|nI p,B<|.ref R] J=.ok (.int<|aS cs<|kG (p:Int)) J;rw[jN];show Jr (aq<|aW rfl rfl (C.get g.r) (Yb V)) LZ
  rw[this,jM,XB,jN,fy,fy];congr 1;refine mL 03 λi j J=>?_
  have li:i<cs.length:=by simpa using J
  simp![iS,yV,Function.comp,jN,aS];rw[Zv,Zd li];rfl
 have X:Yo "Bench.__init__" 2 [2] (Jb (bt (bu bH)<|Jb 'c' Jc) Jc) (Xt<|k+1) [B<|.ref h.length,B<|.ref bE,B<|.ref R] J=.ok (.ref J.length) (J++[.lst<|(hU cs).reverse.map nI]):=by unfold Yo;rw[aq<|dP rfl (C.get g.r),Zp];change(match [IV.int (cs.length:Int)],J[2]? with|[.int n],B (.tab q')=>_|_,_=>_)=_;rw[C.get t0];change(if _ then _ else _)=_;rw[if_pos #[rfl,05,05]];change(QJ (λv h'=>Xt (k+1) [B v,B<|.ref R] h') (aN 0 (cs.length:Int)) [] J).bind _=_;rw[ks];change Y9 (aN 0 (cs.length:Int)).reverse (cs.map mC).reverse J=_;unfold Y9;rw[show(aN 0 (cs.length:Int)).reverse.length=cs.length by rw[jw,XB];simp,J4x,List.map_reverse]
 calc ae (Qk X rfl (grow g2) (by change(3:Nat)<1000;decide) ?_);rw[bp3];have lt2:=J9 d2;have P:=Qu (i:=h.length) (o:=.ins "Bench"<|(cE bE R D J.length 0 0 0).take 4) (C.trans<|Ex.one J<|.lst<|(hU cs).reverse.map nI)<|Zk _;have m:=JZ (o':=.ins "Bench"<|(cE bE R D J.length 0 0 0).take 4)<|grow g2 (g:=[.lst<|(hU cs).reverse.map nI]);have L:=J8 (i:=h.length) (o':=.ins "Bench"<|(cE bE R D J.length 0 0 0).take 4) (grow d2 (g:=[.lst<|(hU cs).reverse.map nI])) 05;have I:=J8 (i:=h.length) (o':=.ins "Bench"<|(cE bE R D J.length 0 0 0).take 4) (grown (h:=J) (o:=.lst<|(hU cs).reverse.map nI)) 05;generalize J.length=bD at *;generalize (J++[IX.lst<|(hU cs).reverse.map nI]).set h.length (.ins "Bench"<|(cE bE R D bD 0 0 0).take 4)=E at P m L I;have Y:=J9 I;calc ae ?_;rw[YI];calc lB (Jf rfl #[ZF _,Jf rfl #[_,_,_,rfl,grow m,by change(4:Nat)<1000;decide,?_]]);rw[bp4];calc ae (Qk rfl rfl (JZ<|grow m) (by change(5:Nat)<1000;decide) ?_);rw[bp5,vg];unfold KU;rw[YI];calc lB (Jf rfl #[ZF _,Jf rfl #[_,_,_,rfl,grow<|JZ<|grow m,by change(6:Nat)<1000;decide,rfl,?_]]);rw[bp6];have M:=grown (h:=E) (o:=.lst []);have U:=J9 M;rw[ZB,pd]at U;have ln:(List.set (E++[IX.lst []]) h.length<|.ins "Bench"<|(cE bE R D bD E.length 0 0).take 6).length=E.length+1:=by rw[pj,ZB,pd]
 calc#[D,bD,E.length,_,Qu ((Qu (P.trans<|.one _ _)<|Zk _).trans<|.one _ _)<|Zk _,#[Zk _,05,05,05,05],JZ<|grow<|JZ<|grow m,J8 (grow<|J8 (grow ?_) 05) 05,J8 (grow<|J8 (grow I) 05) 05,J8 (grow<|J8 M 05) 05,J8 grown 05];rw[L];simp[s0]
def J5m(g:Bg h kind rs cs bE R)(O:h[2]?=B (.tab "Bench.__init__"))(bD:cO rs cs)(H:cs.length<64):
  WR (CH (k+7) [.ref bE,.ref R] h) λv h'=>∃j,v=.ref j/\h.length<=j/\h'[j]?=B (.lst<|(cM kind rs cs).sr.reverse.map tupS)/\Ex h h':=by
 let#[Du,X,M]:=DU g.o;have L:Wf cs (s0 cs):=Mh λc Z=>(bD.ok c Z).n1
 rw[J31];calc ak<|ae<|JM<|xb<|Jf (ar (M _ _ rfl) rfl)<|WR.mono (J3g (k:=k+1) X g.r bD g.n) ?_;rintro _ E ⟨rfl,C⟩;have g1:Bg E kind rs cs bE R:=#[g.o.kp C.kp,C.get g.r,g.c,g.l6,C.get g.p1,g.n];calc ae<|aj ?_;rw[VP];calc Jf (ar rfl rfl)<|WR.mono (J0w (k:=k+4) g1 (C.get O) H) ?_;rintro _ J ⟨rfl,D,P,W,S,I⟩;calc#[rfl,ae ?_];have V:=ur g.l6 g.c;have cn:=g.n;calc yk (λm U h'=>∃s,U=[B<|.ref bE,B<|.ref R,B<|.ref E.length]/\Bn E h' E.length bE R D P W S s/\Wf cs s/\lL rs cs s<=m/\s.sr.length+m<=8*cs.length/\runM kind rs cs m s=cM kind rs cs) ?_ (show 8*cs.length<1000000 by lia) #[s0 cs,rfl,I,L,V,by simp[s0],rfl];rintro m _ h3 ⟨s,rfl,b,w,lm,ls,F⟩;refine Jf (jk (aP (dP (ao rfl b.b ui) b.l)<|dP (ao rfl b.b uj) b.w) rfl)<|fm (λc=>?_) λc=>?_
 .have ne:¬(s.lr=[]/\s.wa=[]):=λ⟨a,z⟩=>by rw[a,z]at c;show absurd c 03
  let#[Y,lt]:=w.step (kind:=kind) (rs:=rs) ne;cases m with|zero=>lia|succ m=>
   calc#[m,rfl,JM<|Qo rfl b.b bn4 (Jg8 _) (Jf rfl (WR.mono (J7h (k:=k) g1 w ne 05 b) ?_))];rintro _ h4 ⟨rfl,Q⟩;refine#[_,rfl,Q,Y,05,?_,?_]
   .have:=Mi (X7 kind rs cs (aX cs s).wa) (aX cs s).t ((aX cs s).t+Qb rs cs (aX cs s) (X7 kind rs cs (aX cs s).wa)) s.sr;have:(QA kind rs cs s).sr.length<=s.sr.length+1:=this;lia
   .rw[<-F];show(if_neg ne).symm
 .have ne:s.lr=[]/\s.wa=[]:=by simp![Zp,jw]at c;show#[uZ.mp 05,uZ.mp 05]
  rw[Mj ne]at F;refine ax<|Jf (ao rfl b.b uk) #[S,rfl,?_,?_,C.trans b.x]
  .have:=b.ap;have:=J9 I.b;let#[gg,rfl]:=C;rw[ZB]at *;lia
  .rw[<-F];show b.s
end
end
abbrev St3:=Nat×Int×Int
abbrev _root_.Tt:=List St3
def cj(p:Nat)(l:Tt):Int:=(l.map λa=>if a.1=p then a.2.2-a.2.1 else 0).sum
def QY:cj p (a::l)=(if a.1=p then a.2.2-a.2.1 else 0)+cj p l:=by simp[cj]
def Jxu(w:s.lr.Pairwise λp q=>aS cs p<=aS cs q)(j:q∈s.lr):Qb rs cs s p<=aS cs q-s.t:=by
 unfold Qb;cases e:s.lr with|nil=>rw[e]at j;cases j|cons a r=>
  rw[e]at j w;have:aS cs a<=aS cs q:=by
   rcases ZA.mp j with rfl|j
   .show ZJ _
   .show(nW.mp w).1 q j
  dsimp only;split<;>lia
def dJ(rs:Ua)(cs:Ub)(p:Nat):Int:=lK rs<|cs.getD p cd
def j6(rs:Ua)(cs:Ub)(b d:Int)(f:Nat->Int):Int:=((ZK cs.length).map λq=>if b<=aS cs q/\dJ rs cs q<=d then f q else 0).sum
theorem D9{f g:Nat->Int}:∀(l:Tq),(∀q∈l,f q<=g q)->(l.map f).sum<=(l.map g).sum
 |[],_=>ZJ _
 |a::l,h=>by
  have:=D9 l λq j=>h q<|Zm _ j
  have:=h a Z7;simp;show Int.add_le_add 06 06
theorem Ea{n:Int}:∀(l:Tq),l.Nodup->p∈l->(∀q∈l,q≠p->g q=f q)->g p=f p+n->(l.map g).sum=(l.map f).sum+n
 |[],_,h,_,_=>by cases h
 |a::l,nd,h,e1,e2=>by
  let#[C,m]:=rA.mp nd;simp;by_cases z:p=a
  .subst z;rw[e2,rn λq j=>e1 q (Zm _ j) λe=>C<|e▸j];lia
  .rcases ZA.mp h with h|h
   .show absurd h z
   .rw[Ea l m h (λq j=>e1 q<|Zm _ j) e2,e1 a Z7<|ZP z];lia
def Bz(rs:Ua)(cs:Ub)(s:Bs)(d:Int):Prop:=∃b,(∃c,c<cs.length/\aS cs c=b)/\s.t-b<=j6 rs cs b d (λq=>s.ds.getD q 0)/\∀q∈s.wa,dJ rs cs q<=d->b<=aS cs q
structure Sv(kind:Int)(rs:Ua)(cs:Ub)(s:Bs):Prop where
 tl:∀a r,s.sr=a::r->a.2.2=s.t
 ea:∀a∈s.sr,a.1<cs.length/\aS cs a.1<=a.2.1/\a.2.1<a.2.2/\0<s.ds.getD a.1 0
 pw:s.sr.Pairwise λa b=>b.2.2<=a.2.1
 sm:∀p,p<cs.length->cj p s.sr=s.ds.getD p 0
 lt:∀p∈s.lr,s.t<=aS cs p
 bz:kind=0->∀d,(∃q∈s.wa,dJ rs cs q<=d)->Bz rs cs s d
 -- where nothing is too full,nobody is af
 ot:kind=0->(∀b d,(∃c,c<cs.length/\aS cs c=b)->j6 rs cs b d (cZ cs)<=d-b\/∀q,q<cs.length->b<=aS cs q->d<dJ rs cs q)->∀a∈s.sr,a.2.2<=dJ rs cs a.1
def Sv.step{kind:Int}{cs:Ub}(l1:∀q,q<cs.length->1<=cZ cs q)(w:Wf cs s)(ne:¬(s.lr=[]/\s.wa=[]))(v:Sv kind rs cs s):Sv kind rs cs (QA kind rs cs s):=by
 have V:=w.let;have gt:=L7 w;have tg:=DY cs s;let#[p,ip]:=D1 (kind:=kind) (rs:=rs) (cs:=cs)<|DZ (cs:=cs) ne;have C:=ip.1;unfold QA ym;rw[ip.eq];have Y:=V.z p<|Zr _ C;have U:=V.mem p<|Zr _ C;have rp:aS cs p<=bZ cs s:=V.rw p C;let#[n0,n1]:=D0 (rs:=rs) gt Y.2;have n2:=λq j=>Jxu (rs:=rs) (p:=p) V.oR (q:=q) j
 have sl:=DV (jr rs cs p) (s.ds.getD p 0)<|cZ cs p;generalize Qb rs cs (aX cs s) p=n at n0 n1 n2;have n1:s.ds.getD p 0+n<=QX (jr rs cs p) (s.ds.getD p 0) (cZ cs p):=n1;have n2:∀q∈(aX cs s).lr,n<=aS cs q-bZ cs s:=n2;have Y:0<=s.ds.getD p 0/\_:=Y;have ld:=w.ld;have gd:∀q,(j5 rs cs (aX cs s) p n).ds.getD q 0=if p=q then s.ds.getD p 0+n else s.ds.getD q 0:=λq=>by
  change(s.ds.set p _).getD q 0=_;rw[Yu];by_cases e:p=q
  .subst e;rw[if_pos #[rfl,05],if_pos rfl];rfl
  .rw[if_neg λz=>e z.1,if_neg e]
 let#[cc,e1,Q,e3,_]:=X9 cs (bZ cs s) s.lr s.wa;have Q:(aX cs s).wa=s.wa++cc:=Q
 -- who has just bO in is ready just now
 have new:∀q∈s.lr,aS cs q<=bZ cs s->aS cs q=bZ cs s:=λq j l=>by
  have h1:=v.lt q j;unfold bZ at l ⊢;split
  .rename_i x xs E L;simp![E,L]at l;have oR:=w.oR;rw[L]at oR j;have:aS cs x<=aS cs q:=by
    rcases ZA.mp j with rfl|j
    .show ZJ _
    .show(nW.mp oR).1 q j
   split at l
   .rw[if_pos 06];lia
   .rw[if_neg 06];lia
  .rename_i h;split at l
   .rename_i x xs E L;show absurd L<|h _ _ E
   .lia
 have sub:∀q∈(j5 rs cs (aX cs s) p n).wa,q∈(aX cs s).wa:=λq j=>by
  have j:q∈if s.ds.getD p 0+n=cZ cs p then(aX cs s).wa.erase p else(aX cs s).wa:=j
  split at j
  .show ER j
  .show j
 -- nobody who waits is aD ahead of p
 have aD:kind=0->∀q∈(aX cs s).wa,dJ rs cs p<=dJ rs cs q:=λz q j=>by
  subst z;have h:=ip.2 q j;change cX [dJ rs cs q,1,(q:Int)] [dJ rs cs p,1,(p:Int)]=Zl at h;unfold cX at h;by_cases e:dJ rs cs q=dJ rs cs p
  .lia
  .rw[if_neg e,decide_eq_false_iff_not]at h;lia
 have nn:∀q,q<cs.length->0<=s.ds.getD q 0/\s.ds.getD q 0<=cZ cs q:=λq I=>by
  by_cases m:q∈s.lr++s.wa
  .have:=w.z q m;lia
  .have h:=w.dn q I m;have z:=l1 q I;lia
 -- the step keeps those aD by d,or ends their time
 have R:kind=0->∀d,dJ rs cs p<=d->∃b,(∃c,c<cs.length/\aS cs c=b)/\b<=aS cs p/\bZ cs s+n-b<=j6 rs cs b d (λq=>(j5 rs cs (aX cs s) p n).ds.getD q 0)/\∀q∈(aX cs s).wa,dJ rs cs q<=d->b<=aS cs q:=λz0 d dp=>by
  have add:∀b,b<=aS cs p->j6 rs cs b d (λq=>(j5 rs cs (aX cs s) p n).ds.getD q 0)=j6 rs cs b d (λq=>s.ds.getD q 0)+n:=λb O=>by
   refine Ea _ vc (fx.mpr U) (λq _ nq=>?_) ?_
   .dsimp only;rw[gd,if_neg<|ZP nq]
   .dsimp only;rw[gd,if_pos rfl,if_pos #[O,dp],if_pos #[O,dp]]
  by_cases h:∃q∈s.wa,dJ rs cs q<=d
  .have t0:bZ cs s=s.t:=by
    unfold bZ;split
    .rename_i E _;let#[q,j,_]:=h;rw[E]at j;cases j
    .rfl
   let#[b,#[c,lc,ec],le,W]:=v.bz z0 d h;have M:∀q∈(aX cs s).wa,dJ rs cs q<=d->b<=aS cs q:=λq j F=>by
    rw[Q]at j;rcases ZQ.mp j with j|j
    .show W q j F
    .have:=new q (by rw[e1];show ZZ _ j)<|e3 q j;have:b<=s.t:=by let#[x,S,Z]:=h;have:=W x S Z;have:=w.rw x S;lia
     lia
   have X:=M p C dp;calc#[b,#[c,lc,ec],X,?_,M];rw[add b X,t0];lia
  .have nw:∀q∈(aX cs s).wa,dJ rs cs q<=d->aS cs q=bZ cs s:=λq j F=>by
    rw[Q]at j;rcases ZQ.mp j with j|j
    .show absurd #[q,j,F] h
    .show new q (by rw[e1];show ZZ _ j)<|e3 q j
   have ep:=nw p C dp;calc#[bZ cs s,#[p,U,ep],05,?_,λq j F=>by rw[nw q j F];show ZJ _];rw[add _ 05];have:0<=j6 rs cs (bZ cs s) d (λq=>s.ds.getD q 0):=by
    have z:=D9 (f:=λ_=>0) (g:=λq=>if bZ cs s<=aS cs q/\dJ rs cs q<=d then s.ds.getD q 0 else 0) (ZK cs.length) λq j=>by have:=nn q<|fx.mp j;split<;>lia
    have e0:∀l:Tq,(l.map λ_=>(0:Int)).sum=0:=λl=>by induction l with|nil=>rfl|cons a l ih=>rw[ZW,px,ih];rfl
    rw[e0]at z;show z
   lia
 have P:∀a r,s.sr=a::r->a.1=p->a.2.2=bZ cs s:=λa r e z=>by
  have h1:=v.tl a r e;have J:=(v.ea a<|by rw[e];simp).2.2.2;rw[z]at J;rw[h1];unfold bZ;split
  .rename_i E L;have C:p∈(aX cs s).wa:=C;rw[Q,E,jM]at C;have:=w.z0 p<|by rw[e1];show ZZ _ C
   lia
  .rfl
 have pr:=v.pw;have tl:=v.tl;have ea:=v.ea;have sm:=v.sm;obtain⟨b,r,D,sb,b1,b2,p1,p2,s1,s2⟩:∃b r,Vl p (bZ cs s) (bZ cs s+n) s.sr=(p,b,bZ cs s+n)::r/\(∀c∈r,c∈s.sr)/\b<=bZ cs s/\aS cs p<=b/\r.Pairwise (λa b=>b.2.2<=a.2.1)/\(∀c∈r,c.2.2<=b)/\cj p r+(bZ cs s-b)=cj p s.sr/\∀q,p≠q->cj q r=cj q s.sr:=by
  cases e:s.sr with|nil=>show#[_,[],rfl,λ_ h=>h,ZJ _,rp,.nil,(λ_ h=>by cases h),05,λ_ _=>rfl]|cons a r=>
   rw[e]at pr;let#[q1,q2]:=nW.mp pr;have t1:=tl a r e;have ha:=ea a<|by rw[e];simp
   by_cases z:a.1=p
   .have sa:=P a r e z;show#[a.2.1,r,if_pos z,λ_ h=>Zm _ h,05,by rw[<-z];show ha.2.1,q2,q1,by rw[QY,if_pos z];lia,λq nq=>by rw[QY,if_neg<|by rw[z];show nq];lia]
   .calc#[_,a::r,if_neg z,λ_ h=>h,ZJ _,rp,pr,λc H=>?_,05,λ_ _=>rfl];rcases ZA.mp H with rfl|H
    .lia
    .have:=q1 c H;lia
 have D:(j5 rs cs (aX cs s) p n).sr=(p,b,bZ cs s+n)::r:=D;refine#[λa r' z=>?_,λa ha=>?_,by rw[D];show nW.mpr #[p2,p1],λq I=>?_,λq j=>?_,λz0 d ⟨q,j,F⟩=>?_,λz0 no a ha=>?_]
 .rw[D]at z;cases z;rfl
 .rw[D]at ha;rw[gd];rcases ZA.mp ha with rfl|ha
  .show#[U,b2,by change b<bZ cs s+n;lia,by rw[if_pos rfl];lia]
  .have:=ea a<|sb a ha;calc#[this.1,this.2.1,this.2.2.1,?_];split<;>lia
 .rw[D,gd,QY];by_cases z:p=q
  .subst z;rw[if_pos rfl,if_pos rfl,<-sm p I];change bZ cs s+n-b+_=_;lia
  .rw[if_neg z,if_neg z,s2 q z,sm q I];lia
 .have:=n2 q j;change bZ cs s+n<=_;lia
 .have j:=sub q j;let#[b,H,_,le,W]:=R z0 d<|eN (aD z0 q j) F;show#[b,H,le,λx S Z=>W x (sub x S) Z]
 .rw[D]at ha;rcases ZA.mp ha with rfl|ha
  .let#[b,H,X,le,_]:=R z0 (dJ rs cs p)<|ZJ _;have up:j6 rs cs b (dJ rs cs p) (λq=>(j5 rs cs (aX cs s) p n).ds.getD q 0)<=j6 rs cs b (dJ rs cs p) (cZ cs):=D9 _ λq j=>by
    have:=nn q<|fx.mp j;dsimp only;rw[gd];split
    .split
     .rename_i e;subst e;lia
     .lia
    .lia
   change bZ cs s+n<=dJ rs cs p;rcases no b (dJ rs cs p) H with z|z
   .lia
   .have:=z p U X;lia
  .show v.ot z0 no a<|sb a ha
theorem Ml(I:Bs->Prop)(step:∀s,Wf cs s->¬(s.lr=[]/\s.wa=[])->I s->I (QA kind rs cs s)):∀(m:Nat)(s:Bs),Wf cs s->lL rs cs s<=m->I s->Wf cs (runM kind rs cs m s)/\(runM kind rs cs m s).lr=[]/\(runM kind rs cs m s).wa=[]/\I (runM kind rs cs m s)
 |m,s,w,lm,i=>by
  by_cases ne:s.lr=[]/\s.wa=[]
  .rw[Mj ne];show#[w,ne.1,ne.2,i]
  .let#[j,lt]:=w.step (rs:=rs) ne;cases m with
   |zero=>lia
   |succ m=>rw[show runM kind rs cs (m+1) s=runM kind rs cs m (QA kind rs cs s)from if_neg ne];show Ml I step m _ j (mH<|Zc lt lm)<|step s w ne i
def Eb(bD:cO rs cs)(m:∀r∈rs,r.2.length<=6):Sv kind rs cs (cM kind rs cs)/\∀p,p<cs.length->cj p (cM kind rs cs).sr=cZ cs p:=by
 have cm:∀p,p<cs.length->DL rs (cs.getD p cd):=λp j=>bD.ok _<|by rw[Zv,Zd j];show Z9 j
 have D:=Mh (cs:=cs) λc C=>(bD.ok c C).n1
 have O:=Ml (kind:=kind) (rs:=rs) (cs:=cs) (Sv kind rs cs) (λs w ne v=>v.step (λq I=>(cm q I).n1) w ne) (8*cs.length) (s0 cs) D (ur m λc C=>(bD.ok c C).at_) #[(λa r e=>by cases e),(λa ha=>by cases ha),.nil,(λp j=>(ds0 cs p).symm),(λp P=>by have:=cm p<|D.mem p<|ZZ _ P;have Q:=this.bO;have J:=this.l0;change(0:Int)<=(cs.getD p cd).bO+(cs.getD p cd).af;lia),(λ_ d ⟨q,H,_⟩=>by cases H),λ_ _ a ha=>by cases ha];let#[F,M,L,E]:=O;calc#[E,λp j=>?_];rw[show cj p (cM kind rs cs).sr=_ from E.sm p j];show F.dn p j<|by rw[M,L];simp
section
seal L4.run L4.WS
def bS(p:Nat):Tt->Wz|[]=>Ze|a::l=>match bS p l with|some e=>B e|none=>if a.1=p then B a.2.2 else Ze
theorem Mn:∀{l:Tt},bS p (l++[a])=if a.1=p then B a.2.2 else bS p l
 |[]=>by simp[bS]
 |b::l=>by
  rw[iQ,bS,Mn,bS];by_cases e:a.1=p
  .rw[if_pos e,if_pos e]
  .rw[if_neg e,if_neg e]
def Jr2{l:Tt}(e:l[n]?=B a):bS p (l.take<|n+1)=if a.1=p then B a.2.2 else bS p (l.take n):=by have hn:=(Zu.mp e).1;rw[sO hn,Mn,(Zu.mp e).2]
def Jxt:cj p (l++m)=cj p l+cj p m:=by simp[cj]
theorem Mo:∀{l:Tt},cj p l.reverse=cj p l|[]=>rfl|a::l=>by rw[pe,Jxt,Mo,QY,QY];change _+(_+0)=_;lia
theorem Ec:∀{l:Tt},bS p l=Ze->cj p l=0
 |[],_=>rfl
 |a::l,e=>by
  rw[bS]at e;cases q:bS p l with
  |some z=>rw[q]at e;cases e
  |none=>
   rw[q]at e;by_cases ea:a.1=p
   .simp[ea]at e
   .rw[QY,Ec q,if_neg ea];rfl
def QL(kind:Int)(rs:Ua)(cs:Ub):Tp:=(ZK cs.length).map λp=>(bS p (cM kind rs cs).sr.reverse).getD 0
def Mp(bD:cO rs cs)(j:∀r∈rs,r.2.length<=6):(∀a∈(cM kind rs cs).sr.reverse,a.1<cs.length)/\(∀p,p<cs.length->(bS p (cM kind rs cs).sr.reverse).isSome=Zi)/\(cM kind rs cs).sr.reverse.length<=8*cs.length:=by let#[D,sm]:=Eb bD j;have C:=J0d (kind:=kind) (rs:=rs) (cs:=cs);calc#[λa ha=>(D.ea a<|sR.mp ha).1,λp m=>?_,by rw[jw];show C];cases q:bS p (cM kind rs cs).sr.reverse with|some z=>rfl|none=>have z:=Ec q;rw[Mo,sm p m]at z;have n1:=(bD.ok (cs.getD p cd)<|by simp_all).n1;unfold cZ at z;lia
def Jw3(kvs)(k)(v):(putD kvs k v).length<=kvs.length+1:=by unfold putD;split<;>simp
def qE(ss:Tt)(v:IV):IV:=match v with|.int x=>.int<|(bS x.toNat ss).getD 0|_=>.ag
def Jvm(ss)(n:Nat):(aN 0 (n:Int)).map (qE ss)=((ZK n).map λp=>(bS p ss).getD 0).map .int:=by
 rw[fy];refine mL (by rw[Zp,JG,Zp,ph];rfl) λi j J=>?_
 rw[iS,Qq,iS,yV];simp[qE]
section
variable{k:Nat}{h:IH}{kind:Int}{rs:Ua}{cs:Ub}{bE R:Nat}
def Jz7(g:Bg h kind rs cs bE R)(Y:h[2]?=B (.tab "Bench.__init__"))(bD:cO rs cs)(P:cs.length<64):
  WR (CI (k+8) [.ref bE,.ref R] h) λv h'=>∃j,v=.ref j/\h.length<=j/\h'[j]?=B (.lst<|(QL kind rs cs).map .int)/\Ex h h':=by
 have O:=J4;let#[_,sp,X]:=Mp (kind:=kind) bD g.l6;rw[J0g];calc ak<|ae<|aj<|Jf rfl (ae<|jo ?_);rw[Qc];have D:Ex h (h++[IX.aY []]):=.one _ _;have g1:(h++[IX.aY []])[h.length]?=B (.aY []):=grown;have l1:(h++[IX.aY []]).length=h.length+1:=03;generalize h++[IX.aY []]=hA at D g1 l1;calc xb<|Jf (ar rfl rfl)<|WR.mono (J5m (k:=k) #[g.o.kp D.kp,D.get g.r,g.c,g.l6,D.get g.p1,g.n] (D.get Y) bD P) ?_;rintro _ J ⟨F,rfl,lF,I,M⟩;unfold QL;generalize (cM kind rs cs).sr.reverse=C at sp X I ⊢;calc(Qs _).mpr #[_,I,?_];have H:=M.get<|D.get g.r;have lR:=J9 g.r;refine Vc (λn U h'=>∃a m,U=[B<|.ref bE,B<|.ref R,B<|.ref h.length,a]/\h'[h.length]?=B (.aY m)/\m.length<=n/\iF h.length J h'/\∀p:Nat,bo m (.inl (p:Int))=(bS p<|C.take n).map .int) (λn U h' ⟨_,_,_,_,_,E,_⟩=>E _ _ 05 I) ?_ ?_ #[_,[],rfl,M.get g1,Zk _,λ_ _ _ e=>e,λp=>rfl]
 .rintro n hn _ h3 ⟨a,m,rfl,gd,ld,E,ev⟩;have hn:n<C.length:=by simpa using hn
  have en:C[n]?=B C[n]:=Zd hn;have st:∀p,bS p (C.take<|n+1)=_:=λp=>Jr2 en
  rw[iS];generalize C[n]=b at en st;calc j1 rfl ((xg ..).mpr<|Jf (bp rfl rfl VT) ?_);rw[DJ];calc Jf rfl (Jf (bp rfl rfl Q5) ?_);rw[DK gd 05];calc#[_,_,rfl,JZ gd,Zc (Jw3 ..) 05,λj o W e=>J8 (E j o W e)<|ZP W,λp=>?_];rw[yg,st,ev];by_cases e:b.1=p
  .rw[if_pos e,if_pos<|by rw[e]];rfl
  .rw[if_neg e,if_neg λz=>e (by cases z;rfl)]
 .rintro _ S ⟨a,m,rfl,gd,ld,E,ev⟩;rw[Zp,va]at ev;have L:=E _ _ (show R≠h.length by lia) H;have V:Ex h S:=V8 λj o e=>E j o (by have:=J9 e;lia)<|M.get<|D.get e
  refine ax (WR.mono (Qr (h:=S) (xs:=aN 0 (cs.length:Int)) (aZ:=λ_=>True) (f:=qE C) ?_ (by rw[JG];lia) (λ_ _=>trivial) ?_) ?_)
  .rw[Vn];calc Jf (aq<|dP rfl L) ?_;rw[Xm,Zp];show#[05,rfl,rfl,rfl]
  .intro x Z h5 q;let#[n,hn,rfl]:=iO.mp Z;rw[Qq,show(0+(n:Int))=(n:Int) by lia];rw[JG]at hn;have Q:=sp n 05;cases eq:bS n C with|none=>rw[eq]at Q;cases Q|some e=>have ev:=ev n;rw[eq]at ev;unfold KZ;calc Jf ((aJ rfl rfl).trans<|Js<|by rw[DI (q _ _ gd) ev];show#[rfl,rfl]) #[?_,.refl _];change _=IV.int ((bS (kG n) C).getD 0);rw[show kG (n:Int)=n by lia,eq];rfl
  .rintro _ _ ⟨rfl,gg,rfl⟩;show#[_,rfl,V.len,by rw[J1,Jvm],V.trans<|.cons _ _ _]
def Vi(kind:Int)(rs:Ua)(cs:Ub):Tp:=((ZK cs.length).filter λp=>decide (lK rs (cs.getD p cd)<(QL kind rs cs).getD p 0)).map λ(n:Nat)=>(n:Int)
def Mq(cs:Ub)(n:Nat):IV:=.tup [.int (n:Int),aI<|cs.getD n cd]
def yr(cs):Qm 0 (cs.map aI)=(ZK cs.length).map (Mq cs):=by
 refine nX λi=>?_
 rw[Yq,Z5,Z5];by_cases j:i<cs.length
 .rw[u7 j];simp[Mq,j]
 .simp_all
noncomputable def bw (v:IV):aA:=match v with|.tup [i,c]=>[B i,B c]|_=>[]
def fsE(v:IV):IV:=match v with|.tup [i,_]=>i|_=>.ag
def J7w(kind:Int)(rs:Ua)(cs:Ub)(v:IV):Bool:=match v with|.tup [.int i,_]=>decide (lK rs (cs.getD i.toNat cd)<(QL kind rs cs).getD i.toNat 0)|_=>Zl
def Jz6(hn:n<cs.length):bW ((QL kind rs cs).map IV.int) (n:Int)=B (.int<|(QL kind rs cs).getD n 0):=by
 have l:n<(QL kind rs cs).length:=by simpa[QL]using hn
 show JN<|by simp_all
def Jtj(g:Bg h kind rs cs bE R)(U:h[2]?=B (.tab "Bench.__init__"))(bD:cO rs cs)(F:cs.length<64):
  WR (VR (k+9) [.ref bE,.ref R] h) λv h'=>∃j,v=.ref j/\h.length<=j/\h'[j]?=B (.lst<|(Vi kind rs cs).map .int)/\Ex h h':=by
 have O:=J4;rw[Jsi];calc ak<|ae<|aj<|xb<|Jf (ar rfl rfl)<|WR.mono (Jz7 (k:=k) g U bD F) ?_;rintro _ J ⟨E,rfl,W,M,D⟩;have C:=D.get g.r;refine ax (WR.mono (Jx2 (h:=J) (xs:=Qm 0<|cs.map aI) (aZ:=λh'=>h'[R]?=B (.lst<|cs.map aI)) (n:=2) (st:=bw) (p:=J7w kind rs cs) (f:=fsE) ?_ (by rw[VZ,Zp];lia) (λH q=>q _ _ C) ?_ ?_ ?_) ?_)
 .rw[Vn];show Jf (aq rfl)<|(HX _).mpr #[_,C,rfl,rfl,rfl]
 .intro x m I H Q;rw[yr]at m;let#[n,_,rfl]:=ZY.mp m;match I,Q with|[a,b],_=>show#[rfl,rfl]
 .intro x m H q;rw[yr]at m;let#[n,hn,rfl]:=ZY.mp m;have hn:=fx.mp hn;let#[X,L,S]:=DU<|(g.o.kp D.kp).kp q;have P:cs.getD n cd∈cs:=by rw[Zv,Zd hn];show Z9 hn
  unfold K0;calc Jf (jk (aW rfl rfl (q _ _ M) (Jz6 hn))<|Jr (ar (S _ _ rfl) rfl)<|L1 (k:=k+6) L<|g.c _ P) #[?_,.refl _];change _=decide (lK rs (cs.getD (kG n) cd)<(QL kind rs cs).getD (kG n) 0);rw[show kG (n:Int)=n by lia]
 .intro x m _ H q;rw[yr]at m;let#[n,_,rfl]:=ZY.mp m;show Jf rfl #[rfl,.refl _]
 .rintro _ _ ⟨rfl,V,rfl⟩;calc#[_,rfl,D.len,?_,D.trans<|.cons _ _ _];rw[J1,yr,List.filter_map,fy,Vi,fy];rfl
end
end
theorem Ed{p:Nat}:∀{l:Tt}{e:Int},bS p l=B e->∃c∈l,c.1=p/\c.2.2=e
 |a::l,e,h=>by
  rw[bS]at h;cases q:bS p l with
  |some z=>rw[q]at h;cases h;let#[c,j,m]:=Ed q;show#[c,Zm _ j,m]
  |none=>
   rw[q]at h;by_cases z:a.1=p
   .simp only[z,if_true,Option.some.injEq]at h;show#[a,Z7,z,h]
   .simp[z]at h
theorem Mr:∀{l:Tt},l.Pairwise (λa b=>a.2.2<=b.2.1)->(∀a∈l,a.2.1<a.2.2)->∀a∈l,a.1=p->a.2.2<=(bS p l).getD 0
 |b::l,pw,ps,a,ha,z=>by
  let#[p1,E]:=nW.mp pw;rw[bS];cases q:bS p l with
  |some e=>
   rcases ZA.mp ha with rfl|ha
   .let#[c,C,_,H]:=Ed q;have:=p1 c C;have:=ps c<|Zm _ C;change _<=e;lia
   .have:=Mr (p:=p) E (λx j=>ps x<|Zm _ j) a ha z;rw[q]at this;show this
  |none=>
   rcases ZA.mp ha with rfl|ha
   .simp[z]
   .have:=Ec q;have F:∀{l:Tt},(∀a∈l,a.2.1<a.2.2)->(∃a∈l,a.1=p)->0<cj p l:=λ{l}=>by
     induction l with
     |nil=>intro _ ⟨_,h,_⟩;cases h
     |cons c l m=>
      intro ps ⟨x,j,ex⟩;have I:0<=cj p l:=by
       by_cases h:∃a∈l,a.1=p
       .show ZV<|m (λy D=>ps y<|Zm _ D) h
       .have:∀{l:Tt},(¬ ∃a∈l,a.1=p)->cj p l=0:=λ{l}=>by
         induction l with
         |nil=>intro _;rfl
         |cons c l m=>intro h;rw[QY,if_neg λe=>h #[c,Z7,e],m λ⟨x,j,e⟩=>h #[x,Zm _ j,e]];rfl
        rw[this h];show ZJ _
      have C:=ps c Z7;rw[QY];rcases ZA.mp j with rfl|j
      .rw[if_pos ex];lia
      .have:=m (λy D=>ps y<|Zm _ D) #[x,j,ex];split<;>lia
    have:=F (λx j=>ps x<|Zm _ j) #[a,ha,z];lia
theorem Ee[DecidablePred Q]:∀{l:Tt}{UU:Int},bA<=UU->l.Pairwise (λa b=>b.2.2<=a.2.1)->(∀a∈l,a.2.1<a.2.2/\(Q a.1->bA<=a.2.1/\a.2.2<=UU))->(l.map λa=>if Q a.1 then a.2.2-a.2.1 else 0).sum<=UU-bA
 |[],UU,h,_,_=>by change(0:Int)<=_;lia
 |a::l,UU,h,pw,q=>by
  let#[p1,j]:=nW.mp pw;rw[ZW,px];let#[E,D]:=q a Z7;split
  .rename_i m;have:=D m;have:=Ee (Q:=Q) (UU:=a.2.1) 05 j λb O=>#[(q b<|Zm _ O).1,λC=>#[((q b<|Zm _ O).2 C).1,p1 b O]]
   lia
  .have:=Ee (Q:=Q) h j λb O=>q b<|Zm _ O
   lia
theorem swap[DecidablePred Q]:∀{l:Tt},(∀a∈l,a.1<n)->((ZK n).map λq=>if Q q then cj q l else 0).sum=(l.map λa=>if Q a.1 then a.2.2-a.2.1 else 0).sum
 |[],_=>by
  have:∀m:Tq,(m.map λq=>if Q q then cj q []else 0).sum=0:=λm=>by
   induction m with
   |nil=>rfl
   |cons a m C=>rw[ZW,px,C];split<;>rfl
  show this _
 |a::l,h=>by
  rw[ZW,px,<-swap λb O=>h b<|Zm _ O,zh];refine Ea _ vc (fx.mpr<|h a Z7) (λq _ j=>?_) ?_
  .rw[QY,if_neg<|ZP j,sU]
  .rw[QY,if_pos rfl];split<;>lia
def Ms(bD:cO rs cs)(C:∀r∈rs,r.2.length<=6)(e:Vi kind rs cs=[]):Vi 0 rs cs=[]:=by
 have F:∀{kind:Int} p,p<cs.length->(QL kind rs cs).getD p 0=(bS p (cM kind rs cs).sr.reverse).getD 0:=λ{kind} p m=>by unfold QL;rw[Zv,Z5,u7 m];rfl
 have D:∀b u,j6 rs cs b u (cZ cs)<=u-b\/∀q,q<cs.length->b<=aS cs q->u<dJ rs cs q:=λb u=>by
  let#[j,sm]:=Eb (kind:=kind) bD C;have ps:∀a∈(cM kind rs cs).sr.reverse,a.2.1<a.2.2:=λa ha=>(j.ea a<|sR.mp ha).2.2.1
  have ot:∀a∈(cM kind rs cs).sr,a.2.2<=dJ rs cs a.1:=λa ha=>by
   have m:=(j.ea a ha).1;have h:=Mr (p:=a.1) (List.pairwise_reverse.mpr j.pw) ps a (sR.mpr ha) rfl;have:¬lK rs (cs.getD a.1 cd)<(QL kind rs cs).getD a.1 0:=λz=>by have:((a.1:Nat):Int)∈Vi kind rs cs:=ZY.mpr #[a.1,vd.mpr #[fx.mpr m,decide_eq_true z],rfl];rw[e]at this;cases this
   rw[F _ m]at this;change _<=lK rs (cs.getD a.1 cd);lia
  by_cases z:∃q,q<cs.length/\b<=aS cs q/\dJ rs cs q<=u
  .calc .inl ?_;let#[i,Z,q1,V]:=z;have U:j6 rs cs b u (cZ cs)=j6 rs cs b u λq=>cj q (cM kind rs cs).sr:=by
    unfold j6;congr 1;refine rn λq H=>?_
    dsimp only;rw[sm q<|fx.mp H]
   rw[U,show j6 rs cs b u (λq=>cj q (cM kind rs cs).sr)=_ from swap (Q:=λq=>b<=aS cs q/\dJ rs cs q<=u) λa ha=>(j.ea a ha).1];have R:b<=u:=by
    have s:=sm i Z;have n1:=(bD.ok (cs.getD i cd)<|by rw[Zv,Zd Z];show Z9 Z).n1;have ex:∀{l:Tt},cj i l≠0->∃a∈l,a.1=i:=λ{l}=>by
     induction l with|nil=>intro h;show absurd rfl h|cons a l O=>
      intro h;by_cases z:a.1=i
      .show#[a,Z7,z]
      .rw[QY,if_neg z,sU]at h;let#[x,P,e]:=O h;show#[x,Zm _ P,e]
    let#[a,ha,rfl]:=ex<|by rw[s];unfold cZ;lia
    have W:=j.ea a ha;have J:=ot a ha;lia
   show Ee (Q:=λq=>b<=aS cs q/\dJ rs cs q<=u) R j.pw λa ha=>#[(j.ea a ha).2.2.1,λE=>#[eN E.1 (j.ea a ha).2.1,eN (ot a ha) E.2]]
  .show .inr λq L I=>kE.mp λh=>z #[q,L,I,h]
 have ot:=(Eb (kind:=0) bD C).1.ot rfl λb d _=>D b d
 unfold Vi;rw[yS,List.filter_eq_nil_iff];intro p M;have m:=fx.mp M;rw[decide_eq_true_eq,F p m];have sp:=(Mp (kind:=0) bD C).2.1 p m;cases q:bS p (cM 0 rs cs).sr.reverse with|none=>rw[q]at sp;cases sp|some e=>let#[c,S,rfl,rfl]:=Ed q;have:=ot c<|sR.mp S;change ¬lK rs (cs.getD c.1 cd)<c.2.2;unfold dJ at this;lia
section
seal L4.run L4.WS L4.WR
def cm(s:Int)(d:WD):Int:=if 1<=s then iI (s+d.af) d.gap else 0
def dm(s:Int)(d:WD):Int:=if 0<=s+d.af-d.aD then(s+d.af-d.aD)/d.gap+1 else 0
def kr(ds:Tz)(s:Int):Int:=(ds.map λd=>dm s d*d.len).sum
def ask(ds:Tz)(s:Int):Int:=(ds.map λd=>cm s d*d.len).sum
def cP(ds:Tz)(s:Int):Int:=(ds.map λd=>cm s d).sum
def bL(s:Int)(d:WD):Tp:=(ZK (dm s d).toNat).map λ(t:Nat)=>(t:Int)*d.gap+d.aD-d.af
def fL(ds:Tz)(s:Int):Tp:=ds.flatMap<|bL s
structure Gw(d:WD):Prop where
 g:0<d.gap
 l:d.gap.natAbs.log2<9000
 n0:1<=d.len
 u:1<=d.aD
 t:0<=d.af
def Ef(g:Gw d)(h:x<=s):0<=dm x d/\dm x d<=dm s d:=by
 have a:=g.g;unfold dm;by_cases q:0<=x+d.af-d.aD
 .rw[if_pos q,if_pos 05];have:=sT q<|ZV a;have:=vn a (show x+d.af-d.aD<=s+d.af-d.aD by show Int.sub_le_sub (Int.add_le_add_right h _)<|ZJ _);show#[(ZV<|iU 06<|lU _ 01),(iU this<|lU _ 01)]
 .rw[if_neg q];split
  .rename_i j;have:=sT j<|ZV a;show#[01,(ZV<|iU this<|lU _ 01)]
  .show#[(ZJ _),(ZJ _)]
def VW(g:Gw d):0<=cm s d:=by
 have a:=g.g;have c:=g.t;unfold cm iI;split
 .show sT (ZV<|ze<|iU (eN 06<|zb c)<|lU _ a)<|ZV a
 .show ZJ _
def J7b(g:Gw d)(s1:1<=s):dm s d<=cm s d:=by
 have a:=g.g;have b:=g.u;have c:=g.t;unfold dm cm iI;split
 .have e:(s+d.af-d.aD)/d.gap+1=(s+d.af-d.aD+d.gap)/d.gap:=by rw[Int.add_ediv_of_dvd_right<|Int.dvd_refl _,Int.ediv_self<|oh a]
  rw[e];show vn a 05
 .show sT (ZV<|ze<|iU (eN s1<|zb c)<|lU _ a)<|ZV a
theorem Eg:∀{ds:Tz},(∀d∈ds,Gw d)->cP ds s<=m->∀d∈ds,cm s d<=m
 |e::ds,G,h,d,hd=>by
  have D:=VW (s:=s)<|G e Z7;have E:∀{ds:Tz},(∀d∈ds,Gw d)->0<=cP ds s:=λ{ds} G=>by
   induction ds with
   |nil=>show ZJ _
   |cons d ds H=>
    have:=VW (s:=s)<|G d Z7;have:=H λe j=>G e<|Zm _ j
    have:cP (d::ds) s=cm s d+cP ds s:=by simp[cP]
    show Int.add_nonneg 06 06
  have F:=E λe j=>G e<|Zm _ j
  have C:cP (e::ds) s=cm s e+cP ds s:=by simp[cP]
  rcases ZA.mp hd with rfl|hd
  .show eN (eN (zb F)<|lV C.symm) h
  .show Eg (λe j=>G e<|Zm _ j) (eN (eN (ES D)<|lV C.symm) h) d hd
def Mt{ds:Tz}(hn:n<ds.length):fL (ds.take<|n+1) s=fL (ds.take n) s++bL s ds[n]:=by unfold fL;rw[sO hn,yT];simp
def J7f(n):(fL (ds.take n) s).length<=(fL ds s).length:=by
 have:fL ds s=fL (ds.take n) s++fL (ds.drop n) s:=by unfold fL;rw[<-yT,List.take_append_drop]
 rw[this,ZB];show Zq _ _
def Mu(G:∀d∈ds,Gw d)(h:x∈fL ds s):x<=s/\∃d∈ds,d.aD-d.af<=x:=by
 let#[d,hd,h]:=List.mem_flatMap.mp h;let#[t,j,rfl]:=ZY.mp h;have g:=(G d hd).g;have j:=fx.mp j;have:=Int.mul_nonneg (og t)<|ZV g;calc#[?_,d,hd,05];unfold dm at j;split at j
 .rename_i q;have:=sT q<|ZV g;have:=(zc (a:=(t:Int)) (b:=s+d.af-d.aD) g).mp 05;lia
 .lia
def Mv(d:WD)(ds:Tz)(s:Int):kr (d::ds) s=dm s d*d.len+kr ds s:=by unfold kr;rw[ZW,px]
def Ya(d:WD)(ds:Tz)(s:Int):ask (d::ds) s=cm s d*d.len+ask ds s:=by unfold ask;rw[ZW,px]
def Eh(d:WD)(ds:Tz)(s:Int):cP (d::ds) s=cm s d+cP ds s:=by unfold cP;rw[ZW,px]
def Ei(O:0<b):a<=iI a b*b:=by unfold iI;have:=fH (a+b-1) (b:=b) 05;have:=ZS (a+b-1) O;have:=Int.mul_ediv_add_emod (a+b-1) b;rw[Int.mul_comm]at this;lia
def Mw(g:Gw d)(D:0<=c)(h:r<=c*d.gap):dm x d<=c+dm (x-r) d:=by
 have m:=g.g;have j:=(Ef g<|ZJ<|x-r).1;by_cases q:0<=x+d.af-d.aD
 .by_cases C:0<=x-r+d.af-d.aD
  .have:(x+d.af-d.aD)/d.gap<=(x-r+d.af-d.aD+c*d.gap)/d.gap:=vn m 05;rw[Int.add_mul_ediv_right _ _ 05]at this;unfold dm;rw[if_pos q,if_pos C];lia
  .have:(x+d.af-d.aD)/d.gap<c:=(zd m).mpr 05;unfold dm at j ⊢;rw[if_pos q];lia
 .unfold dm at j ⊢;rw[if_neg q];lia
def J3h(g:Gw d)(j:1<=r):r<=cm r d*d.gap:=by have:=Ei (a:=r+d.af) g.g;have:=g.t;unfold cm;rw[if_pos j];lia
theorem Mx(j:1<=r):∀ds:Tz,(∀d∈ds,Gw d)->kr ds x<=ask ds r+kr ds (x-r)
 |[],_=>ZJ _
 |d::ds,q=>by
  have g:=q d Z7;have C:=Mx (x:=x) j ds λe m=>q e<|Zm _ m
  have:=pz (Mw (x:=x) g (VW g)<|J3h g j) (show 0<=d.len by have:=g.n0;lia);rw[vp]at this;rw[Mv,Mv,Ya];lia
def My{ds:Tz}(hn:n<ds.length)(s:Int):kr (ds.take<|n+1) s=kr (ds.take n) s+dm s ds[n]*ds[n].len:=by unfold kr;rw[sO hn,kj,List.sum_append];simp
def Ju4{ds:Tz}(hn:n<ds.length)(s:Int):ask (ds.take<|n+1) s=ask (ds.take n) s+cm s ds[n]*ds[n].len:=by unfold ask;rw[sO hn,kj,List.sum_append];simp
def Fits(ds:Tz):Prop:=∀n (hn:n<ds.length),∃r,1<=r/\r+ds[n].af<=ds[n].aD/\ds[n].len+ask (ds.take n) r<=r
def Gs(ds:Tz):Prop:=∀d∈ds,Gw d/\d.aD<=d.gap
theorem Gs.g(G:Gs ds):∀d∈ds,Gw d:=λd hd=>(G d hd).1
theorem Mz{ds:Tz}(G:Gs ds)(F:Fits ds):∀(n:Nat),n<=ds.length->∀m:Nat,kr (ds.take n) m<=m
 |0,_,m=>by simp[kr]
 |n+1,hn,m=>by
  have j:=Mz G F n 05;have hn:n<ds.length:=hn;let#[g,J]:=G _<|Z9 hn;have n0:=g.n0;induction m using Nat.strongRecOn with
  |ind m D=>
   have j:=j m;by_cases q:0<=(m:Int)+ds[n].af-ds[n].aD
   .let#[r,E,H,I]:=F n hn;have t:=g.t;have C:=D (m-r.toNat) 05;rw[show((m-r.toNat:Nat):Int)=m-r by lia]at C;have st:=Mx (x:=m) E (ds.take n) λd hd=>G.g d<|nV hd
    have d1:=pz (Mw (x:=m) (r:=r) (c:=1) g 01 05) (show 0<=ds[n].len by lia);rw[vp]at d1;rw[My hn]at C ⊢;lia
   .rw[My hn];unfold dm;rw[if_neg q];lia
theorem MA(q1:1<=q)(j:1<=r):∀ds:Tz,(∀d∈ds,Gw d)->ask ds (q*r)<=q*ask ds r
 |[],_=>by simp[ask]
 |d::ds,h=>by
  have g:=h d Z7;have D:=MA q1 j ds λe C=>h e<|Zm _ C
  have t:=g.t;have m:1<=q*r:=eN j (by have:=pz q1 (show 0<=r by lia);lia);have c:cm (q*r) d<=q*cm r d:=by unfold cm;rw[if_pos m,if_pos j];calc Y5 g.g ?_;have a:=vm (Ei (a:=r+d.af) g.g) (show 0<=q by lia);have b:=pz q1 t;rw[Int.mul_add,<-Int.mul_assoc]at a;lia
  have c:=pz c (show 0<=d.len by have:=g.n0;lia);rw[Ya,Ya,Int.mul_add,<-Int.mul_assoc];lia
def Jzu(g:Gw d)(s1:1<=s)(h:s<=s'):cm s d<=cm s' d:=by unfold cm iI;rw[if_pos s1,if_pos 05];show vn g.g 05
theorem rise(s1:1<=s)(h:s<=s'):∀ds:Tz,(∀d∈ds,Gw d)->0<=cP ds s/\cP ds s<=cP ds s'/\ask ds s<=ask ds s'/\(cP ds s=cP ds s'->ask ds s=ask ds s')
 |[],_=>#[ZJ _,ZJ _,ZJ _,λ_=>rfl]
 |d::ds,q=>by
  let#[E,F,H,j]:=rise s1 h ds λx C=>q x<|Zm _ C
  have g:=q d Z7;have n:=VW (s:=s) g;have m:=Jzu g s1 h;have D:=pz m (show 0<=d.len by have:=g.n0;lia);rw[Eh,Eh,Ya,Ya];calc#[05,05,05,λe=>?_];have a:cm s d=cm s' d:=05;rw[a,j 05]
def low(G:Gs ds)(F:Fits ds)(H:1<=M)(E:∀d∈ds,d.aD<=M):∃YY,M<=YY/\YY<=2*M-1/\ask ds YY<=YY:=by
 by_cases e:ds.length=0
 .rw[uZ.mp e];show#[M,ZJ _,05,by change(0:Int)<=M;lia]
 .have hn:ds.length-1<ds.length:=05;let#[r,m,I,L]:=F _ hn;have at_:=Ju4 hn;rw[show ds.length-1+1=ds.length by lia,va]at at_;let#[g,O]:=G _<|Z9 hn;have hd:=E _<|Z9 hn;generalize ds[ds.length-1]=d at *;have t:=g.t;have n0:=g.n0;have C:cm r d<=1:=by unfold cm;rw[if_pos m];show Y5 g.g 05
  have C:=pz C (show 0<=d.len by lia);have j:ask ds r<=r:=by rw[at_];lia
  have D:=Ei (a:=M) (show 0<r by lia);have J:iI M r*r<=M+r-1:=Int.ediv_mul_le _ 05;have q1:1<=iI M r:=(zc<|show 0<r by lia).mpr 05;calc#[iI M r*r,D,05,eN (MA q1 m ds G.g)<|vm j 05]
def J3w(a b:Tz):(fL (a++b) s).length=(fL a s).length+(fL b s).length:=by unfold fL;rw[yT,ZB]
theorem Ej:∀ds:Tz,(∀d∈ds,dm s d<=15)->(fL ds s).length<=15*ds.length
 |[],_=>Zk _
 |d::ds,h=>by
  have:=Ej ds λe j=>h e<|Zm _ j
  have:=h d Z7;have e:(fL (d::ds) s).length=(dm s d).toNat+(fL ds s).length:=by simp[fL,bL]
  rw[iP];lia
def J7e{ds:Tz}(dI:ds.length<=5)(G:Gs ds)(F:Fits ds)(hs:s<=2*M-1)(E:ds=[]\/∃d∈ds,d.aD=M)(big:∀d∈ds,2*M-2<15*d.gap):(fL ds s).length<=62:=by
 have j:∀d∈ds,∀c,2*M-2<c*d.gap->dm s d<=c\/dm s d=0:=λd hd c J=>by
  let#[n,hn,rfl]:=iO.mp hd;let#[r,I,H,_]:=F n hn;have:=(zd (a:=s+ds[n].af-ds[n].aD) (b:=c) (G _ hd).1.g).mpr 05;unfold dm;split
  .show .inl 05
  .show .inr rfl
 have m:∀d∈ds,dm s d<=15:=λd hd=>by have:=j d hd 15 (big d hd);lia
 rcases E with rfl|⟨d,hd,e⟩
 .show ZF _
 .have L:=j d hd 2 (by have:=(G d hd).2;lia);let#[A,C,rfl]:=List.append_of_mem hd;have a:=Ej A λx D=>m x<|by simp[D]
  have b:=Ej C λx D=>m x<|by simp[D]
  have c:(fL (d::C) s).length=(dm s d).toNat+(fL C s).length:=by simp[fL,bL]
  rw[ZB,iP]at dI;rw[J3w,c];lia
theorem Ek:∀ds:Tz,(∀d∈ds,cm s d<=m)->cP ds s<=ds.length*m
 |[],_=>by simp[cP]
 |d::ds,h=>by
  have:=Ek (s:=s) (m:=m) ds λe j=>h e<|Zm _ j
  have:=h d Z7;rw[Eh,iP,Int.natCast_add,vp];lia
theorem MB(f:Nat->Int):∀(n:Nat),0<n->∃j,j<n/\JL f n=f j
 |0,h=>05
 |1,_=>#[0,05,rfl]
 |n+2,_=>by
  rw[wz f (by lia:0<n+1)];let#[j,m,e]:=MB f (n+1) 05;split
  .show#[n+1,05,rfl]
  .show#[j,05,e]
def mxD(G:Gs ds):∃M,maxD (ds.map (·.aD)) (.int 1)=.int M/\1<=M/\(∀d∈ds,d.aD<=M)/\(ds=[]\/∃d∈ds,d.aD=M):=by
 unfold maxD;split
 .rename_i e;rw[yS]at e;subst e;show#[1,rfl,ZJ _,03,.inl rfl]
 .rename_i ne;have C:0<(ds.map (·.aD)).length:=List.length_pos_iff.mpr ne;have D:=Ci (λi=>(ds.map (·.aD)).getD i 0) (ds.map (·.aD)).length;have all:∀d∈ds,d.aD<=JL (λi=>(ds.map (·.aD)).getD i 0) (ds.map (·.aD)).length:=λd hd=>by
   let#[j,m,rfl]:=iO.mp hd;have:=D j<|by rw[Zp];show m
   rwa [Zv,Z5,Zd m]at this
  let#[j,m,e]:=MB (λi=>(ds.map (·.aD)).getD i 0) _ C;rw[Zp]at m;have e:=e.trans (show(ds.map (·.aD)).getD j 0=(ds[j]).aD by rw[Zv,Z5,Zd m];rfl);show#[_,rfl,by rw[e];show(G _<|Z9 m).1.u,all,.inr #[_,Z9 m,e.symm]]
end
section
seal L4.run L4.WS L4.WR
def El{h h0:IH}{it:I1}{e:E1}{js:Tq}{U:aA}{xs:Tw}{aZ:IH->Prop}{f:IV->IV}(C:WR (it U h0) λbC h1=>bC.xs=xs/\bC.aZ=aZ/\h1=h)(hl:xs.length<sizeLine) (D:∀J:IH,(∀(j:Nat)(m:IX),h[j]?=B m->J[j]?=B m)->aZ J) (E:∀x∈xs,∀J:IH,(∀(j:Nat)(m:IX),h[j]?=B m->J[j]?=B m)->WR (e (B x::js.map λj=>(U[j]?).join) J) λv h3=>v=f x/\Ex J h3):∃g,Jv it 1 js (br 0) J7 e U h0=.ok (.ref h.length) (h++.lst (xs.map f)::g):=by let#[v,h3,e,rfl,g,rfl]:=(Qr C hl D E).eq;show#[g,e]
section
variable{k:Nat}{h:IH}{D:Nat}{vs:Tw}{ds:Tz}{s:Int}
def yt(j:h[w]?=B (.ins "Work"<|eP d.name d.gap d.len d.aD d.af hs))(g:Gw d):Xo (k+2) [.ref w,.int s] h=.ok (.int<|cm s d) h:=by calc Js ?_;rw[Jjh];unfold cm;show ak (ax<|jZ<|Jf (Dq rfl rfl)<|fm (λq=>Jf (Jr (ar (aP rfl (ao rfl j j3))<|ao rfl j oP)<|Lw g.g g.l) #[by rw[if_pos q],rfl]) λq=>Jf rfl #[by rw[if_neg q],rfl])
def MC(j:h[w]?=B (.ins "Work"<|eP d.name d.gap d.len d.aD d.af hs))(g:Gw d):XR (k+2) [.ref w,.int s] h=.ok (.int<|dm s d) h:=by calc Js ?_;rw[Jpd];unfold dm;show ak (ae<|aj<|Jf (dQ (aP rfl (ao rfl j j3))<|ao rfl j lG)<|ax<|jZ<|Jf (Dq rfl rfl)<|fm (λq=>Jf (aP (Qv rfl (ao rfl j oP) g.g g.l) rfl) #[by rw[if_pos q],rfl]) λq=>Jf rfl #[by rw[if_neg q],rfl])
def qF(hD:h[D]?=B (.ins "Duty"<|ny vs))(w:dw h vs ds)(hl:ds.length<=20)(E:∀(j:Nat) (d:WD) (hs:Tw) (J:IH),d∈ds->J[j]?=B (.ins "Work"<|eP d.name d.gap d.len d.aD d.af hs)->e [B<|.ref j,B<|.int s] J=.ok (.int<|f d) J):WR (bt (bu eF) (Jb (Jv (Ju<|Jk "works" 'a') 1 [1] (br 0) J7 e) Jc) [B<|.ref D,B<|.int s] h) λv h'=>v=.int (ds.map f).sum/\Ex h h':=by
 have O:=J4;have wl:=w.len;let#[_,h3,ev,rfl,X,I,ly,V,Q]:=(Cj (it:=Ju<|Jk "works" 'a') (js:=[1]) (U:=[B<|.ref D,B<|.int s]) (λx y _=>∀d∈ds,qA h x d->y=.int (f d)) (by rw[Qc];show Jf (ao rfl hD oQ)<|(xm _).mpr #[rfl,rfl,rfl]) 05 (λ_ _ _ _ _ z=>z) (λ_ _=>trivial) (by intro x S J F _;let#[d,hd,j,hs,rfl,g]:=w.of S;calc Jf (E j d hs J hd<|F _ _ g) #[.refl _,λR m ⟨Z,C,P,M⟩=>?_];cases P;show(Res.ok.inj<|(E j d hs J hd<|F _ _ g).symm.trans<|E j R C J m<|F _ _ M).1)).eq;have Y:X=(ds.map f).map IV.int:=by
  refine mL (by simp_all) λi W J=>?_
  have L:i<vs.length:=05;have H:i<ds.length:=sI 06 06;rw[iS,iS];show Q i _ _ (Zd L) (Zd W) _ (Z9 H)<|w.at_ i _ _ (Zd L)<|Zd H
 rw[Y]at I;show Jf ((iG<|aq ev).trans<|Js<|Cg.mpr #[_,I,_,QH _,rfl,rfl]) #[rfl,V8 V]
variable(hD:h[D]?=B (.ins "Duty"<|ny vs))(w:dw h vs ds)(hl:ds.length<=20)(G:∀d∈ds,Gw d)
include hD w hl G
def Em(c:cP ds s<=200):WR (XO (k+3) [.ref D,.int s] h) λv h'=>v=.int (ask ds s)/\Ex h h':=by rw[Jvt];show ak (ax<|qF hD w hl λj d m J hd g=>ft (Jr (ar rfl rfl)<|yt g<|G d hd) (ao rfl g oJ)<|.inl (by have:=VW (s:=s) (G d hd);have:=Eg G c d hd;lia))
def Jrt(c:cP ds s<=200)(s1:1<=s)(xs:x<=s):WR (CP (k+3) [.ref D,.int x] h) λv h'=>v=.int (kr ds x)/\Ex h h':=by rw[Jsf];show ak (ax<|qF hD w hl λj d m J hd g=>ft (Jr (ar rfl rfl)<|MC g<|G d hd) (ao rfl g oJ)<|.inl (by have:=Ef (G d hd) xs;have:=J7b (G d hd) s1;have:=Eg G c d hd;lia))
def MD:WR (xK (k+3) [.ref D,.int s] h) λv h'=>v=.int (cP ds s)/\Ex h h':=by rw[Jpc];show ak<|ax<|qF hD w hl λj d m J hd g=>Jr (ar rfl rfl)<|yt g<|G d hd
def J3l(c:cP ds s<=200):WR (CQ (k+4) [.ref D,.int s] h) λ_ h'=>Ex h h':=by rw[Jd6];let#[_,C,m,rfl,j]:=(MD hD w hl G).eq;show ak<|bJ (fU (jk (Jr (ar rfl rfl) m) rfl)<|decide_eq_false<|hi.mpr c)<|aK j
omit hD w hl G
def ME(d:WD):IV->IV|.int x=>.int<|x*d.gap+d.aD-d.af|_=>.ag
def J3a(s)(d):(aN 0<|dm s d).map (ME d)=(bL s d).map IV.int:=by
 unfold aN bL;rw[fy,fy,Int.sub_zero];refine rn λt _=>?_
 change IV.int _=IV.int _;rw[sU]
def Jqb{ns:Tp}(m:e U h=.ok (.ref i) h)(C:h[i]?=B (.lst<|ns.map .int))(j:ns.length<64):Yp (Jb e Jc) U h=.ok (.ref h.length) (h++[.lst<|(VI<|iE (Vh ns) ns.length).map .int]):=by unfold Yp Jb Jc;rw[m];change(match h[i]? with|some (.lst ys)=>_|_=>_)=_;rw[C];dsimp only;rw[QH];dsimp only;rw[if_pos j]
def Jm7:x∈VI (iE (Vh ns) ns.length)↔x∈ns:=by unfold VI;rw[(List.mergeSort_perm _ _).mem_iff,Hm,iO];calc exists_congr λj=>#[λ⟨m,e⟩=>#[m,by rw[e];simp[m]],λ⟨m,e⟩=>#[m,by rw[<-e];simp[m]]]
include hD w hl G
def Ju8(c:cP ds s<=200)(Y:(fL ds s).length<=62):
  WR (CS (k+5) [.ref D,.int s] h) λv h'=>∃(i:Nat)(zs:Tp),v=.ref i/\h'[i]?=B (.lst<|zs.map .int)/\(∀x∈zs,x∈fL ds s)/\Ex h h':=by
 have O:=J4;have wl:=w.len;let#[_,E,W,L]:=(J3l (k:=k) (s:=s) hD w hl G c).eq;have H:=L.get hD;have V:=w.kp L.kp;rw[Jvu];calc ak<|ae<|JM<|Jf (Jr (ar rfl rfl) W)<|ae<|aj<|Jf (cK rfl rfl)<|ae<|jo ?_;rw[Qc];calc Jf (ao rfl (grow H) oQ)<|(xm _).mpr ?_;refine Vc (λn U h'=>∃g a,h'=E++IX.lst ((fL (ds.take n) s).map .int)::g/\U=[B<|.ref D,B<|.int s,B<|.ref E.length,a]) (λ_ _ _ _=>trivial) ?_ ?_ #[[],Ze,rfl,rfl]
 .rintro n hn _ _ ⟨g,a,rfl,rfl⟩;have hn:n<vs.length:=hn;have C:n<ds.length:=05;let#[j,R,ev,e]:=V.at_ n _ _ (Zd hn)<|Zd C;rw[ev,Mt C];have gd:=G _<|Z9 C;have F:=J7f (ds:=ds) (s:=s)<|n+1;rw[Mt C,ZB]at F;generalize ds[n]=d at e gd F;generalize fL (ds.take n) s=fs at F;have S:(aN 0<|dm s d).length=(bL s d).length:=by rw[JG];simp[bL]
  have Z:=(Ef gd<|ZJ s).1;have lr:=S;rw[JG]at lr;have P:(E++IX.lst (fs.map .int)::g)[E.length]?=B (.lst<|fs.map .int):=J1;have M:(E++IX.lst (fs.map .int)::g)[j]?=B (.ins "Work"<|eP d.name d.gap d.len d.aD d.af R):=grow e;have Q:=@El (E++IX.lst (fs.map .int)::g) (E++IX.lst (fs.map .int)::g) (cT JX<|Jb (Ji (XR<|k+4) []<|Jb 'd'<|Jb 'b' Jc) Jc) (La<|k+4) [3] [B<|.ref D,B<|.int s,B<|.ref E.length,B<|.ref j] (aN 0<|dm s d) (λ_=>True) (ME d)
   (by
    rw[Vn];calc Jf (aq<|Jr (ar rfl rfl)<|MC M gd) ?_;rw[Xm];show#[05,rfl,rfl,rfl]) 05 (λ_ _=>trivial) (by
    intro v X J z;let#[m,hm,rfl]:=iO.mp X;rw[Qq];have g2:=z _ _ M;show Jf (dQ (aP (ft rfl (ao rfl g2 oP) (.inl 05))<|ao rfl g2 lG)<|ao rfl g2 j3) #[rfl,.refl _])
  calc j1 rfl (JM<|Qt rfl P xn ?_);generalize I:Jv _ _ _ _ _ _ _ _=rc at Q;let#[g2,rfl]:=Q;calc Jf (aq I) ?_;rw[J3a,xp (xs:=fs.map .int) (ys:=(bL s d).map .int) (grow P) J1<|by rw[Zp,Zp];lia];calc#[g++IX.lst ((bL s d).map .int)::g2,_,?_,rfl];rw[hX,iQ,V0,<-kj]
 .rintro _ _ ⟨g,a,rfl,rfl⟩;rw[show(ds.take (jE.xs #[vs,λ_=>True]).length)=ds from nR (by change _<=vs.length;lia)];show ax<|Jf (Jqb rfl J1 05) #[_,_,rfl,grown,λx=>Jm7.mp,(L.trans<|.cons _ _ _).trans<|.one _ _]
def J1k(c:cP ds s<=200)(s1:1<=s)(O:(fL ds s).length<=62)(E:∀x∈fL ds s,kr ds x<=x):
  WR (CT (k+6) [.ref D,.int s] h) λv h'=>v=.ag/\Ex h h':=by
 let#[_,L,Q,i,zs,rfl,H,P,m]:=(Ju8 (k:=k) hD w hl G c O).eq;rw[Jdl];calc ak<|ae<|jo ?_;rw[Qc];calc Jf (Jr (ar rfl rfl) Q)<|(Qs _).mpr #[_,H,?_];refine Vc (λn U h'=>Ex L h'/\∃a,U=[B<|.ref D,B<|.int s,a]) (λ_ _ _ z=>z.1.get H) ?_ ?_ #[.refl _,_,rfl]
 .rintro n hn _ J ⟨j,a,rfl⟩;have C:n<zs.length:=by simpa using hn
  rw[iS];have F:=P _<|Z9 C;generalize zs[n]=x at F;let#[_,R,I,rfl,M]:=(Jrt (k:=k+2) (x:=x) (j.get<|m.get hD) (w.kp (m.trans j).kp) hl G c s1 (Mu G F).1).eq;show j1 rfl (bJ (fU (jk (Jr (ar rfl rfl) I) rfl)<|decide_eq_false<|hi.mpr<|E x F)<|aK #[j.trans M,_,rfl])
 .rintro _ J ⟨j,a,rfl⟩;show ax<|Jf rfl #[rfl,m.trans j]
end
end
section
seal L4.run L4.WS L4.WR
structure Fr(ds:Tz)(YY:Int)(m:Nat)(t:Int):Prop where
 t1:1<=t
 y:t<=YY
 z:ask ds t<=t\/201<=(m:Int)+cP ds t
section
variable{ds:Tz}{YY:Int}{m:Nat}{t:Int}
theorem Fr.c(F:Fr ds YY m t)(G:∀d∈ds,Gw d)(j:cP ds YY<=200):cP ds t<=200:=eN (rise F.t1 F.y ds G).2.1 j
theorem Fr.ay(F:Fr ds YY m t)(G:∀d∈ds,Gw d)(j:ask ds YY<=YY):ask ds t<=YY:=eN (rise F.t1 F.y ds G).2.2.1 j
theorem Fr.ac(F:Fr ds YY m t)(G:∀d∈ds,Gw d)(j:ask ds YY<=YY)(C:cP ds YY<=200)(q:t<ask ds t):cP ds (ask ds t)<=200:=eN (rise (eN F.t1<|ZV q) (F.ay G j) ds G).2.1 C
def Fr.next(F:Fr ds YY m t)(G:∀d∈ds,Gw d)(C:ask ds YY<=YY)(E:cP ds YY<=200)(q:t<ask ds t):∃j,m=j+1/\Fr ds YY j (ask ds t):=by
 have t1:=F.t1;have fc:=F.c G E;let#[I,H,_,D]:=rise t1 (ZV q) ds G;have z:=F.z;obtain⟨j,rfl⟩:∃j,m=j+1:=#[m-1,05];calc#[j,rfl,05,F.ay G C,?_];by_cases e:cP ds t=cP ds (ask ds t)
 .have:=D e;lia
 .lia
theorem Fr.start(G:∀d∈ds,Gw d)(t1:1<=t)(y:t<=YY):Fr ds YY 201 t:=#[t1,y,.inr (by have:=(rise t1 (ZJ _) ds G).1;lia)]
end
section
variable{k:Nat}{h:IH}{D:Nat}{vs:Tw}{ds:Tz}
inductive MF(ds:Tz)(YY:Int)(D I:Nat)(h:IH)(m:Nat):aA->IH->Prop|mk {ts:Tp}{t:Int}{h':IH}(F:Fr ds YY m t) (g:h'[I]?=B (.lst ((t::ts).reverse.map .int))) (l:m+ts.length<=300) (k:Kp h h'):MF ds YY D I h m [B (.ref D),B (.ref I),B (.int (ask ds t))] h'
theorem MG(j:o U h=.ok (.ref I) h)(g:h[I]?=B (.lst<|(t::ts).reverse.map .int)):Je Jh o (dH VE '1') U h=.ok (.int t) h:=aW j rfl g yq
def Jxq(hD:h[D]?=B (.ins "Duty"<|ny vs))(w:dw h vs ds)(hl:ds.length<=20)(G:∀d∈ds,Gw d)(V:maxD (ds.map (·.aD)) (.int 1)=.int M)(M1:1<=M)(W:M<=YY)(Z:ask ds YY<=YY)(L:cP ds YY<=200):WR (CU (k+4) [.ref D] h) λv h'=>∃(i:Nat)(t:Int)(ts:Tp),v=.ref i/\h'[i]?=B (.lst<|(t::ts).reverse.map .int)/\(1<=t/\t<=YY/\ask ds t<=t)/\Ex h h':=by
 have O:=J4;have wl:=w.len;rw[Jvy];have YY:=@El h h (Ju<|Jk "works" 'a') (Lb<|k+3) [] [B<|.ref D,Ze,Ze] vs (λ_=>True) (jq "due" h) (by rw[Qc];show Jf (ao rfl hD oQ)<|(xm _).mpr #[rfl,rfl,rfl]) 05 (λ_ _=>trivial) (by intro v hv J q;let#[d,_,j,hs,rfl,e]:=w.of hv;show Jf (ao rfl (q _ _ e) lG) #[by rw[jq,Q9 e,lG];rfl,.refl _]);rw[w.lH (F:=jq "due" h) (g:=λd=>.int d.aD) λj d hs e=>by rw[jq,Q9 e,lG];rfl]at YY;calc ak<|ae<|aj<|lB<|(Jx0 ..).mpr<|(H0 ..).mpr ?_;generalize R:Jv _ _ _ _ _ _ _ _=rc at YY;let#[g0,rfl]:=YY;calc Jf (aq R) (Jf rfl #[_,rfl,_,J1,ds.map (·.aD),by rw[show ds.map (λd=>IV.int d.aD)=(ds.map (·.aD)).map IV.int by rw[fy];rfl];show QH _,?_]);rw[V];have U:Ex h (h++IX.lst (ds.map λd=>IV.int d.aD)::g0):=.cons _ _ _;generalize h++IX.lst (ds.map λd=>IV.int d.aD)::g0=E at U;calc Jf rfl #[by change 1<=sizeLine;lia,?_];have F:=Fr.start G M1 W;clear V W M1;generalize M=top at F;have x2:Ex E (E++[IX.lst [IV.int top]]):=.one _ _;have C:=U.trans x2;have g2:(E++[IX.lst [IV.int top]])[E.length]?=B (.lst<|([top]:Tp).reverse.map .int):=grown;generalize hI:E.length=I at g2;generalize E++[IX.lst [IV.int top]]=J at C g2;let#[_,h3,e3,rfl,x3]:=(Em (k:=k) (s:=top) (C.get hD) (w.kp C.kp) hl G<|F.c G L).eq;have lI:h.length<=I:=hI▸U.len;calc ae<|aj<|Jf (Jr (ar rfl (MG rfl g2)) e3)<|ae ?_;calc yk (MF ds YY D I h) ?_ (m:=201) 01 (.mk F (x3.get g2) (by change 201+0<=300;decide) (C.trans x3).kp);rintro m _ h4 (@⟨ts,t,_,F,g,l,k4⟩);have fin:∀{h':IH}{N:aA->IH->Prop},Kp h h'->h'[I]?=B (.lst<|(t::ts).reverse.map .int)->¬(t<ask ds t/\cP ds (ask ds t)<=200)->WS (Lc (k+3) [B<|.ref D,B<|.ref I,B<|.int<|ask ds t] h') N λv h'=>∃(i:Nat)(t:Int)(ts:Tp),v=.ref i/\h'[i]?=B (.lst<|(t::ts).reverse.map .int)/\(1<=t/\t<=YY/\ask ds t<=t)/\Ex h h':=λkp g no=>by show ax<|Jf rfl #[_,t,ts,rfl,g,#[F.t1,F.y,hi.mp λq=>no #[q,F.ac G Z L q]],V8 kp]
 calc Dj (Jf (jk rfl (MG rfl g))<|fm (λq=>?_) λq=>#[(λz=>by cases z),λ_=>fin k4 g λz=>q z.1]);let#[_,S,e5,rfl,H]:=(MD (k:=k) (s:=ask ds t) (k4 _ _ hD) (w.kp k4) hl G).eq;refine Jf (Dp (Jr (ar rfl rfl) e5) rfl)<|fm (λY=>?_) λY=>fin (k4.trans H.kp) (H.get g) λz=>Y z.2
 let#[m',rfl,F']:=F.next G Z L q;have Q:=H.get g;calc#[m',rfl,ae<|JM<|Qt rfl Q V5 (Jf (aq rfl)<|iH Q (by rw[Zp,jw,iP];lia) ?_)];have X:(S.set I<|.lst<|(t::ts).reverse.map IV.int++[.int<|ask ds t])[I]?=B (.lst<|(ask ds t::t::ts).reverse.map .int):=by rw[JZ Q,pe (a:=ask ds t),kj];rfl
 have P:Kp h (S.set I<|.lst<|(t::ts).reverse.map IV.int++[.int<|ask ds t]):=λa o e=>J8 (H.get<|k4 _ _ e) (by have:=J9 e;lia)
 generalize S.set I (.lst<|(t::ts).reverse.map IV.int++[.int<|ask ds t])=h6 at X P;let#[_,h7,e7,rfl,x7]:=(Em (k:=k) (s:=ask ds t) (P _ _ hD) (w.kp P) hl G<|F'.c G L).eq;show aj (Jf (Jr (ar rfl rfl) e7)<|.mk F' (x7.get X) (by rw[iP];lia)<|P.trans x7.kp)
end
end
section
seal L4.run L4.WS L4.WR
def yw(vs:Tw)(v:IV):IV:=match v with|.int n=>(vs[n.toNat]?).getD .ag|_=>.ag
def J2d(vs:Tw)(a:Nat)(ha:a<=vs.length):(aN 0 (a:Int)).map (yw vs)=vs.take a:=by
 refine nX λi=>?_
 rw[Z5];by_cases Z:i<a
 .have j:i<(aN 0 (a:Int)).length:=by rw[JG];lia
  rw[Zd j,Qq,sQ,if_pos Z,Zd<|show i<vs.length by lia];simp![Option.map_some,yw];rw[show((0:Int)+(i:Int)).toNat=i by lia,Zd<|show i<vs.length by lia];rfl
 .rw[nU (by rw[JG];lia),sQ,if_neg Z];rfl
section
variable{k:Nat}{h:IH}{D a:Nat}{rs:Ua}{s:Int}
def Jqa(m:h[i]?=B (.lst []))(C:h[j]?=B (.lst []))(q:Q .ag<|h.set i<|.lst []):WR (Xa (.ref i) [.ref j] h) Q:=by rw[xp (xs:=[]) (ys:=[]) m C<|ZF _];show q
def J2s(C:h[j]?=B (.tab q))(Z:U[i]?=B (B<|.ref a)):WR (Yn gt q j js (Jb (Ja i) Jc) m (eC d) U h) Q=WR (QI gt (λv h'=>m (B v::js.map λj=>(U[j]?).join) h') a (B d) h) Q:=by
 have e:Jb (Ja i) Jc U h=.ok [.ref a] h:=by unfold Jb Ja Jc;rw[Z];rfl
 unfold Yn;rw[e];change WR (match h[j]? with|some (.tab q')=>_|_=>_) Q=_;rw[C];dsimp only;rw[if_pos rfl];rfl
def MH(ha:a<rs.length)(hd:bK h D rs)(dI:rs.length<=12)(no:No rs)(h0:h[0]?=B (.tab "longest_hold")):
  WR (xJ (k+3) [.ref D,.int (a:Int)] h) λv h'=>v=.ag/\Ex h h':=by
 have O:=J4;let#[_,I,Z,t,rfl,gt,R]:=(DP (k:=k) hd dI no).eq;let#[vs,C,Q]:=hd.kp R.kp;have wl:=Q.len;rw[Jgi];calc ak<|ae<|aj<|Jf (Jr (aq rfl) Z)<|ae<|aj<|Jf rfl (ae<|jo ?_);rw[Vn];calc Jf (ar (aP rfl rfl)<|dS rfl (grow C) yh (yb _) rfl (yi<|grow C)) ?_;rw[J2u];calc#[05,?_];refine Vc (λm U h'=>∃(c:Tf),U=[B<|.ref D,B<|.int (a:Int),B<|.ref t,B<|.ref I.length,c]/\h'[I.length]?=B (.lst [])/\Kp I h') (λ_ _ _ _=>trivial) ?_ ?_ #[Ze,rfl,grown,(Ex.one _ _).kp]
 .rintro n hn _ J ⟨c,rfl,g2,E⟩;rw[Qq];rw[JG]at hn;have H:a+1+n<rs.length:=05;rw[show(a:Int)+1+(n:Int)=((a+1+n:Nat):Int) by push_cast;lia];let#[j,W,F]:=Q.get<|Zd H;have F:I[j]?=B (.ins "Work"<|eP _ _ _ _ _<|(rs[a+1+n]).2.map cL):=F;rw[no _<|Z9 H]at F;let#[_,_,V,rfl,gg,rfl]:=(xl (it:=Ju<|Jo (pg<|k+2) "held" 0 (Jo (pg<|k+2) "work" 1 'a'<|Jb 'e' Jc) Jc) (js:=[1,2,4]) (t:=K8<|k+2) (e:=K6<|k+2) (U:=[B<|.ref D,B<|.int (a:Int),B<|.ref t,B<|.ref I.length,B<|.int ((a+1+n:Nat):Int)]) (h0:=J) (h:=J++[IX.lst []]) (xs:=[]) (aZ:=λh'=>h'[J.length]?=B (.lst [])) (p:=λ_=>Zi) (f:=id)
   (by rw[Qc];show Jf (dS (mB (E _ _ C) rfl rfl (JN W)) (E _ _ F) yd (ya _) rfl (ye<|E _ _ F))<|(Qs _).mpr #[_,grown,rfl,rfl,rfl]) (by change 0<_;lia) (λX q=>q _ _ grown) (λv L=>by cases L) λv L=>by cases L).eq
  have M:∀{i:Nat}{o S:IX}{g:IH},J[i]?=B o->(J++[IX.lst []]++S::g)[i]?=B o:=λe=>(Ex.cons _ _ _).get<|grow e
  calc j1 rfl (JM<|Qt rfl g2 xn (Jf (aq V)<|Jqa (M g2) J1 #[_,rfl,JZ<|M g2,λj o e=>?_]));show J8 (M<|E _ _ e) (by have:=J9 e;lia)
 .rintro _ J ⟨c,rfl,g2,E⟩;have P:=R.trans<|V8 E;calc ax ?_;rw[J2s (P.get h0) rfl];calc WR.mono (Jx3 (kf:=λ_=>0) g2 λv L=>by cases L) ?_;rintro v X ⟨rfl,Y⟩;show#[rfl,P.trans Y]
def Jpm(ha:a<rs.length)(hd:bK h D rs)(dI:rs.length<=12)(no:No rs)(m:h[0]?=B (.tab "longest_hold")):
  WR (CK (k+4) [.ref D,.int (a:Int)] h) λv h'=>v=.int 0/\Ex h h':=by
 let#[_,E,C,rfl,j]:=(MH (k:=k) ha hd dI no m).eq;rw[Jpf];show ak (ae<|aj<|Jf (Jr (ar rfl rfl) C)<|ax<|jZ<|Jf (cg<|(aJ rfl rfl).trans rfl) #[λ_=>Jf rfl #[rfl,j],λz=>by cases z])
theorem Jpo{d:WD}(j:h[w]?=B (.ins "Work"<|eP d.name d.gap d.len d.aD d.af hs)):CM (k+1) [.ref w,.int s] h=.ok (.bl<|decide (s+d.af<=d.aD)) h:=Js (by rw[Jpg];show ak<|ax<|Jf (aJ (aP rfl (ao rfl j j3))<|ao rfl j lG) #[rfl,rfl])
def yx(q:bK h D rs)(e:rs[a]?=B r):∃j,h[j]?=B (wo r)/\∀{k:Nat}{o x:E1}{U:aA},o U h=.ok (.ref D) h->x U h=.ok (.int (a:Int)) h->Jo (pg<|k+1) "work" 1 o (Jb x Jc) U h=.ok (.ref j) h:=by let#[H,C,w]:=q;let#[j,E,m]:=w.get e;show#[j,m,λF ex=>mB C F ex<|JN E]
abbrev ws(rs:Ua):Tz:=rs.map (·.1)
structure Nm(rs:Ua):Prop where
 dI:rs.length<=5
 no:No rs
 G:Gs<|ws rs
 b:∀r∈rs,∀d∈ws rs,∀s,s+r.1.af<=r.1.aD->cm s d<=20
def qG(rs:Ua)(a:Nat)(s:Int):Int:=((ws rs).getD a rd.1).len+ask ((ws rs).take a) s
def J05(N:Nm rs)(q:bK h D rs)(t0:h[0]?=B (.tab "longest_hold"))(ha:a<rs.length)(c:∀d∈ws rs,cm s d<=20):WR (CL (k+5) [.ref D,.int (a:Int),.int s] h) λv h'=>v=.int (qG rs a s)/\Ex h h':=by
 have O:=J4;have dI:=N.dI;let#[m,gD,w]:=id q;have wl:=w.len;rw[J0h];calc ak<|ae<|aj ?_;have R:=@El h h (cT JX<|Jb 'b' Jc) (K9<|k+4) [0] [B<|.ref D,B<|.int (a:Int),B<|.int s,Ze,Ze] (aN 0 (a:Int)) (λ_=>True) (yw m) (by
   rw[Vn];calc Jf (aq rfl) ?_;rw[Xm];show#[05,rfl,rfl,rfl]) (by rw[JG];lia) (λ_ _=>trivial) (by
   intro x Q J z;let#[n,hn,rfl]:=iO.mp Q;rw[JG]at hn;rw[Qq,show(0:Int)+(n:Int)=n by lia];let#[j,ej,_]:=w.get (Zd<|show n<rs.length by lia);calc Jf (mB (z _ _ gD) rfl rfl (JN ej)) #[?_,.refl _];unfold yw;dsimp only;rw[show(n:Int).toNat=n by lia,ej];rfl)
 rw[J2d m a 05]at R;generalize Jv _ _ _ _ _ _ _ _=rc at R ⊢;let#[g,rfl]:=R;rw[YH];have V:Ex h (h++IX.lst (m.take a)::g):=.cons _ _ _;have L:(h++IX.lst (m.take a)::g)[h.length]?=B (.lst<|m.take a):=J1;generalize h.length=bB at L ⊢;generalize h++IX.lst (m.take a)::g=F at V L ⊢;have S:dw F (m.take a) ((ws rs).take a):=by
  have w0:=(w.kp V.kp).w;refine#[by rw[kz,kz,Zp,wl],λi v d M I=>w0.at_ i v d ?_ ?_]
  .rw[sQ]at M;split at M;show M;cases M
  .rw[sQ]at I;split at I;show I;cases I
 calc ae<|aj ?_;let#[_,J,ev,rfl,ys,Z,ly,H,dy]:=(Cj (h:=F) (h0:=F) (it:=Ju 'd') (e:=Df<|k+4) (js:=[2]) (U:=[B<|.ref D,B<|.int (a:Int),B<|.int s,B<|.ref bB,Ze]) (xs:=m.take a) (aZ:=λh'=>h'[bB]?=B (.lst<|m.take a)) (λ(x y:IV)(_:IH)=>∀d∈ws rs,qA F x d->y=.int (cm s d*d.len)) (by rw[Qc];show Jf rfl ((Qs _).mpr #[_,L,rfl,rfl,rfl])) (by rw[kz];lia) (λ_ _ _ _ _ z=>z) (λJ z=>z _ _ L) (by
   intro x Q J H _;let#[d,hd,j,W,rfl,g]:=S.of Q;have E:∀{d:WD}{W:Tw},d∈ws rs->J[j]?=B (.ins "Work"<|eP d.name d.gap d.len d.aD d.af W)->Df (k+4) [B<|.ref j,B<|.int s] J=.ok (.int<|cm s d*d.len) J:=λhd g=>ft (Jr (ar rfl rfl)<|yt g<|N.G.g _ hd) (ao rfl g oJ) (.inl (by have:=VW (s:=s) (N.G.g _ hd);have:=c _ hd;lia))
   calc Jf (E (nV hd)<|H _ _ g) #[.refl _,λd' P ⟨j',hs',e',g'⟩=>?_];cases e';show(Res.ok.inj<|(E (nV hd)<|H _ _ g).symm.trans<|E P<|H _ _ g').1)).eq
 have ey:ys=(((ws rs).take a).map λd=>cm s d*d.len).map IV.int:=by
  have l1:=S.len;refine mL (by rw[Zp,Zp];lia) λi F J=>?_
  have i1:i<(m.take a).length:=05;have X:i<((ws rs).take a).length:=05;rw[iS,iS];show dy i _ _ (Zd i1) (Zd F) _ (nV<|Z9 X)<|S.at_ i _ _ (Zd i1)<|Zd X
 rw[ey]at Z;have C:=V.trans<|V8 H;have Y:=q.kp C.kp;let#[_,h3,e3,rfl,x3]:=(Jpm (k:=k) ha Y 05 N.no<|C.get t0).eq;let#[j,gj,wj]:=yx (Y.kp x3.kp)<|Zd ha;calc Jf ((iG<|aq ev).trans<|Js<|(Cg ..).mpr #[_,Z,_,QH _,rfl,rfl]) ?_;calc ax<|Jf (aP (aP (Jr (ar rfl rfl) e3)<|ao (wj rfl rfl) gj oJ) rfl) #[?_,C.trans x3];rw[qG,Zv,Z5,Zd ha];show congrArg IV.int (by change 0+(rs[a]).1.len+_=(rs[a]).1.len+_;rw[sU];rfl)
def An(rs:Ua)(a:Nat)(v:IV):Prop:=v=.ag\/∃bD,v=.int bD/\1<=bD/\bD+((ws rs).getD a rd.1).af<=((ws rs).getD a rd.1).aD/\qG rs a bD<=bD
inductive MI(rs:Ua)(a D:Nat)(h:IH)(m:Nat):aA->IH->Prop|mk {t:Int}{v:Tf}{h':IH}(t1:1<=t) (m1:1<=m) (z:qG rs a t<=t\/202<=(m:Int)+cP ((ws rs).take a) t) (x:Ex h h'):MI rs a D h m [B (.ref D),B (.int (a:Int)),B (.int t),v] h'
def Jqp(N:Nm rs)(q:bK h D rs)(P:h[0]?=B (.tab "longest_hold"))(ha:a<rs.length):WR (CO (k+6) [.ref D,.int (a:Int)] h) λv h'=>An rs a v/\Ex h h':=by
 have dI:=N.dI;have E:∀d∈(ws rs).take a,Gw d:=λd hd=>N.G.g d<|nV hd
 have ea:(ws rs).getD a rd.1=(rs[a]).1:=by rw[Zv,Z5,Zd ha];rfl
 rw[Jse];calc ak (ae<|aj<|Jf rfl (ae<|yk (MI rs a D h) ?_ (m:=202) 01<|.mk (ZJ 1) 01 (.inr (by have:=(rise (ZJ 1) (ZJ 1) _ E).1;lia))<|.refl _));rintro m _ Q (@⟨t,v,_,t1,m1,z,x1⟩);let#[j,O,H]:=yx (q.kp x1.kp)<|Zd ha;refine Jf (fV<|Jr (ar (H rfl rfl) rfl)<|Jpo O)<|fm (λit=>?_) λ_=>ax<|Jf rfl #[.inl rfl,x1]
 have c:=λd hd=>N.b _ (Z9 ha) d hd t it
 have I:=Ek (s:=t) (m:=20) ((ws rs).take a) λd hd=>c d<|nV hd
 rw[kz,Zp]at I;let#[_,J,M,rfl,F]:=(J05 (k:=k) N (q.kp x1.kp) (x1.get P) ha c).eq;obtain⟨C,rfl⟩:∃C,m=C+1:=#[m-1,05];refine#[C,rfl,ae<|aj<|Jf (Jr (gW rfl rfl rfl) M)<|ae<|jm (Dp rfl rfl) (λl=>?_) λl=>aK<|aj<|Jf rfl ?_]
 .show ax (Jf rfl #[.inr #[t,rfl,t1,by rw[ea];show it,l],x1.trans F])
 .have l:=kE.mp l;let#[_,R,_,L]:=rise t1 (ZV l) _ E;have z:=z.resolve_left<|kE.mpr l;calc .mk 05 05 ?_<|x1.trans F;by_cases e:cP ((ws rs).take a) t=cP ((ws rs).take a) (qG rs a t)
  .show .inl (by have:=L e;unfold qG at this ⊢;lia)
  .show .inr 05
end
end
section
seal L4.run L4.WS L4.WR
def MJ(s:Int)(a:Nat)(d:WD)(x:Int):Cm:=#[a,x,if s-x>0 then s-x else 0,d.len]
noncomputable def Q7 (s:Int)(d:WD)(n:Nat):Tp:=(ZK n).map λ(t:Nat)=>s-d.af+(t:Int)*d.gap
noncomputable def En (s:Int)(d:WD)(v:IV):IV:=match v with|.int t=>.int<|s-d.af+t*d.gap|_=>.ag
def MK(s:Int)(a:Nat)(d:WD)(v:IV):IV:=match v with|.int x=>aI<|MJ s a d x|_=>.ag
def In(rs:Ua)(cs:Ub):Prop:=∀c∈cs,c.at_<rs.length
section
variable{k:Nat}{h:IH}{U:aA}{s:Int}
theorem Eo{a b:E1}{i j:Nat}{h1 J:IH}{xs ys:Tw}(ea:a U h=.ok (.ref i) h1)(m:b U h1=.ok (.ref j) J)(C:J[i]?=B (.lst xs))(D:J[j]?=B (.lst ys))(l:xs.length+ys.length<=1000):Je Jq a b U h=.ok (.ref J.length) (J++[.lst<|xs++ys]):=(aJ ea m).trans (Js<|(Ce ..).mpr #[_,C,_,D,by have:=J4;lia,rfl,rfl])
def Ep(ea:a U h=.ok (.ref i) h1)(g:h1[i]?=B (.lst<|ms.map .int))(ne:ms≠[]):bt (bu Vw) (Jb a Jc) U h=.ok (.int<|JL (λi=>ms.getD i 0) ms.length) h1:=by rw[iG<|aq ea];show Js (by change WR (Vw (.ref i) h1) _;rw[LK g ne];show#[rfl,rfl])
def ML{D a n:Nat}{rs:Ua}(hd:bK h D rs)(ha:a<rs.length)(hn:n<=100):
  WR (xM (k+2) [.ref D,.int (a:Int),.int s,.int (n:Int)] h) λv h'=>∃i cs,v=.ref i/\h.length<=i/\h'[i]?=B (.lst<|cs.map aI)/\cs.length=n/\In rs cs/\Ex h h':=by
 have O:=J4;let#[Q,L,w]:=hd;let#[j,P,m]:=w.get<|Zd ha;generalize rs[a]=r at m;have R:bW Q (a:Int)=B (.ref j):=JN P;let#[_,_,E,rfl,g1,rfl]:=(Qr (it:=cT JX<|Jb 'd' Jc) (js:=[2,4]) (e:=Dg<|k+1) (U:=[B<|.ref D,B<|.int (a:Int),B<|.int s,B<|.int (n:Int),B<|.ref j,Ze]) (h0:=h) (h:=h) (xs:=aN 0 (n:Int)) (aZ:=λ_=>True) (f:=En s r.1)
  (by
   rw[Vn];calc Jf (aq rfl) ?_;rw[Xm];show#[05,rfl,rfl,rfl]) (by rw[JG];lia) (λ_ _=>trivial) (by
   intro v H J q;let#[t,S,rfl]:=iO.mp H;rw[JG]at S;rw[Qq];unfold Dg;show Jf (aP (dQ rfl (ao rfl (q _ _ m) j3))<|ft rfl (ao rfl (q _ _ m) oP) (.inl 05)) #[rfl,.refl _])).eq
 have M:(aN 0 (n:Int)).map (En s r.1)=(Q7 s r.1 n).map IV.int:=by
  refine mL (by simp[JG,Q7]) λi I J=>?_
  rw[iS,Qq];simp[Q7,En]
 rw[M]at E;have C:Ex h (h++IX.lst ((Q7 s r.1 n).map IV.int)::g1):=.cons _ _ _;have g2:(h++IX.lst ((Q7 s r.1 n).map IV.int)::g1)[h.length]?=B (.lst<|(Q7 s r.1 n).map IV.int):=J1;generalize h++IX.lst ((Q7 s r.1 n).map IV.int)::g1=I at C g2 E;rw[Jm0];calc ak<|ae<|aj<|Jf (mB L rfl rfl R)<|ae<|aj<|Jf E<|ax ?_;refine WR.mono (Qr (h:=I) (xs:=(Q7 s r.1 n).map IV.int) (aZ:=λh'=>h'[h.length]?=B (.lst<|(Q7 s r.1 n).map IV.int)) (f:=MK s a r.1) ?_ (by rw[Zp];simp[Q7];lia) (λJ q=>q _ _ g2) ?_) ?_
 .rw[Qc];show Jf rfl ((Qs _).mpr #[_,g2,rfl,rfl,rfl])
 .intro v H J q;let#[x,X,rfl]:=ZY.mp H;unfold Ld;show Jf (j0 (jl rfl rfl (qr rfl (dQ rfl rfl)) (ao rfl (q _ _<|C.get m) oJ)) rfl) #[rfl,.refl _]
 .rintro _ _ ⟨rfl,W,rfl⟩;have F:((Q7 s r.1 n).map IV.int).map (MK s a r.1)=((Q7 s r.1 n).map<|MJ s a r.1).map aI:=by rw[fy,fy];rfl
  rw[F];show#[_,_,rfl,C.len,J1,by simp[Q7],λc V=>by let#[x,_,rfl]:=ZY.mp V;show ha,C.trans<|.cons _ _ _]
def Jpl{D a:Nat}{rs:Ua}(N:Nm rs)(q:bK h D rs)(t0:h[0]?=B (.tab "longest_hold"))(ha:a<rs.length):
  WR (CV (k+4) [.ref D,.int (a:Int)] h) λv h'=>∃R n cs,v=.tup [.ref R,.int (n:Nat)]/\h'[R]?=B (.lst<|cs.map aI)/\n<cs.length/\In rs cs/\Ex h h':=by
 have O:=J4;have dI:=N.dI;let#[_,E,e1,rfl,x1]:=(MH (k:=k) ha q 05 N.no t0).eq;let#[vs,gD,w]:=id<|q.kp x1.kp;have wl:=w.len;let#[_,_,Y,rfl,g2,rfl]:=(Qr (it:=Ju<|kn kW (Jk "works" 'a') Xg<|Qp<|Je Jq 'b' '1') (js:=[]) (e:=Dh<|k+3) (U:=[B<|.ref D,B<|.int (a:Int),B .ag,B<|.int 0,Ze,Ze,Ze,Ze]) (h0:=E) (h:=E) (xs:=vs.take<|a+1) (aZ:=λ_=>True) (f:=jq "late" E)
  (by
   rw[Qc];calc(xh ..).mpr<|Jf (ao rfl gD oQ)<|Jf rfl ((Jx5 ..).mpr<|Jf (aP rfl rfl) #[_,rfl,Jf rfl ?_]);rw[show(B<|(a:Int)+1)=B ((a+1:Nat):Int)from rfl,Jve];show(xm _).mpr #[rfl,rfl,rfl]) (by rw[kz];lia) (λ_ _=>trivial) (by
   intro v hv J q;let#[d,_,j,hs,rfl,e]:=w.w.of<|nV hv;unfold Dh;show Jf (ao rfl (q _ _ e) j3) #[by rw[jq,Q9 e,j3];rfl,.refl _])).eq
 have em:(vs.take<|a+1).map (jq "late" E)=((rs.take<|a+1).map λr=>r.1.af).map IV.int:=by rw[vf,w.w.lH (F:=jq "late" E) (g:=λd=>.int d.af) λj d hs e=>by rw[jq,Q9 e,j3];rfl,<-vf,<-vf,fy,fy];rfl
 rw[em]at Y;have l3:((rs.take<|a+1).map λr=>r.1.af).length<=12:=by rw[Zp,kz];lia
 generalize ((rs.take<|a+1).map λr=>r.1.af)=M at Y l3;have e3:=Eo (U:=[B<|.ref D,B<|.int (a:Int),B .ag,B<|.int 0,Ze,Ze,Ze,Ze]) Y (cK (aq (a:=Ja 3) rfl) rfl) (grow J1) grown (by rw[Zp];change _+1<=_;lia);have x3:Ex E (E++IX.lst (M.map IV.int)::g2++[IX.lst [IV.int 0]]++[IX.lst<|M.map IV.int++[IV.int 0]]):=(Ex.cons _ _ _).trans<|(Ex.one _ _).trans<|.one _ _;have e4:=Ep (ms:=M++[0]) e3 (by rw[kj];show grown) 03;generalize E++IX.lst (M.map IV.int)::g2++[IX.lst [IV.int 0]]++[IX.lst<|M.map IV.int++[IV.int 0]]=V at x3 e4;generalize JL (λi=>(M++[0]).getD i 0) (M++[0]).length=T at e4;have Q:=x1.trans x3;have S:=q.kp Q.kp;have x5:Ex V (V++[IX.lst []]):=.one _ _;have er:=Zd ha;let#[j,gj,wj]:=yx (S.kp x5.kp) er;rw[Jpe];calc ak (ae<|aj<|Jf (Jr (ar rfl rfl) e1)<|ae<|aj<|(jZ<|Jf (cg<|(aJ rfl rfl).trans rfl) #[λ_=>Jf rfl ?_,λz=>by cases z]));calc ae<|aj<|Jf e4<|ae<|aj<|Jf (cK rfl rfl)<|ae<|bJ (cg<|(aJ rfl rfl).trans rfl)<|aK<|ae<|aj<|Jf (dQ (ao (wj rfl rfl) gj lG)<|ao (wj rfl rfl) gj j3)<|ae<|lE (n:=a) rfl 05 ?_;have X:=x5.kp;generalize hL:V.length=R;refine Vc (λn U h'=>∃c cs,U=[B<|.ref D,B<|.int (a:Int),B .ag,B<|.int 0,B<|.int T,B<|.ref R,B<|.int<|(rs[a]).1.aD-(rs[a]).1.af,c]/\Kp V h'/\h'[R]?=B (.lst<|cs.map aI)/\cs.length<=20*n/\In rs cs) (λ_ _ _ _=>trivial) ?_ ?_ #[Ze,[],rfl,X,by rw[<-hL];show grown,Zk _,λ_ C=>by cases C]
 .rintro n hn _ h6 ⟨c,cs,rfl,P,I,lc,W⟩;rw[JG]at hn;have H:n<rs.length:=05;rw[Qq,show(0+(n:Int))=(n:Int) by lia];let#[jn,gn,wn]:=yx (S.kp P)<|Zd H;have dn:(rs[n]).1∈ws rs:=List.mem_map_of_mem<|Z9 H;have gw:=N.G.g _ dn;have c0:=VW (s:=(rs[a]).1.aD-(rs[a]).1.af) gw;have c1:=N.b _ (Z9 ha) _ dn ((rs[a]).1.aD-(rs[a]).1.af) 05;obtain⟨m,ec⟩:∃m:Nat,cm ((rs[a]).1.aD-(rs[a]).1.af) (rs[n]).1=(m:Int):=#[_,(Int.toNat_of_nonneg c0).symm];let#[_,h7,Z,i,ct,rfl,li,gi,lt,it,L]:=(ML (k:=k+1) (s:=T) (n:=m) (S.kp P) H 05).eq;calc j1 rfl (JM<|Qt rfl I xn (Jf (aq<|Jr (jl rfl rfl rfl (fU (Jr (ar (wn rfl rfl) rfl)<|yt gn gw)<|congrArg IV.int ec)) Z) ?_));rw[xp (L.get I) gi (by rw[Zp,Zp];lia),<-kj];calc#[_,cs++ct,rfl,λi ob e=>J8 (L.get<|P _ _ e) (by have:=J9 e;lia),JZ<|L.get I,by rw[ZB];lia,λc C=>?_];rcases ZQ.mp C with C|C
  .show W c C
  .show it c C
 .rintro _ h6 ⟨c,cs,rfl,P,I,lc,W⟩;rw[JG]at lc;let#[_,h7,Z,i,ct,rfl,li,gi,lt,it,L]:=(ML (k:=k+1) (s:=T) (n:=1) (S.kp P) ha 01).eq;calc ae<|JM<|Qt rfl I xn (Jf (aq<|Jr (jl rfl rfl rfl rfl) Z) ?_);rw[xp (L.get I) gi (by rw[Zp,Zp];lia),<-kj];have g8:=JZ (o':=IX.lst<|(cs++ct).map aI)<|L.get I;refine ax (Jf (j0 (ar rfl (dQ (dP rfl g8) rfl)) rfl) #[R,cs.length,cs++ct,?_,g8,by rw[ZB];lia,λc C=>?_,Q.trans<|V8 λi ob e=>J8 (L.get<|P _ _ e) (by have:=J9 e;lia)])
  .rw[Zp,ZB,lt];show congrArg (λz=>IV.tup [.ref R,.int z]) 05
  .rcases ZQ.mp C with C|C
   .show W c C
   .show it c C
end
end
section
seal L4.run L4.WS L4.WR
section
variable{k:Nat}{h:IH}{rs:Ua}{D a:Nat}
def J0b:∀p:Nat,p<12->(ZG<|toString (p:Int)).length<=1000:=by decide +kernel
def Jwu{n p:Nat}(e:h[n]?=B (.exc "NotKept" []))(hp:p<12):xx (k+1) [.ref n,.int (p:Int)] h=.ok .ag (h.set n<|.exc "NotKept" [("at",.int (p:Int))]):=by
 have O:=J4;have l1:=J0b p hp;have l0:(ZG "the work with number ").length=21:=by decide +kernel
 have C:(ZG " has no answer").length=14:=by decide +kernel
 have I:((p:Int)).natAbs.log2<1920:=by
  have:(p:Int).natAbs.log2<=p:=by rw[Int.natAbs_natCast];show Nat.log2_le_self p
  lia
 have xo:((pg k).xo "NotKept").isSome=Zi:=02;have xf:eJ T "at" "NotKept"=Zi:=02;obtain⟨t,J⟩:∃t,k9 [eC<|.str "the work with number ",dH fb 'b',eC<|.str " has no answer"] [B<|.ref n,B<|.int (p:Int)] h=.ok (.str t) h:=by
  have m:dH fb 'b' [B<|.ref n,B<|.int (p:Int)] h=.ok (.str<|toString (p:Int)) h:=by change(if ((p:Int)).natAbs.log2<1920 then Res.ok (IV.str<|toString (p:Int)) h else .stuck)=_;rw[if_pos I]
  generalize P:ZG "the work with number "=A at l0;generalize L:ZG " has no answer"=j at C;generalize M:ZG (toString (p:Int))=F at l1 m;have q1:(iT++A).length<=sizeLine:=by rw[rE,l0];change 0+21<=_;lia
  have E:(iT++A++F).length<=sizeLine:=by rw[rE,rE,l0];change 0+21+_<=_;lia
  have D:(iT++A++F++j).length<=sizeLine:=by rw[rE,rE,rE,l0,C];change 0+21+_+14<=_;lia
  calc#[iT++A++F++j,?_];change(if (iT++A).length<=sizeLine then Xx [dH fb 'b',eC<|.str j] (iT++A) [B<|.ref n,B<|.int (p:Int)] h else .stuck)=_;rw[if_pos q1];change(dH fb 'b' [B<|.ref n,B<|.int (p:Int)] h).bind _=_;rw[m];change(if (iT++A++F).length<=sizeLine then Xx [eC<|.str j] (iT++A++F) [B<|.ref n,B<|.int (p:Int)] h else .stuck)=_;rw[if_pos E];change(if (iT++A++F++j).length<=sizeLine then Xx [] (iT++A++F++j) [B<|.ref n,B<|.int (p:Int)] h else .stuck)=_;rw[if_pos D];change(if (iT++A++F++j).length<=sizeLine then Res.ok (IV.str _) h else .stuck)=_;rw[if_pos D]
 have m:Yk (λc=>((pg k).xo c).isSome) (Jb 'a'<|Jb (k9 [eC<|.str "the work with number ",dH fb 'b',eC<|.str " has no answer"]) Jc) [B<|.ref n,B<|.int (p:Int)] h=.ok .ag h:=by unfold Yk;rw[ar rfl J];change(match h[n]? with|some (.exc c _)=>if ((pg k).xo c).isSome then Res.ok IV.ag h else .stuck|_=>.stuck)=_;rw[e];change(if ((pg k).xo "NotKept").isSome then Res.ok IV.ag h else .stuck)=_;rw[if_pos xo]
 have H:wH (eJ T "at") "at" 'a' 'b' [B<|.ref n,B<|.int (p:Int)] h=.next [B<|.ref n,B<|.int (p:Int)] (h.set n<|.exc "NotKept" [("at",.int (p:Int))]):=by change(match h[n]? with|some (.exc c [])=>if eJ T "at" c&&Zi then bM.next _ (h.set n<|.exc c [("at",.int (p:Int))])else .stuck|_=>.stuck)=_;rw[e];change(if eJ T "at" "NotKept"&&Zi then _ else bM.stuck)=_;rw[if_pos<|by rw[xf];rfl]
 calc Js ?_;rw[Jgh];calc ak<|ae<|JM<|Jf m ?_;unfold KQ;rw[H,HQ];show#[rfl,rfl]
def Jqc(e:m U h=.ok (.ref n) h1)(hn:h1[n]?=B (.exc c fs))(r:rz c=Zi)(y:YY n U h1):eu (Y6 rz m U h) N R YY:=by unfold Y6;rw[YJ,e,J8w];dsimp only;rw[hn];dsimp only;rw[if_pos r];show y
def Jwz(N:Nm rs)(q:bK h D rs)(M:h[0]?=B (.tab "longest_hold")):
  WE (C1 (k+7) [.ref D] h) (λv h'=>Fits (ws rs)/\∃i xs,v=.ref i/\h'[i]?=B (.lst xs)/\Ex h h') λn h'=>∃a,a<rs.length/\h.length<=n/\h'[n]?=B (.exc "NotKept" [("at",.int (a:Int))])/\Ex h h':=by
 have O:=J4;have dI:=N.dI;let#[Q,I,w]:=id q;have R:=w.len;rw[Jvw];calc J6f ?_;rw[Lg,xq];calc eu.of<|aj<|Jf (cK rfl rfl) ?_;rw[Lf,xq,J22];calc WE.of<|(Vn ..).mpr<|Jf (aq<|dS rfl (grow I) yh (yb _) rfl (yi<|grow I))<|(Xm ..).mpr #[05,?_];refine Jx7 (λn U h'=>∃g a b xs,U=[B<|.ref D,B<|.ref h.length,a,b]/\h'=h++IX.lst xs::g/\xs.length=n/\∀a,a<n->∃j,An rs a<|.int j) (λ_ _ _ _=>trivial) ?_ ?_ #[[],Ze,Ze,[],rfl,rfl,rfl,λa z=>05]
 .rintro n hn _ _ ⟨g,a,b,xs,rfl,rfl,J,C⟩;rw[JG]at hn;have H:n<rs.length:=05;rw[Qq,show(0:Int)+(n:Int)=n by lia];calc j1 rfl ?_;rw[Le,xq,J25,Ig];have L:Ex h (h++IX.lst xs::g):=.cons _ _ _;calc WE.of<|Jf (ar rfl rfl)<|WE.of<|WR.mono (Jqp (k:=k) N (q.kp L.kp) (L.get M) H) ?_;rintro v _ ⟨m,E,rfl⟩;rw[xq,J6w];calc WE.of ?_;rw[hX,iQ];rcases id m with rfl|⟨j,rfl,_⟩
  .calc Jf (cg<|(aJ rfl rfl).trans rfl) #[λ_=>?_,λz=>by cases z];have F:Ex h (h++IX.lst xs::(g++E)):=.cons _ _ _;generalize h++IX.lst xs::(g++E)=h1 at F;calc Jqc (n:=h1.length) (c:="NotKept") (fs:=[("at",.int (n:Int))]) (h1:=h1++[.exc "NotKept" [("at",.int (n:Int))]]) ?_ grown 02 #[#[_,_,grown],#[_,_,grown],n,H,F.len,grown,F.trans<|.one _ _];change((xx (k+6) [.ref h1.length,.int (n:Int)]<|h1++[.exc "NotKept" []]).bind _)=_;rw[Jwu grown 05,Xl];rfl
  .calc Jf (cg<|(aJ rfl rfl).trans rfl) #[(λz=>by cases z),λ_=>?_];rw[J23];calc eu.of<|JM<|Qt (i:=h.length) rfl J1 V5 (Jf (aq rfl)<|iH J1 05 ?_);rw[V0];calc#[g++E,_,_,_,rfl,rfl,by rw[ZB,J];rfl,λa z=>?_];by_cases e:a=n
   .show#[j,by rw[e];show m]
   .show C a 05
 .rintro _ _ ⟨g,a,b,xs,rfl,rfl,J,C⟩;rw[JG]at C;calc eu.of<|ax<|Jf rfl #[λn hn=>?_,_,_,rfl,J1,.cons _ _ _];have P:n<rs.length:=by rwa [Zp]at hn
  let#[j,m]:=C n 05;rcases m with z|⟨L',e,l1,l2,l3⟩
  .cases z
  .cases e;have e:(ws rs).getD n rd.1=(ws rs)[n]:=by rw[Zv,Zd hn];rfl
   rw[qG]at l3;rw[e]at l2 l3;show#[j,l1,l2,l3]
end
end
section
seal L4.run L4.WS L4.WR
section
variable{k:Nat}{h:IH}{rs:Ua}{D:Nat}
theorem MM(g:h[i]?=B (.lst xs)):xQ (k+1) [.ref i] h=.ok (.ref h.length) (h++[.lst xs]):=Js (by rw[Jmz];show ak<|ax<|jZ<|Jf (fV<|nv rfl (by rw[HV g];rfl)) #[λ_=>Jf (Lr rfl g) #[rfl,rfl],λz=>by cases z])
theorem kp0:bG "lines" a ([]:Wo)=([("lines",a)]:Wo):=02
theorem bk0:bG "row" a ([]:Wo)=([("row",a)]:Wo):=02
theorem bk1:bG "place" b ([("row",a)]:Wo)=([("row",a),("place",b)]:Wo):=02
theorem bk2:bG "turn" c ([("row",a),("place",b)]:Wo)=([("row",a),("place",b),("turn",c)]:Wo):=02
def Jd(b:Bool)(v:IV)(h:IH):Prop:=∃bB fs,v=.ref bB/\h[bB]?=B (.ins (if b then "Kept" else "Broken") fs)/\fs.lookup ("kept":Str)=Ze
theorem Jd.kp(j:Jd b v h)(k:Kp h h'):Jd b v h':=let ⟨bB,fs,a,g,l⟩:=j;#[bB,fs,a,k _ _ g,l]
def MN(j:Jd b v h1)(m:e U h=.ok v h1):Jo (pg<|k+1) "kept" 0 e Jc U h=.ok (.bl b) h1:=by let#[bB,fs,rfl,g,l]:=j;cases b with|true=>show dS m g l (Jk2 _) rfl (Js (by change WR (C2 (k+1) [.ref bB] h1) _;rw[Jlc];show ak<|ax<|Jf rfl #[rfl,rfl]))|false=>show dS m g l (Jg9 _) rfl (Js (by change WR (C4 (k+1) [.ref bB] h1) _;rw[Jhe];show ak<|ax<|Jf rfl #[rfl,rfl]))
def Er(j:e U h=.ok (.bl b) h1):dH (VF cH) e U h=.ok (.bl (!b)) h1:=by unfold dH;rw[j];rfl
def MO(g:h[i]?=B (.lst xs)):WR (xR (k+2) [.ref h.length,.ref i]<|h++[.ins "Kept" []]) λr h'=>r=.ag/\Jd Zi (.ref h.length) h'/\Ex h h':=by
 rw[Jlb];have j:Ex h (h++[IX.ins "Kept" []]++[.lst xs]):=(Ex.one _ _).trans<|.one _ _;refine ak<|Qk (Jr (aq rfl)<|MM<|grow g) rfl (grow grown) 01 #[rfl,#[h.length,[("lines",.ref (h++[IX.ins "Kept" []]).length)],rfl,?_,?_],Qu j<|Zk _]
 .rw[kp0];show JZ<|grow grown
 .kernel_rfl
def Jq7{R n:Nat}{cs:Ub}(d:bK h D rs)(g:h[R]?=B (.lst<|cs.map aI))(hn:n<cs.length)(H:In rs cs):WR (xS (k+3) [.ref D,.ref R,.int (n:Int)] h) λv h'=>Jd Zl v h'/\Ex h h':=by
 have ha:(cs.getD n cd).at_<rs.length:=H _<|by rw[Zv,Zd hn];show Z9 hn
 rw[Jlf];calc ak<|ax<|(VP ..).mpr<|Jf (gW rfl rfl (Jr (ar rfl (aW rfl rfl g (Yb hn)))<|L1 d ha)) ?_;change WR (C3 (k+2) [.ref h.length,.ref R,.int (n:Int),.int<|lK rs<|cs.getD n cd]<|h++[.ins "Broken" []]) _;rw[Jhd];generalize lK rs (cs.getD n cd)=I;have F:Ex h (h++[IX.ins "Broken" []]++[.lst<|cs.map aI]):=(Ex.one _ _).trans<|.one _ _;have g1:(h++[IX.ins "Broken" []]++[IX.lst<|cs.map aI])[h.length]?=B (.ins "Broken" []):=grow grown;calc ak<|ae<|Qk (Jr (aq rfl)<|MM<|grow g) rfl g1 01 ?_;generalize (h++[IX.ins "Broken" []]).length=j;rw[bk0];have C:=Qu (o:=.ins "Broken" [("row",.ref j)]) F<|Zk _;have g2:=JZ (o':=.ins "Broken" [("row",.ref j)]) g1;generalize (h++[IX.ins "Broken" []]++[IX.lst<|cs.map aI]).set h.length (.ins "Broken" [("row",.ref j)])=J at C g2;calc ae (Qk rfl rfl g2 (by change 1<1000;decide) ?_);rw[bk1];have E:=Qu (o:=.ins "Broken" [("row",.ref j),("place",.int (n:Int))]) C<|Zk _;have m:=JZ (o':=.ins "Broken" [("row",.ref j),("place",.int (n:Int))]) g2;generalize J.set h.length (.ins "Broken" [("row",.ref j),("place",.int (n:Int))])=L at E m;refine Qk rfl rfl m (by change 2<1000;decide) #[rfl,#[_,[("row",.ref j),("place",.int (n:Int)),("turn",.int I)],rfl,?_,?_],Qu E<|Zk _]
 .rw[bk2];show JZ m
 .kernel_rfl
def Jwi(N:Nm rs)(q:bK h D rs)(L:h[0]?=B (.tab "longest_hold")):WR (xT (k+8) [.ref D] h) λv h'=>∃b,Jd b v h'/\(b=Zi->Fits (ws rs))/\Ex h h':=by
 rw[Jhi];calc ak<|Ih _ _ ?_;rw[J24,J2h,Jxy,Ig];refine WE.of<|Jf (aq rfl)<|WE.mono (Jwz (k:=k) N q L) ?_ ?_
 .rintro _ E ⟨F,i,xs,rfl,V,H⟩;rw[J2g];refine WE.mono (WE.of<|MO (k:=k+5) V) ?_ λ_ _ z=>z
  rintro _ J ⟨rfl,j,C⟩;show#[rfl,Zi,j,λ_=>F,H.trans C]
 .rintro n E ⟨a,ha,P,gn,H⟩;calc#[_,_,gn,?_];rw[J8y 02];change WS (Xj 1 _ [B<|.ref D,B<|.ref n,Ze] E) _ _;rw[J20 rfl gn];have C:=Qu (o:=.iZ "NotKept" [("at",.int (a:Int))]) H P;have g2:=JZ (o':=.iZ "NotKept" [("at",.int (a:Int))]) gn;generalize E.set n (.iZ "NotKept" [("at",.int (a:Int))])=J at C g2;have xf:eJ T "at" "NotKept"=Zi:=02;have ea:Yl (eJ T "at") "at" 'b' [B<|.ref D,B<|.ref n,Ze] J=.ok (.int (a:Int)) J:=by
   change(match J[n]? with|some (.exc c [(g,y)])=>if eJ T "at" c&&decide (g=("at":Str))then Res.ok y J else .stuck|some (.iZ c [(g,y)])=>if eJ T "at" c&&decide (g=("at":Str))then Res.ok y J else .stuck|_=>.stuck)=_;rw[g2];dsimp only;rw[xf,decide_eq_true rfl];rfl
  let#[_,Y,M,R,m,X,rfl,U,Q,O,I]:=(Jpl (k:=k+3) N (q.kp C.kp) (C.get L) ha).eq;calc ae<|aj<|Jf (Jr (ar rfl ea) M)<|ax<|(J2l ..).mpr<|Jf (gW rfl (bp rfl rfl Q5) (bp rfl rfl QR))<|WR.mono (Jq7 (k:=k+4) (q.kp (C.trans I).kp) U Q O) ?_;rintro _ W ⟨j,S⟩;show#[Zl,j,(λz=>by cases z),(C.trans I).trans S]
theorem Gd.gs(G:Gd unit rs):Gs (ws rs):=λd hd=>by have l:=(G.gl d hd).2;let#[r,j,rfl]:=ZY.mp hd;have f:=G.f r j;have g1:=f.g1;have u1:=G.u1;show#[#[05,l,f.l1,f.d1,f.t1],f.d2]
theorem Gd.nm(G:Gd unit rs):Nm rs:=#[G.dI,λr j=>(G.f r j).no,G.gs,λr j d hd s D=>by
 let#[q,m,rfl]:=ZY.mp hd;have f:=G.f r j;have e:=G.f q m;have u1:=G.u1;have F:=f.d2;have E:=f.g2;have I:=f.t1;have H:=e.g1;have C:=e.t2;unfold cm;split
 .show Y5 05 05
 .decide]
def J0z(q:bK h D rs)(H:Gd unit rs)(F:Fits<|ws rs):WR (C5 (k+7) [.ref D] h) λv h'=>Jd Zi v h'/\Ex h h':=by
 have dI:=H.dI;have G:=H.gs;have l5:(ws rs).length<=5:=by rw[Zp];show dI
 let#[M,X,S,hM,R]:=mxD G;let#[O,Z,YM,hY]:=low G F S hM;have big:∀d∈ws rs,2*M-2<15*d.gap/\cm O d<=20:=λd hd=>by
  have:2*M<=15*unit:=by
   rcases R with e|⟨d,hd,rfl⟩
   .rw[e]at hd;cases hd
   .let#[r,I,rfl]:=ZY.mp hd;have:=(H.f r I).g2;have:=(H.f r I).d2;lia
  let#[r,I,rfl]:=ZY.mp hd;have f:=H.f r I;have g1:=f.g1;have t2:=f.t2;have u1:=H.u1;calc#[05,?_];unfold cm;split
  .show Y5 05 05
  .decide
 have L:=Ek (s:=O) (m:=20) (ws rs) λd hd=>(big d hd).2
 have L:cP (ws rs) O<=200:=05;let#[_,h1,e1,_,Q]:=(DT (k:=k+3) q 05 λr I=>(H.f r I).no).eq;let#[vs,P,w]:=q;have w:=w.w;let#[_,J,W,i,t,ts,rfl,g2,#[t1,tY,at_],Y]:=(Jxq (k:=k+2) (Q.get P) (w.kp Q.kp) 05 G.g X S Z hY L).eq;have C:=Q.trans Y;have ct:=eN (rise t1 tY _ G.g).2.1 L;let#[_,h3,e3,rfl,x3]:=(J1k (k:=k) (C.get P) (w.kp C.kp) 05 G.g ct t1 (J7e l5 G F 05 R λd hd=>(big d hd).1) λx hx=>by let#[_,d,hd,l]:=Mu G.g hx;let#[n,hn,rfl]:=iO.mp hd;let#[r,r1,r2,_]:=F n hn;have:=Mz G F _ (Zk _) x.toNat;rw[va,show(x.toNat:Int)=x by lia]at this;show this).eq;have E:=C.trans x3;let#[_,h4,U,rfl,x4]:=(Em (k:=k+3) (E.get P) (w.kp E.kp) 05 G.g ct).eq;rw[Jlh];calc ak<|ae<|JM<|Jf (Jr (aq rfl) e1)<|ae<|aj<|Jf (aW (Jr (aq rfl) W) rfl g2 yq)<|ae<|aj<|Jf (Jr (ar rfl rfl) e3)<|ae<|bJ (cg<|(aJ rfl rfl).trans rfl)<|aK<|ae<|bJ (fU (jk (Jr (ar rfl rfl) U) rfl)<|decide_eq_false<|hi.mpr at_)<|aK<|ax<|(VP ..).mpr<|Jf (aq<|cK (aq rfl) rfl)<|WR.mono (MO (k:=k+4) grown) ?_;rintro _ h5 ⟨rfl,j,V⟩;show#[rfl,j,(E.trans x4).trans<|(Ex.one _ _).trans V]
def Jps{m:Int}(q:bK h D rs)(E:Gd m rs)(F:Fits<|ws rs):WR (xX (k+8) [.ref D] h) λv h'=>v=.bl Zl/\Ex h h':=by let#[_,I,H,j,C]:=(J0z (k:=k) q E F).eq;rw[Jji];calc ak<|ae<|aj<|Jf rfl (ae<|Ih _ _<|eu.of<|aj<|Jf (Jr (aq rfl) H)<|ax<|Jf (Dv ?_<|Er<|MN j rfl) #[rfl,C]);let#[bB,fs,rfl,_]:=j;show(aJ rfl rfl).trans rfl
end
end
section
seal L4.run L4.WS
def Yx(ns:Tp):iW (ns.map rL)=Zi:=by induction ns with|nil=>rfl|cons n ns j=>rw[ZW,iW,j];rfl
section
variable{k:Nat}{h:IH}
def nz(ea:a U h=.ok x h1)(j:b U h1=.ok xs J):Jb a b U h=.ok (x::xs) J:=by change(a U h).bind (λx h1=>(b U h1).bind λxs J=>.ok (x::xs) J)=_;rw[ea];change(b U h1).bind _=_;rw[j];rfl
def DW(h1:IH)(x y:IV)(h':IH):Prop:=∀(r:RH)(q:Nat),x=kq r q->h1[q]?=B (.lst<|r.2.map cL)->∃w:Nat,y=IV.ref w/\w≠h1.length/\h'[w]?=B (wo r)
def Jxz{S lo:Nat}{ys:Tw}{rs:Ua}{E:Int}{e:E1}{U:aA}(X:e U h=.ok (.ref S) h)(G:Gd E rs)(R:h[S]?=B (.lst ys))(w:cu h lo ys rs):∃h',Jv (Ju e) 1 [] (br 0) J7 (xZ<|k+5) U h=.ok (.ref h.length) h'/\∃vs,h'[h.length]?=B (.lst vs)/\fX h' vs rs/\Kp h h':=by
 have O:=J4;have dI:=G.dI;have wl:=w.len;let#[v,M,ev,rfl,vs,gv,lv,k3,dv]:=(Cj (it:=Ju e) (e:=xZ<|k+5) (js:=[]) (U:=U) (h0:=h) (h:=h) (xs:=ys) (aZ:=λh'=>h'[S]?=B (.lst ys)) (DW h) (by rw[Qc];show Jf X<|(Qs _).mpr #[_,R,rfl,rfl,rfl]) 05 (by
   intro x y J M V dd r q e g;let#[w,F,H,D]:=dd r q e g;show#[w,F,H,V _ _ H D]) (λJ q=>q _ _ R) (by
   intro x Y J k2 l2;let#[n,hn,rfl]:=iO.mp Y;have C:n<rs.length:=05;let#[q,P,_,L]:=w.at_ n _ _ (Zd hn)<|Zd C;have j:=G.f _<|Z9 C;have u1:=G.u1;rw[P];generalize rs[n]=r at L j;have f1:=j.g1;unfold xZ;rw[VP];calc Jf (nz (bp rfl rfl Q5)<|nz (bp rfl rfl QR)<|nz (bp rfl rfl VT)<|nz (bp rfl rfl VU)<|aq<|bp rfl rfl xk) ?_;calc WR.mono (J07 (k:=k) (hs:=[]) j.nm 05 j.l1 j.t1 (λh1=>Jpy j.d1 j.d2) λh1 z=>Jf (Jjt _) #[rfl,.refl _]) ?_;rintro _ M ⟨rfl,g,rfl⟩;calc#[rfl,.cons _ _ _,λQ q' I m=>#[_,rfl,05,?_]];have I:kq r q=kq Q q':=I;simp![kq,ug,IV.tup.injEq,List.cons.injEq,IV.str.injEq,IV.int.injEq,IV.ref.injEq,and_true]at I;let#[F,H,D,e4,Z,rfl]:=I;rw[L]at m;have m:r.2.map cL=Q.2.map cL:=by simpa using m
   rw[j.no]at m;unfold wo;rw[<-F,<-H,<-D,<-e4,<-Z,<-m];show J1)).eq
 calc#[M,ev,vs,gv,#[05,λi v r a b=>?_],k3];let#[q,P,L]:=w.get b;let#[W,F,_,D]:=dv i _ _ P a r q rfl L;show#[W,F,D]
def oS(j:e U h=.ok (.int n) h):Qp e U h=.ok (B n) h:=by unfold Qp;rw[j];rfl
theorem MP(n:Nat):∀ns:Tp,(ns.map IV.int).mapM (toD h<|n+1)=B (ns.map rL)|[]=>rfl|x::ns=>by rw[ZW,pq,MP n ns];rfl
def Yi{ns:Tp}(Z:h[i]?=B (.lst<|ns.map .int)):toD h (n+2) (.ref i)=B (.list<|ns.map rL):=by rw[XH Z,MP];rfl
theorem Es:∀ns:Tp,h2 (.list<|ns.map rL) (.list [])=ns.isEmpty|[]=>by rw[vh,h2,oo];rfl|a::as=>by rw[ZW,h2,oo];rfl;all_goals intros;simp_all
def J7z{ns:Tp}(Z:h[i]?=B (.lst<|ns.map .int))(m:h[j]?=B (.lst [])):kY (.ref i) (.ref j) h=.ok (.bl (!ns.isEmpty)) h:=by
 have C:QG (.ref i) (.ref j) h=B ns.isEmpty:=by unfold QG;rw[Yi (n:=4) Z,Yi (n:=4) (ns:=[]) m];dsimp only;rw[if_pos #[by rw[iX];show Yx ns,by rw[iX];show Yx []]];show congrArg B<|Es ns
 unfold kY;rw[show VG (.ref i) (.ref j)=Ze from rfl];dsimp only;rw[C]
def J7v{as bs:Tp}(Z:h[i]?=B (.lst<|as.map .int))(C:h[j]?=B (.lst<|bs.map .int))(hl:h[l]?=B (.lst [.ref i,.ref j]))(D:h[e]?=B (.lst [])):oE (.ref e) (.ref l) h=.ok (.bl<|as.isEmpty||bs.isEmpty) h:=by
 have m:toD h 6 (.ref l)=B (.list [.list<|as.map rL,.list<|bs.map rL]):=by rw[XH hl,pq,pq,List.mapM_nil,Yi (n:=3) Z,Yi (n:=3) C];rfl
 unfold oE pZ;rw[m,Yi (n:=4) (ns:=[]) D];dsimp only;rw[if_pos #[by rw[iW,iW,iW,iX,iX,Yx,Yx];rfl,by rw[iX];show Yx []]];have a:=Es as;have b:=Es bs;simp![pv,List.any_nil,vh,Bool.or_false,a,b]
def Et{cs:Ub}(J:e U h=.ok (.ref bE) h1)(o:dF h1 kind bE rs)(no:No rs)(j:Ja 2 U h1=.ok (.ref R) h1)(C:h1[R]?=B (.lst<|cs.map aI))(bD:cO rs cs)(dI:cs.length<=20)(I:h1[2]?=B (.tab "Bench.__init__"))(t1:h1[1]?=B (.tab "Order.pick")):∃bC h',Ji (VR<|k+9) [] (Jb e<|Jb (bt (bu QM)<|Jb 'c' Jc) Jc) U h=.ok (.ref bC) h'/\h'[bC]?=B (.lst<|(Vi kind rs cs).map .int)/\Ex h1 h':=by have x:Ex h1 (h1++[.lst<|cs.map aI]):=.one _ _;let#[_,E,H,M,rfl,_,F,L]:=(Jtj (k:=k) (R:=h1.length) #[o.kp x.kp,grown,λc D=>(bD.ok c D).at_,(λr m=>by rw[no r m];show ZF _),x.get t1,05] (x.get I) bD 05).eq;show#[M,E,Jr (ar J<|Lr j C) H,F,x.trans L]
def MQ{ns:Tp}{N:aA->IH->Prop}(t0:h[2]?=B (.tab "Bench.__init__"))(t1:h[1]?=B (.tab "Order.pick"))(t2:h[0]?=B (.tab "longest_hold"))(gS:h[S]?=B (.lst ys))(w:cu h lo ys rs)(G:Gd unit rs):WS (Lp 15 [B<|.bX<|ns.map IV.int,B<|.ref S,Ze,Ze,Ze] h) N λv _=>v=.bl Zi:=by
 have dI:=G.dI;have no:No rs:=λr hr=>(G.f r hr).no
 have c7:=λ(h:IH)=>Ye (k:=14) (h:=h) ns 7 01;generalize ns.getD (kG 7) 0=x7 at c7;obtain⟨m,em,lm⟩:∃m:Nat,8+x7%10=(m:Int)/\m<=17:=#[(8+x7%10).toNat,05,05];have es:kn kW 'a' (Qp '8') (Qp<|Je Jq '8'<|Je J0 (Ji (V3 15) []<|Jb 'a'<|Jb '7' Jc)<|eC<|.int 10) [B<|.bX<|ns.map IV.int,B<|.ref S,Ze,Ze,Ze] h=.ok (.ref h.length) (h++[.lst<|((ns.take m).drop 8).map IV.int]):=by
  calc Js<|(xh ..).mpr<|Jf rfl (Jf (oS rfl)<|Jf (oS<|aP rfl (bI (Jr (ar rfl rfl)<|c7 _) rfl 01)) ?_);rw[em];have:dg (ns.map IV.int) (B 8) (B (m:Int))=((ns.take m).drop 8).map IV.int:=by rw[show(B (8:Int))=B ((8:Nat):Int)from rfl,Jzz,List.map_drop,vf]
  rw[<-this];show#[rfl,rfl]
 have x2:Ex h (h++[IX.lst<|((ns.take m).drop 8).map IV.int]):=.one _ _;let#[_,h3,e3,R,cs,rfl,_,gR,bD,C,Y]:=(J5l (k:=13) (x2.get gS) (w.kp x2.kp) G grown<|by rw[rq,kz];lia).eq;have C:cs.length<=20:=Zc C<|by rw[rq,kz];lia
 have Y:=x2.trans Y;calc ae<|aj<|Jf (Jr (ar es rfl) e3) ?_;let#[h4,ev,vs,gv,wA,k4]:=Jxz (k:=10) (e:=Ja 1) (U:=[B<|.bX<|ns.map IV.int,B<|.ref S,B<|.ref R,Ze,Ze]) rfl G (Y.get gS) (w.kp Y.kp);have x4:=V8 k4;let#[_,h5,e5,rfl,x5,d5]:=(J7c (k:=12) gv wA G).eq;calc ae<|aj<|(VP ..).mpr<|Jf (aq ev)<|Jf e5 #[rfl,?_];generalize h4.length=W at d5;have D:=Y.trans<|x4.trans x5;have H:=(x4.trans x5).get gR;change WS (Lo 15 [B<|.bX<|ns.map IV.int,B<|.ref S,B<|.ref R,B<|.ref W,Ze] h5) N _
 -- by ranks
 let#[_,h6,e6,rfl,x6,o6]:=(Jtw (k:=11) d5 05 no).eq;have q6:JV "ByRank" (xO 15) [] (Jb 'd' Jc) [B<|.bX<|ns.map IV.int,B<|.ref S,B<|.ref R,B<|.ref W,Ze] h5=.ok (.ref h5.length) h6:=Js<|(VP ..).mpr<|Jf (aq rfl)<|Jf e6 #[rfl,rfl,rfl];have x16:=D.trans x6;let#[bC,h7,e7,V,x7]:=Et (k:=6) q6 o6 no rfl (x6.get H) bD C (x16.get t0) (x16.get t1)
 -- by the earliest coming
 have x57:=x6.trans x7;let#[_,h8,e8,rfl,x8,o8]:=(Jmq (k:=11) (d5.kp x57.kp) 05 no).eq;have q8:JV "ByComing" (xP 15) [] (Jb 'd' Jc) [B<|.bX<|ns.map IV.int,B<|.ref S,B<|.ref R,B<|.ref W,Ze] h7=.ok (.ref h7.length) h8:=Js<|(VP ..).mpr<|Jf (aq rfl)<|Jf e8 #[rfl,rfl,rfl];have E:=x57.trans x8;have x18:=D.trans E;let#[K,L,e9,g9,x9]:=Et (k:=6) q8 o8 no rfl (E.get H) bD C (x18.get t0) (x18.get t1);have x59:=E.trans x9;calc ae<|aj<|Jf (cK (ar e7 e9) rfl) ?_;have V:=(x8.trans x9).get V;have xA:Ex L (L++[IX.lst [IV.ref bC,IV.ref K]]):=.one _ _;have gA:(L++[IX.lst [IV.ref bC,IV.ref K]])[L.length]?=B (.lst [.ref bC,.ref K]):=grown;change WS (Ln 15 [B<|.bX<|ns.map IV.int,B<|.ref S,B<|.ref R,B<|.ref W,B<|.ref L.length] _) N _;generalize L.length=Z_ at gA;have V:=xA.get V;have g9:=xA.get g9;have O:=x59.trans xA;generalize L++[IX.lst [IV.ref bC,IV.ref K]]=X at gA V g9 O;have fin:∀{h':IH},Ex h5 h'->WS (Lm 15 [B<|.bX<|ns.map IV.int,B<|.ref S,B<|.ref R,B<|.ref W,B<|.ref Z_] h') N λv _=>v=.bl Zi:=λ{h'} x=>by have dW:=d5.kp x.kp;let#[v,h1,e1,b,j,F,x1]:=(Jwi (k:=7) G.nm dW<|(D.trans x).get t2).eq;have eK:=Er<|MN (k:=14) j<|Jr (f:=xT 15) (d:=[]) (a:=Jb 'd' Jc) (U:=[B<|.bX<|ns.map IV.int,B<|.ref S,B<|.ref R,B<|.ref W,B<|.ref Z_]) (h:=h') (aq rfl) e1;calc ax ?_;cases b with|false=>show Jf (show pW _ _ cH _ _=.ok (.bl Zi) h1 by unfold pW;rw[eK];rfl) rfl|true=>let#[_,J,e2,rfl,x2]:=(Jps (k:=7) (dW.kp x1.kp) G<|F rfl).eq;have eB:=Er<|Jr (f:=xX 15) (d:=[]) (a:=Jb 'd' Jc) (U:=[B<|.bX<|ns.map IV.int,B<|.ref S,B<|.ref R,B<|.ref W,B<|.ref Z_]) (h:=h1) (aq rfl) e2;show Jf (show pW _ _ cH _ _=.ok (.bl Zi) J by unfold pW;rw[eK];change(dH _ _ _ h1)=_;show eB) rfl
 have P:Ex X (X++[IX.lst []]):=.one _ _;have eI:=J7v (P.get V) (P.get g9) (P.get gA) grown;calc ae ?_;cases q:((Vi 1 rs cs).isEmpty||(Vi 2 rs cs).isEmpty)with|false=>rw[q]at eI;show bJ (ud<|cg<|(aJ (cK rfl rfl) rfl).trans eI)<|aK<|fin<|O.trans P|true=>
  rw[q]at eI;have six:∀r∈rs,r.2.length<=6:=λr hr=>by rw[no r hr];show ZF _
  have e0:Vi 0 rs cs=[]:=by
   rcases kD .. ▸q with q|q
   .show Ms (kind:=1) bD six<|List.isEmpty_iff.mp q
   .show Ms (kind:=2) bD six<|List.isEmpty_iff.mp q
  have I:=O.trans P;have eT:Jl aV (Je oE (J2 Jc) 'e') [B<|.bX<|ns.map IV.int,B<|.ref S,B<|.ref R,B<|.ref W,B<|.ref Z_] X=.ok Zi (X++[.lst []]):=cg<|(aJ (cK rfl rfl) rfl).trans eI;clear eI;generalize X++[IX.lst []]=hB at eT I P;let#[_,hC,eC',rfl,xC,oC]:=(Jvj (k:=11) (d5.kp I.kp) 05 no).eq;have qC:JV "ByDue" (XL 15) [] (Jb 'd' Jc) [B<|.bX<|ns.map IV.int,B<|.ref S,B<|.ref R,B<|.ref W,B<|.ref Z_] hB=.ok (.ref hB.length) hC:=Js<|(VP ..).mpr<|Jf (aq rfl)<|Jf eC' #[rfl,rfl,rfl];have M:=I.trans xC;have Z:=D.trans M;let#[Q,hD,eD,gD,xD]:=Et (k:=6) qC oC no rfl (M.get H) bD C (Z.get t0) (Z.get t1);have xE:Ex hD (hD++[IX.lst []]):=.one _ _;have eE:=J7z (xE.get gD) grown;rw[e0]at eE;show bJ (uc eT<|cg<|(aJ eD<|cK rfl rfl).trans eE)<|aK<|fin<|M.trans<|xD.trans xE
def Jwj(ns:Tp)(hl:ns.length<=63):∃h',XS 16 [.bX<|ns.map IV.int] [.tab "longest_hold",.tab "Order.pick",.tab "Bench.__init__"]=.ok (.bl Zi) h':=by
 suffices h:WR (XS 16 [.bX<|ns.map IV.int] [.tab "longest_hold",.tab "Order.pick",.tab "Bench.__init__"]) λv _=>v=.bl Zi by let#[v,h',e,rfl]:=h.eq;show#[h',e]
 have E:([.tab "longest_hold",.tab "Order.pick",.tab "Bench.__init__"]:IH)[2]?=B (.tab "Bench.__init__"):=rfl;have t1:([.tab "longest_hold",.tab "Order.pick",.tab "Bench.__init__"]:IH)[1]?=B (.tab "Order.pick"):=rfl;have t2:([.tab "longest_hold",.tab "Order.pick",.tab "Bench.__init__"]:IH)[0]?=B (.tab "longest_hold"):=rfl;generalize ([.tab "longest_hold",.tab "Order.pick",.tab "Bench.__init__"]:IH)=h at E t1 t2 ⊢;have J:=λ(h:IH)=>Ye (k:=14) (h:=h) ns 7 01;generalize ns.getD (kG 7) 0=O at J;let#[_,m,M,C,S,Q,I,P,c,F,rfl,_,H,w,D,lr]:=(J12 (k:=11) (h:=h) ns).eq;have G:=D.gd lr;rw[J30];calc ak<|ae<|aj<|Jf (Jr (ar rfl rfl) M)<|ae<|jm (yc (bI (Qv (Jr (ar rfl rfl)<|J _) rfl 01 01) rfl 01) rfl) (λ_=>?_) λ_=>aK<|MQ (C.get E) (C.get t1) (C.get t2) H w G;have L:Ex m (m++[IX.lst I.reverse]):=.one _ _;have j:=C.trans L;calc aj<|Jf (a:=.ref m.length) (h:=m++[IX.lst I.reverse]) ?_<|MQ (j.get E) (j.get t1) (j.get t2) grown (w.rev.kp L.kp) G.rev;change gG (.ref S) m=_;show Js<|by rw[J6r];show#[_,H,rfl,rfl]
end
end
end LW
end
open PySem L2
theorem LW.walk{l:W.OpenLaw}{q:ZU}{loose:Tk}{XP:(Str->Tc)->aM->Prop}{m:bq->aM->Prop}{d:DefRec}{K:Params->W.Frag}{ts:Tu}(hn:l.most=B 63)(j:d.params.defaults=[]) (C:∀(w:bq) (h:aM),m w h->(K w.params).In h/\∀p∈ts,h.get? p=B (W.tabObj #[]))(D:∀w:bq,L4.Vg (K w.params) ["longest_hold","Order.pick","Bench.__init__"] ts=Zi) (F:∀(w:bq)(mg:Str->Tc)(fa:Z4)(h:aM),(K w.params).In h->h.Ns Z2 mg->mg d.name=B (.ref fa) ->∃fd:gY,(∀(s:Zx) (u:Zo),nK s fd #[[u],[]] [("_law_script",u)])/\∀base:aM,(K w.params).In base->base.Ns Z2 mg->L3.Q0 mg base->bx l.prog w (K w.params) mg base (L3.d9 l.prog w) (LW.T.cl LW.xw) 64 fa fd ["_law_script"] (L3.XF (K w.params) "_law_script"<|LW.XS 16)):W.WalkO q loose XP m l.row.toRowW d [] (λf vs=>PySem.call f vs):=L4.Jxv (n:=63) (k:=64) (x:="_law_script") (f:=LW.XS 16) (qs:=["longest_hold","Order.pick","Bench.__init__"]) (ts:=ts) hn 01 j #[λ_=>rfl,01,01] C D F λns E=>LW.Jwj ns E
open PySem PySem.W PyProof.Rows
structure PySem.W.Fast:Prop where (tw8440358179901943475 tw18273095597622458214 tw8113684176265878042 tw1059461899097011384 tw6341831587784254420 tw4251432633294171766 tw2407142564438291177 tw480515324995226590 tw4078405830782019530 tw7649030793080958545 tw7627344607027487982 tw7936417667960716769 tw15965082350060228500 tw9436755530785622130 tw11928469645073425777 tw1059696824489158467 tw5947579981886603819 tw16807927221505925219 tw8154041005040094287 tw10464832267138008573 tw7779600396126710739 tw8730183015592767567 tw17064087222760618279 tw6263995681750323516 tw16169667622363381764 tw16851412436841257003 tw717063356543519950 tw18130251127078216507 tw15174517837460272200 tw3320589071517272998 tw8159815981226597452 tw1276575724214891015 tw2869666175508610798 tw12630179084813502160 tw16091149810323488217 tw866481573315330043 tw13097298413489126526 tw5721288264598014019 tw16671624797877899380 tw2760389314406491117 tw5887214960674749252 tw12271969210722067613 tw16474024113227188656 tw6595020699859997586 tw11142649033620138987 tw18100133250755411593 tw13707024060742304586 tw5558554653651598478 tw1664695990474841746 tw10331075752754075971 tw13692038583164096901 tw16074281325622584516 tw7619137527963959291 tw16751822922828336970 tw16340875962591313509 tw1505344504215973472 tw11527241178443856178 tw8287093123331022900 tw13557711833609681218 tw3426824170179016066 tw9578299088749104216 tw8613090400834290608 tw637545062995946013 tw18129939465400216924 tw3053756011988607395 tw16313983551300588196 tw1372687205331684131 tw17676189016338939166 tw4050448288500097778 tw14019175554527689401 tw16819359428607736604 tw4149240026087668580 tw42306600429009276 tw12790369858691018437 tw18217997621695158355 tw11353326284522052949 tw16187523686324518481 tw1359054681609335299 tw243555866785425806 tw12370626475412031947 tw1381630584170745278 tw9722930411039739720 tw6820551152332289258 tw12612617466278657116 tw14193407216541466633 tw12107672706535072810 tw16062333160246392411 tw7889073969524568281 tw12477459773381963598 tw3058997692633921278 tw11316341782666470794 tw2858266111507505728 tw14026228828456593416 tw18011456196711177280 tw7183251796408537633 tw9753747155954965770 tw11623037954863889608 tw12294602340444215892 tw6247437917763542490 tw12855284895050705614 tw4785506349043817588 tw2130898006579855860 tw5107062305767765379 tw12933938715489487441 tw14399275435959393567 tw11564361024859585731 tw4556811678498019910 tw14973445216380473523 tw9997713140390723677 tw11711845344329786374 tw5911280847836897452 tw7325083079540919452 tw5884571899000070293 tw10138598145340700489 tw7155792197362781904 tw7502961366847329769 tw13797021305259767967 tw14870327010791785593 tw963796094417341724 tw4921465151694373076 tw9596030935810515441 tw7356372331952619447 tw18360119039321242281 tw16339004146811167892 tw16085307987342518430 tw9069503905440551533 tw4474805404198015786 tw1815836879922935204 tw18051642784402869842 tw5035713031551549425 tw2976615582350030791 tw17705054602593288760 tw12060780265922743252 tw2519634986781007232 tw6987831474378293677 tw8356802835466079032 tw11691837014789573699 tw1116101763512349905 tw12268929985812705312 tw5363312104572494259 tw8765524835899133783 tw6245800079954439501 tw13611943238265104722 tw14281525844459799718 tw433610322769448480 tw12464468318300199991 tw12596924958284307707 tw2649712817038321722 tw16411086291803585332 tw18054953610741691363 tw9849602930980335078 tw13970003937713892087 tw6114934513709737939 tw5635757850158260067 tw12039194082104638410 tw750875560987232797 tw14635513631774365432 tw16071576265999419863 tw12796235267574281156 tw723363088295913167 tw10785098425193555540 tw14694294132142612432 tw13960550762634344494 tw12213081620764569770 tw4905758577527935699 tw4008421897738929246 tw13105638259572509913 tw673499712092640199 tw12875993899978943249 tw1648442846053734444 tw12504690856207143877 tw4209868266096182014 tw17539234884495100583 tw15377196756878068505 tw14151970061420100770 tw10065047570449316739 tw17949131938579310 tw14953590848482019578 tw17311341471368365261 tw9718102801219994405 tw7161923363473006988 tw5949718878323013246 tw5134551131019707787 tw13374571365829091822 tw17813634863087609905 tw9818160277183006450 tw7244791135894949553 tw51615336523143629 tw6029854142476241291 tw5865668891892593332 tw13874531473167688620 tw14499262857473153013 tw1990904749101614093 tw8275745883516335525 tw15648036041187556597 tw6283329548323906733 tw1290178262208593885 tw29734058674974878 tw16239288494207005166 tw6619765008153263790 tw1688980776521883050 tw8151840113450063153 tw17797786903913591352 tw18043347469874230467 tw1591285392485577190 tw1900766623462283927 tw16199327376558763436 tw15546576532687415136 tw6664936808075803399 tw16104752392930408531 tw14817462205382981420 tw4109177417501751523 tw4489460640292910312 tw17567902003318926007 tw12278664968410729612 tw3740212267403260990 tw5750483285559466662 tw9804848146820728947 tw13095240004030632613 tw3541239263643590280 tw17478801575341156188 tw1727546987359136995 tw9371859009386323044 tw18045097564093369204 tw14398572102919467542 tw1715629465797145411 tw18123397677954652098 tw16288698242937609455 tw8281358622157370524 tw8323352814267774282 tw1860957873030651468 tw15949171225401219900 tw13451510872319117243 tw1369089759353242301 tw4956380776568537767 tw10935157499630056532 tw110779232609684106 tw14853387432500435535 tw17319666327528431365 tw17885270760642892380 tw10403360886512173429 tw17046487586920931907 tw13305674040371461102 tw2860613176727102383 tw9544151338663672088 tw8379499117747748394 tw15785874102805173754 tw309497305782151137 tw15712129099523971752 tw5046584133225130361 tw7147747911453790125 tw10818593559334162424 tw6577869967606429636 tw8109639946439719945 tw5426284107179918638 tw10476681963821722467 tw13421043949611343918 tw17933634681167656681 tw3934523081810050819 tw7042546945336913792 tw5355299590216168773 tw3637149886560930348 tw17798748116818323906 tw13900905279472474585 tw13461511025516001763 tw16071609931325464164 tw3271372538900472079 tw406377141626368805 tw1198211453061909779 tw17790721365160129609 tw12100911944141799222 tw318881994843680478 tw105742202873513407 tw13798217755480358894 tw2640993838625644837 tw17852168966670139723 tw11658254534241421054 tw11015732487020191970 tw10712586724349399691 tw697509844227375973 tw10559986806209489953 tw10106218208091617839 tw13271378976575206501 tw15219727789298216047 tw2354986952625708954 tw7878592645197742309 tw17225844608590146637 tw11885845178825749755 tw6523235924946326149 tw7594108209052071142 tw16806765362142369869 tw16828851686507636130 tw109570658506466594 tw16530201849394090664 tw13661436876985314000 tw6968929047425835883 tw7374137157689800785 tw12474061513739716675 tw8225428317378918838 tw8282978177112618557 tw3997020815857236173 tw1455964616601695907 tw17393647682990262412 tw15598612963024006490 tw12270068297345169248 tw6290296174395586682 tw12950343410589896952 tw11298926609124313886 tw16855437213933907418 tw17825183406657141349 tw5947347486666811072 tw11383881968485675387 tw13600375086817268138 tw3400227928311053007 tw1939177764734033985 tw18328007978283095692 tw1406993343925416461 tw4172396259051698492 tw10869328481177450910 tw11507897194420251329 tw2473911429497653056 tw4289823745327310996 tw3655067361845270489 tw13260051096583753575 tw430938149343287802 tw7732152207420015217 tw17415281950680479958 tw2127081410803999325 tw1819357117233525398 tw7354536557321752535 tw5133315003009101227 tw16004230486664533972 tw3957425875323268327 tw12897055671801943375 tw11846448918797875144 tw7979674377525899840 tw15267664668998755102 tw14991277196742980070 tw1430592554804075094 tw6628223906892689260 tw13322195308397456193 tw12214682590155738751 tw6554680539362497397 tw11479546548316159694 tw890063571187891650 tw2833701048846601745 tw2595946727789673497 tw1806094931474505872 tw9471023701749124098 tw185748009599842658 tw8062186819615305256 tw8139526328926167649 tw5452236016666379701 tw9103780338385274959 tw7863705385749939259 tw8456737791838447535 tw12713434382141509739 tw615604625133514467 tw10070156062013420936 tw13237024551787669256 tw13595103085872013138 tw2097534664287425134 tw484013661564145265 tw12701698914576821568 tw7861721591465771927 tw1870079153638097934 tw16763207182610944348 tw4337540169046700855 tw10883842559341289251 tw10387721896860479998 tw14185656636968130804 tw6655218450270666065 tw18099408799328051449 tw4564281138872435811 tw5178095888619511538 tw9670579110347385319 tw7725638131061777149 tw12454539670896268437 tw14354665588473660556 tw1781137252235435779 tw2346578447781697379 tw7116702126251723454 tw8534382209313124485 tw5242221063526927929 tw15719924192063517152 tw16356097418785437564 tw5568175564859930867 tw593802841079874400 tw11551558934650604156 tw15157138125712551758 tw11988888869206590718 tw8429887699768571627 tw11088938417578418023 tw12195616553560696854 tw6707113969816933406 tw5270351905269248495 tw10006648142354643993 tw5392054757868806369 tw4965733135796637679 tw3101513536850974404 tw3357278197934546697 tw982134529303811800 tw8586775195307321884 tw18264747257014722347 tw7957418598317081560 tw14677129710315574663 tw15072202775667150247 tw7745015993464325973 tw17259993538466476467 tw16174774649286080774 tw5725550384441396420 tw15496380894250947505 tw639750603845171131 tw17357639181802030139 tw2097402198943417696 tw7956274244480911061 tw12642494281412638907 tw5010723726191438238 tw14733230636177674161 tw8859191318265491822 tw6919168920072923668 tw10359951986197100140 tw6653458413231702203 tw9335043795749906940 tw13006058941336996058 tw18428690107721615827 tw6822279794857629956 tw12426978721413611389 tw10007238464182948834 tw5978422727283771196 tw5203715184462738833 tw18191791382984169668 tw8889167368027069541 tw15888088349225690133 tw3234134194584447671 tw7473205363751675959 tw12565427335745003147 tw5804156767099402306 tw17080621321030396538 tw13928161906455901192 tw7421132982423234449 tw15245977202656707685 tw18093319556471926582 tw271196156483179924 tw14266611755444282965 tw12630707922026378734 tw9293314333919374739 tw14994352123883453305 tw4615031721019151024 tw496331403792746636 tw4814317246148824861 tw8466703720979866866 tw13608071104147119030 tw11776064849842418807 tw10364476790768756230 tw2913303623524149645 tw3975654733442010431 tw3899015007727113804 tw7147647944493908157 tw15973814051115368270 tw1563794168821375275 tw8791550302557767257 tw3415220790426003960 tw1917362539305423438 tw12824970707340970397 tw11364208101999444850 tw2445642186461898225 tw6805701696002721470 tw1543737276155729733 tw5028086154333940891 tw15936287750636010575 tw18058664163051938431 tw4474534309905042779 tw4388475860693484391 tw15819528098781252746 tw173883253275614862 tw282655964693491452 tw17237784561854916789 tw3650503893708725965 tw2900161316644147943 tw15476797794805574120 tw3846674742922480459 tw4165280754921419887 tw17590604941256189846 tw16820914436675592987 tw13784807931359160153 tw6976658705878492313 tw7226068371041559920 tw11147453110263110446 tw13358105609743455877 tw4531630027964179270 tw4418901594562958229 tw9293199920937127758 tw3299339955363484230 tw6385654418998198357 tw554255606564523538 tw1338028143363246223 tw16479207408923004386 tw3498871946952768278 tw2432200851248749557 tw15937368051418929852 tw11857945422504971491 tw11278424157750989443 tw17767258380453680403 tw15940234360856636150 tw16922332449427505807 tw15103333781576427199 tw3415300653234971243 tw12369442995346198181 tw15608390555785389671 tw2953389579125106476 tw6565135550625850824 tw12490968312418845021 tw3908957477617642300 tw17763718607788462555 tw1106284481701721443 tw3130133794414532216 tw3206024911230013829 tw17917652160226697536 tw8914226844743464739 tw8389670255212527272 tw325863174304088594 tw14880994105072738732 tw9846426250110884240 tw10396895738266320920 tw2330094508715126809 tw12808806010000561396 tw9769933745864818382 tw5056756861956390767 tw10459704760491669240 tw8035724267943177886 tw13481884224184901571 tw10888195486583645217 tw8263605690331905919 tw15903755716449163729 tw682418487099913130 tw16695311464313441299 tw4087887626540815931 tw13784775646176411955 tw15310678945546415028 tw6868695776751994753 tw13284775541869007292 tw1923325637439408090 tw14223068031272696409 tw9990045748587832211 tw12322233185892391613 tw10483806963099279008 tw18031398636074667182 tw551444689220091703 tw13700537997581930908 tw9406911661528967162 tw10969570749395416185 tw14286211558528813495 tw3801229933352384434 tw2497914440366817946 tw13130455742816175381 tw8622929735918154602 tw4056218604216380200 tw557508982400320630 tw5615421195492984738 tw7856528817535224177 tw9468329513002764224 tw4188023625682991563 tw2807583118796799459 tw7238441064206983129 tw1075106504973394389 tw13178332045186190151 tw15583576970181809890 tw14794001576908873124 tw17193147411556248992 tw1157347770648596617 tw15815434285568164634 tw15956553228755438249 tw2232053660955746671 tw17762939093305834674 tw4467460311778878622 tw3887928426798773945 tw5135814481795666688 tw17000943596912389618 tw4588568326751334118 tw3913525392895220050 tw15753512798799808703 tw3089593352856355984 tw16623093127075120681 tw11491071370373914255 tw1568870818482622542 tw5992945578410999328 tw18108810722372789339 tw8470645863098544661 tw7576285508115167465 tw13760797006602811877 tw1864690760871861916 tw14277243925455988395 tw16812180965287215466 tw1539319094271893147 tw6504324786656666827 tw11088312511565958741 tw3287195834430825438 tw2747770844090490674 tw2534092326924265571 tw14837175699096383716 tw11998109266834817482 tw1661304241982770088 tw11677218888694573836 tw5149883365710687293 tw7990937783696577633 tw2065695402564463751 tw1124077127070426344 tw17576930407106275422 tw770920927682005683 tw13962369348743205187 tw3990759490717566170 tw13650839108123194831 tw17230876010523860161 tw5393498747204691510 tw4511442332677072659 tw4584588008197609427 tw14671038317173258225 tw1739260159745189216 tw3398887681018324993 tw8277560338182717377 tw1163798000579090833 tw2489961102713937421 tw3194616553368431473 tw16016602739009187069 tw1413740109435375714 tw2905751284819900880 tw17998862793621469744:True)
set_option maxRecDepth 100000 in
set_option maxHeartbeats 0 in
theorem PySem.Challenge.cw_dutyproof_k84_whole_what_others_keep_holds : PySem.Challenge.rw_dutyproof_k84_whole_what_others_keep.Holds := by
 w_on;o_law;k_head;(case hw=>w_witness2)
 k_fill
 calc LW.walk (l:=PySem.Challenge.rw_dutyproof_k84_whole_what_others_keep) rfl rfl (λw h YY=>⟨W.km_in_of YY,W.km_tabs_of YY⟩) ?HC ?F;case HC=>show λw=>by kernel_rfl
 case F=>
  intro w mg fa h KX G hmg;refine' L4.last (T:=LW.T) (d:=LW.xw) ["Work","Bench","Order","ByRank","ByDue","ByComing","Verdict","Kept","Broken","Duty"] KX G hmg rfl ?p0 rfl rfl (L4.kT λ_=>rfl) ?p1 ?p2 ?p3 ?p4 ?q0 λhh=>L4.YO _ ?q1 ?q2 ?q3 ?q4 hh ?q5 ?q6 ?q8 ?q9 ?qa ?qb ?qc
  case p0=>kernel_rfl
  case p1=>k_is
  case p2=>k_is
  case p3=>k_is
  case p4=>k_is
  case q0=>repeat (first|show .nil|(apply L4.cC;(iterate 9 k_is);kernel_rfl))
  all_goals repeat (first|show .nil|(apply L4.coC KX G;k_is)|(apply L4.isC KX G;k_is;kernel_rfl)|(apply L4.frC KX G;k_is)|(apply L4.xiC KX G;k_is)|(apply L4.xpC;(iterate 7 k_is);(iterate 2 kernel_rfl))|(apply L4.bsC KX G;(iterate 6 k_is))|(apply L4.mtC;k_is;kernel_rfl)|(apply L4.bxC KX G;(iterate 4 k_is))|(apply L4.sxC;(iterate 9 k_is);(iterate 2 kernel_rfl))|apply L4.sfC|(first|(apply L4.fnC KX G;k_is)|(apply L4.meC;(iterate 3 k_is))|(apply L4.inC KX G;(iterate 5 k_is);kernel_rfl)|(apply L4.xmC KX G;(iterate 2 k_is);kernel_rfl;k_is));(first|(apply L4.Dk.mk';kernel_rfl;rfl;k_is;kernel_rfl;(iterate 2 k_is);(first|show .all (L4.kT λ_=>rfl)|show .all (L4.B6 λ_ _=>rfl)|show .all (L4.B7 λ_ _ _=>rfl)|show .all (L4.B8 λ_ _ _ _=>rfl)|show .all (L4.t7 λ_ _ _ _ _ _ _=>rfl)))|(apply L4.Dk.mkN;kernel_rfl;rfl;k_is;kernel_rfl;(iterate 2 k_is);(show λs us YY e=>by rw[mM]at e ⊢;revert us;show L4.t7 λ_ _ _ _ _ _ _=>.of_defaults rfl (YY _ _<|by k_is) rfl rfl rfl);show λs us YY e=>L4.B9 (P:=λus=>nK s _ ⟨us,[]⟩<|LW.Cs.ps.zip<|us++[.none]) (λ_ _ _ _ _ _=>.of_defaults rfl (YY _ _<|by k_is) rfl rfl rfl) us<|Nat.add_right_cancel (m:=1)<|by rw[ZB]at e;show e)))

import PyProof.Rows.All
import Wide.All
import OpenK.AllK
import Wide.FinOn
import Lean
import PyProof.EqAt
import PyProof.EqKinds
import PyProof.TupleCall
import PyProof.ExcBaseAll.ValueError
import PyProof.ExcAttrAll.ValueError
import PyProof.NsDelKeeps
import PySem.Challenge.RW_dutyproof_k74_whole_ranks_keep
def zzp:Nat->Lean.TSyntax `term->Lean.MacroM (Lean.TSyntax `rcasesPat)|0,_=>Lean.Macro.throwUnsupported|n+1,x=>match x with|`(#[$y,*])=>do `(rcasesPat|⟨$[$(<-y.getElems.mapM (zzp n)):rcasesPat],*⟩)|`($i:ident)=>`(rcasesPat|$i:ident)|_=>`(rcasesPat|_)
local macro_rules|`(tactic|let $d:letDecl)=>`(tactic|have $d:letDecl)
local macro_rules|`(tactic|let#[$y,*]:=$e)=>do `(tactic|obtain $(<-zzp 99 (<-`(#[$y,*]))):rcasesPat:=$e)
local macro_rules|`(tactic|calc $e:term)=>`(tactic|refine $e)
local macro_rules|`(tactic|show $e)=>`(tactic|exact $e)
local macro_rules|`(command|def $i:declId $s:optDeclSig:=($e))=>`(command|theorem $i:declId $(⟨Lean.mkNode ``Lean.Parser.Command.declSig #[s.raw[0],s.raw[1][0]]⟩):declSig:=$e)
local macro_rules|`(command|def $i:declId $s:optDeclSig:=$e:num)=>`(command|theorem $i:declId $(⟨Lean.mkNode ``Lean.Parser.Command.declSig #[s.raw[0],s.raw[1][0]]⟩):declSig:=$e)
local macro_rules|`(command|def $i:declId $s:optDeclSig:=by $t)=>`(command|theorem $i:declId $(⟨Lean.mkNode ``Lean.Parser.Command.declSig #[s.1[0],s.1[1][0]]⟩):declSig:=by $t)
local macro_rules|`(tactic|simp![$x,*]$[$l]?)=>`(tactic|simp only[$x,*]$[$l]?)
open List renaming length->WP
open Option renaming some->V,none->Zg,map_eq_some_iff->ZK,isSome_iff_exists->oZ,bind_eq_some_iff->yi
open Nat renaming le_trans->Zb,add_le_add_right->Zc,le_of_eq->Zh,le_add_right->Zi,le_refl->Zm,ne_of_lt->Zu,le_of_lt->Z7,le_of_not_lt->ZM,lt_of_lt_of_le->ZO,le_antisymm->ZW,zero_le->ZX,ne_of_gt->ZY,lt_succ_self->ZZ,le_of_add_le_add_right->jL,add_le_of_le_sub'->iW,lt_of_le_of_ne->iA,lt_succ_of_lt->iB,le_add_left_of_le->kr,le_succ->fP,lt_of_le_of_lt->kN,succ_pos->iX,le_add_left->kx,lt_irrefl->jM,min_le_right->kO,add_sub_cancel'->mK,lt_of_sub_eq_succ->nQ,lt_of_lt_of_eq->mL,min_le_left->kP,lt_of_succ_lt->mM,lt_succ_of_le->mO,zero_lt_of_lt->mP,le_add_of_sub_le->o4,not_lt_zero->mQ,sub_eq_zero_of_le->qI,sub_add_cancel->o5,add_right_comm->qJ,sub_succ_lt_self->si,le_sub_one_of_lt->sj,lt_trans->nR,add_comm->nS,le_succ_of_le->sk,add_le_add->qK,add_lt_add_of_le_of_lt->yj,sub_le->nU,lt_of_succ_lt_succ->yk,succ_le_succ->uo,not_lt_of_le->ur,not_le_of_lt->uu,add_assoc->sm,pos_of_ne_zero->ym,add_lt_add_of_lt_of_le->Ed,le_of_lt_succ->yn,add_sub_cancel_left->Ee,zero_add->uw,min_eq_left->yo,le_of_ble_eq_true->Ef,pred->su,sub_self->yp
open List renaming getElem?_eq_getElem->Zd,getD_eq_getElem?_getD->Zk,length_map->Zn,getElem?_eq_some_iff->Zp,mem_cons_of_mem->Zq,mem_append_right->Zr,getElem_mem->Zy,getElem?_map->Zz,length_append->Z1,mem_cons_self->Z2,range->Z6,mem_singleton->ZB,mem_map->ZC,mem_cons->ZG,getElem?_append_right->ZL,getElem?_append_left->ZN,mem_append->ZQ,map_cons->ZS,size_toArray->ZV,append_assoc->fQ,getElem?_set_ne->ia,replicate->d8,mem_iff_getElem->ib,getElem?_set_self->iY,mem_filter->eZ,cons_append->fR,getElem_map->fS,mem_append_left->iZ,length_take->ic,all_cons->fT,append_nil->iC,mem_range->ig,length_cons->jj,lookup_cons->jk,take_succ_eq_append_getElem->o6,map_map->fY,length_reverse->ky,map_append->jl,drop_eq_getElem_cons->nV,length_range->kz,not_mem_nil->kB,nodup_append->kQ,set_append_left->mR,take_of_length_le->nW,nil_append->kC,reverse_cons->mS,length_singleton->o7,length_filter_le->o8,mem_of_getElem?->o9,length_eq_zero_iff->qL,findIdx?_eq_some_iff_getElem->ux,ext_getElem?->nX,nodup_cons->mT,getElem?_eq_none->qM,eq_nil_of_length_eq_zero->uA,pairwise_append->qN,length_set->nY,sum_cons->mU,all_eq_true->pb,any_eq_true->pd,pairwise_cons->qO,perm_ext_iff_of_nodup->uB,length_replicate->sv,pairwise_iff_getElem->uC,findIdx?_eq_none_iff->uD,getElem?_replicate->uE,filter_cons_of_pos->uF,filter_cons_of_neg->uG,filter_cons->qP,ext_getElem->qQ,getElem?_reverse->uH,mem_of_mem_take->uI,length_drop->sx,getElem?_range->uJ,getElem?_take_of_lt->yq,any_cons->qR,getElem?_take->uK,drop_eq_nil_of_le->yr,toArray->bT,getElem_take->uL,drop_length->uM,mem_reverse->uN,lookup->qS,length_nil->uO,sum_append->uP,dropLast_concat_getLast->Eg,filterMap_cons->yt,map_congr_left->yw,set_cons_zero->yx,perm_append_singleton->Eh,getElem_range->yy,length_eraseIdx_of_lt->Ei,exists_mem_of_ne_nil->Ej,pairwise_map->yz,length_erase_of_mem->Ek,map_take->uQ,getElem_inj->yA,getElem?_cons_succ->El,nodup_range->yB,map_reverse->yC,mem_flatMap->yD,perm_middle->yE,set_set->uR,of_mem_zip->yF,range_succ->yG,mem_iff_getElem?->Em,getElem?_toArray->En,dropLast_eq_take->Eo,set_append_right->Ep,mapM_cons->yH
open PySem renaming wpAny_bind->Ze,wpAny_pure->Zs,Value->Zv,wpAny->Z0,mainGlobals->Z4,Shared->Z5,model->ZA,Addr->ZF,starEach->ZT,wpAny_holding->d4,Program->cy,wpAny_Call_Name_kw->iD,wpAny_mono->dD,Around->cz,mem_of_lookup->j2,wpAny_field->ft,World->bV,codeAny_builtin->jN,compareOp->fb,assignEach->gA,wpAny_standAt->jO,Heap->bu,wpAny_tryCatch->kD,eval->bj,Builtin->eU,binaryOp->f7,plainId_quiet->kR,wpAny_newObj_type->nZ,wpAny_setField->lY,bootBuiltins->kE,wpAny_pyIter_list->og,sizeLine_eq->j3,rawInt->dN,NameKind->oh,codeAny_call_builtin->qT,wpAny_callSpecial?_slot->sy,wpAny_truthy_bool->ph,wpAny_loadPart'->sC,backTo->eJ,wpAny_letGo->kT,wpAny_seqItems->om,FuncData->jm,Spec->Zc9,wpAny_rule->kU,holding->iE,pyNext->f9,wpAny_getItem_str_slice->uS,codeAny->i1,wpAny_updateSeq->qU,foldedSetIterable->sD,wpAny_loadPart_at->sE,Scope->fg,keywordEach->oo,wpAny_call_entry->sF,codeAny_mono->pj,Stmt->fu,attributeBase->qV,behindInMarks->qW,ExceptHandler->Er,wpAny_execs_nil->sG,wpAny_pyIter_tuple->uT,sysModules->oq,builtinsNs->ot,sliceBounds->pq,wpAny_pyNext_list_item->yI,wpAny_pyIter_enum->uU,plainObj_wpAny_Assign_Attribute->Es,call_meets->pv,swapsWith->ow,wpAny_call->px,closureFor->pz,scanBound->oy,wpAny_newList->sI,wpAny_of_eq->qX,letOwnedTupleGo->uV,post_val_or_str->uW,getItem->lZ,getMethod->pA,slot_listiter_next->yJ,IsPart->kG,backToKw->oz,wpAny_letOwnedTupleGo_enum->Et,seqIndex_of->sJ,standAt->mV,wpAny_attempt->uX,assignInOrder->uY,assign->kW,strKind->uZ,wpAny_pyNext_tuple_item->Eu,codeAmong->qY,lastMarks->qZ,seqItems?->q7,wpAny_pyIter_tupleiter->Ew,wpAny_pyIter_rangeiter->Ey,pyIter->l4,typeOf->l5,PyData->l7,ExcBaseFacts->u3,codeAny_of_tree->yK,wpAny_pyIter_listiter->Ez,wpAny_runValue->yL,argsOk->mW,unpackItems->u4,wpAny_loadPart->yM,subscripted->u5,richCompare->u6,excClassObj->u7,Keyword->ME,callerA->pB,noteFrame->sL,setFlight->sM,rangeSize_one->yN,fresh->kX,Within->yO,BindsTo->rf,bindArgs->sN,seqIndex_neg->yP,valueAt->rg,call_range_1->yQ,callWith->sO,wpAny_typeOf->yR,Operator->sP,Result->rh,Arguments->u9,strValues->va
open PySem.Heap renaming get?_push_of_some->Zj,get?_push_size->Zw,lt_size->Z9,get?_update_other->ZI,get?_update_self->l8,ExtBut->gB,size_push->oA,SameBut->mX,get?_none_of_le->vc,get?_push_at->yS,MadeExcOf->yT
open Bool renaming true->Zl,false->Zo,and_eq_true->Zt,false_ne_true->Zx,false_eq_true->l9,or_eq_true->mf,not_eq_true'->pE,eq_false_iff->rm,and_eq_true_iff->sQ,eq_iff_iff->sS,or_eq_true_iff->yU
open Int renaming le_of_eq->Z3,lt_of_lt_of_le->Z8,le_refl->ZD,lt_of_le_of_lt->ZE,le_trans->ZH,le_of_lt->ZJ,lt_add_of_pos_right->ZR,not_lt->ZU,not_le->cN,le_antisymm->gU,natCast_nonneg->jn,emod_lt_of_pos->jo,le_add_of_nonneg_right->mY,toNat_natCast->jP,emod_nonneg->i3,ne_of_gt->i4,ofNat_le->jq,sub_pos_of_lt->oB,mul_le_mul_of_nonneg_right->vd,mul_le_mul_of_nonneg_left->vf,toNat_of_nonneg->rn,ofNat_lt->mj,add_le_add->oE,sub_nonneg_of_le->sT,le_ediv_iff_mul_le->vg,add_comm->oF,self_le_toNat->sU,add_mul->oG,lt_iff_le_and_ne->vh,lt_add_one_of_le->vi,lt_trans->pF,le_add_of_nonneg_left->yV,toNat->oH,add_le_add_right->yW,le_of_lt_add_one->yX,sub_le_self->vj,add_le_add_left->yY,add_lt_add_of_lt_of_le->EA,mul_nonneg->vk,ediv_le_ediv->yZ,toNat_lt->vm,natCast_add->y8,one_mul->vn,add_nonneg->y9,lt_irrefl->za
open Classical renaming byContradiction->ZP,em->zb
open Option.some renaming inj->eV
open Ne renaming symm->bP
open PySem.Str renaming ofString->eA,empty->i5,length_append->rr
open PyProof.Rows renaming callWith_type1->mn,seqObj->cH,evalAll_cons->rA,callWith_builtin1->vo,evalAll_nil->vp,IntsAre->i6,spliced_more->zc,spliced_none->zd,get?_update_seq->sV,subscriptTail_builtinR->ze,slot_tuple_getitem->EB,mirror_size->rB,AllBare->mq,size_push'->rC,listUpdate_at->vq,envOfC->mZ,callWith_kw->vr,subscriptTail->zf,boot_range->vt
open PySem.Value renaming none->dO,ref->gF,type->m3,int->m4,builtin->sW,bool->rE
open True renaming intro->eW
open PySem.Obj renaming mapFields->ij,data_mapFields->kH,mapSeq->fU,isFreed_of_fields->rF,cls_mapFields->vv
open Array renaming getElem?_eq_getElem->oJ,getElem?_eq_some_iff->rG,length_toList->oK,getD_eq_getD_getElem?->sX,getElem?_toList->zg,find?_toList->zh
open PySem.Around renaming under_plainId->m5
open PySem.F renaming plain_max_loop->oM,plainAttrs_list->sY,entry_max_loop->vw,excBase_ValueError->zi,slot_dict_setdefault->EC,args_tuple_add_2->ED,entry_tuple_add->EE,plain_list_iadd->EF,slot_tuple_add->EG,slot_list_pop->EH,type_list_pop->EI
open PySem.NameKind renaming free->jQ,cell->vy
open PySem.Builtin.Builtins renaming bindParams->rJ
open ForInStep renaming yield->mu
open False renaming elim->i7
open PyProof.Rows.F renaming plain_set_update_loop->zj,entry_set_update_loop->EJ
open PySem.Builtin.Slice renaming slicePlaces->vz,sliceAdjust->zk,sliceApplied->EK
open PySem.Builtin.Tuple renaming tupleExact->vA
open PySem.PyData renaming canLay0->pG,eqv->my,canLayAll0->vB,eqvAll->sZ,list->vC
open PySem.W renaming kas_rev->jr,kas_asc->jR,kas_place->pH,kas_sort->oN,kas_desc->pJ,kas_descPart->vD,kas_count->vE
open PySem.Builtin.SmallTypes renaming nextOf->zl
open PySem.Heap.SameBut renaming update->vF
open PySem.Builtin.List renaming listTooLong->zm
open PySem.Code renaming quiet_builtin->vG
open PySem.Calls renaming Name_function_global->EL,spliced_cons->zo,callWith_builtin->EM
open PySem.Heap.ExtBut renaming refl->zq
open PySem.Builtin.Range renaming rangeSize->EN
open PySem.Txt renaming slice_le->vH,slice->vI
open PySem.Data renaming fields->vJ,cell->td
open PyProof.Rows.IntsAre renaming int_at->zr
open PySem.CmpOf renaming ints_gt->zt,ints_lt->zw
open PySem.Paired renaming length->zx
open Sum renaming inl->tf,inr->ti
noncomputable section
set_option compiler.extract_closed false
set_option bootstrap.genMatcherCode false
set_option genSizeOf false
set_option Elab.async false
set_option linter.all false
set_option maxRecDepth 100000
abbrev aN:=PySem.Str->Option PySem.Addr
abbrev aQ:=PySem.Value->PySem.Shared->Prop
abbrev aZ:=List<|PySem.Addr×PySem.Obj
local macro_rules|`(#[$a,$b,$c,*])=>`(⟨$a,$b,$c,*⟩)|`(#[$a,$b])=>`(⟨$a,$b⟩)
local macro_rules|`(00)=>`(by omega)|`(01)=>`(by decide)|`(02)=>`(by kernel_rfl)|`(03)=>`(by simp)|`(04)=>`(by rfl)|`(05)=>`(by lia)|`(06)=>`(by assumption)|`(07)=>`(rfl)
def EO(n:Nat)(i:Int):max 0 (min (if i<0 then i+ ↑n else i) ↑n)=((if i<0 then(i+n).toNat else min i.toNat n:Nat):Int):=by
 by_cases h:i<0
 .rw[if_pos h,if_pos h,Int.ofNat_toNat,Int.max_comm,Int.min_eq_left<|ZH (yW (ZJ h) n)<|Z3<|Int.zero_add _]
 .rw[if_neg h,if_neg h];let#[k,rfl]:=Int.eq_ofNat_of_zero_le<|ZU.1 h;change max 0 (min (k:Int) n)=(min k n:Nat);rcases Nat.le_total k n with a|a
  .rw[yo a,Int.min_eq_left<|jq.2 a];show Int.max_eq_right<|jn _
  .rw[Nat.min_eq_right a,Int.min_eq_right<|jq.2 a];show Int.max_eq_right<|jn _
def Zf{p:Prop}(h:False):p:=(h.elim)
namespace L2
open PySem PySem.Spec PyProof.Rows
abbrev _root_.Wa:=List<|Nat×Int×Int
abbrev _root_.Wb:=Array<|Option Zv
abbrev _root_.Wd:=List<|Str×Bool
abbrev _root_.Wh:=List<|Str×oh
abbrev _root_.Wj:=Array GenState
abbrev _root_.Wl:=List<|Int×Tok
abbrev _root_.Wn:=List<|Str×Zv
abbrev _root_.Wq:=List<|Str×ZF
abbrev _root_.Wv:=Option Expr
abbrev _root_.Ww:=Option Bool
abbrev _root_.Wx:=Option Str
abbrev _root_.Wy:=Option oh
abbrev _root_.Wz:=Option Int
abbrev _root_.Ta:=Option Nat
abbrev _root_.Tb:=Option Zv
abbrev _root_.Tc:=Option ZF
abbrev _root_.Td:=List Expr
abbrev _root_.Tf:=Array Nat
abbrev _root_.Th:=Array Zv
abbrev _root_.Tj:=List Str
abbrev _root_.Tk:=List Env
abbrev _root_.Tl:=List fu
abbrev _root_.Tn:=List ME
abbrev _root_.To:=List Int
abbrev _root_.Tp:=List Nat
abbrev _root_.Tr:=List Er
abbrev _root_.Tt:=List ZF
abbrev _root_.Tu:=List Zv
inductive aI(A:cz)(h:bu):Prop|calm:A.1=Zg->aI A h|warm {x:ZF}{ox:Obj}{vx:Th}:A.1=V (.ref x)->h.get? x=V ox->ox.3=.fields vx->vx[2]?=V .none->aI A h
def aI.mono(c:aI A h)(k:∀b o,h.get? b=V o->h'.get? b=V o):aI A h':=by cases c with|calm e=>show .calm e|warm e g d x=>show .warm e (k _ _ g) d x
def aI.but(c:aI A h)(e:gB it h h')(g:h.get? it=V o)(d:o.3=.fields vs)(n:vs[2]?≠V .none):aI A h':=by cases c with|calm e=>show .calm e|@warm x C B u j m k=>calc .warm u (e _ _ (λz=>?_) j) m k;subst z;rw[j]at g;cases g;rw[m]at d;cases d;show n k
section
variable{prog:cy}{w:bV}{A:cz}{E:aQ}{s:Z5}
def MF:entryFor table "proto.unchain"=V eU.«proto.unchain» :=(entryFor_of_tree 02)
def MG(k:A.1=V (.ref x))(m:s.1.get? x=V ox)(dx:ox.3=.fields vx)(x2:vx[2]?=V .none)(ge:s.1.get? e=V oe)(j:oe.3=.fields ve)(sz:2<ve.size)(ne:x≠e) (h:E (.ref e) {s with heap:=s.1.update e (ij (·.setIfInBounds 2 (.ref x)))}):Z0 (ZA prog w) A (raiseNew (α:=α)<|.ref e) Q E s:=by
 unfold raiseNew;calc Ze<|wpAny_handled ?_;rw[k];change Z0 _ _ (if (gF x != gF e)=Zl then _ else _) _ _ s;rw[if_pos<|by simp[bne_iff_ne];show ne];refine Ze<|d4<|yL<|jN MF ?_
 .unfold eU.«proto.unchain»;dsimp only;calc Ze<|ft m dx x2 ?_;rw[if_pos 04];calc Ze<|Zs ?_;calc Zs ?_;unfold updateField;calc Ze<|Ze<|wpAny_load ge ?_;rw[j];dsimp only;rw[if_pos sz];show wpAny_update ge<|wpAny_throw h
def Ya(c:aI A h1)(e1:gB it s.1 h1) (u:∀h' e,gB it s.1 h'->(∃o,h'.get? e=V o/\o.1=.type "StopIteration")->E' (.ref e) {s with heap:=h'}):Z0 (ZA prog w) A.in1 (newExc (.type "StopIteration") []>>=λe=>(raiseNew e:Sem α)) Qf E' {s with heap:=h1}:=by
 calc Ze ?_;simp![newExc,newTuple];calc Ze (nZ ?_<|by size_fits);calc Ze (m:=firstArgMember _ _) (qX (a:=dO) (by first|rfl|(simp![firstArgMember];rfl)) ?_);refine nZ ?_<|by size_fits
 cases c with|calm k=>simp![raiseNew];calc Ze<|wpAny_handled ?_;rw[show A.in1.1=Zg from k];show Ze<|Zs<|wpAny_throw<|u _ _ ((e1.push _).push _) #[_,Zw _ 07,07]|warm k B D C=>let j:=Zj (h:=h1) {cls:=m3 "tuple",data:=Data.seq #[]} B;calc MG (A:=A.in1) k (Zj _ j) D C (Zw _ 07) 07 (by simp;show kx _ _) (Zu<|Z9 j) ?_;calc u _ _ (λb o n q=>?_) #[_,l8 _ (Zw _ 07)<|rF<|kH 07 _,vv _ _];let q1:=Zj (h:=h1) {cls:=m3 "tuple",data:=Data.seq #[]} (e1 b o n q);rw[ZI _ _<|ZY<|Z9 q1];show Zj _ q1
def vK:{F:String->eU // F "list_iterator.__next__"=eU.«list_iterator.__next__» /\F "tuple_iterator.__next__"=eU.«tuple_iterator.__next__»}:=#[_,07,07]
def zy{i n:Nat}(c:aI A s.1)(ho:s.1.get? it=V o)(hd:o.3=.fields (bT [.ref l,.int i 0]))(j:s.1.get? l=V ol)(k:ol.3=.seq items n)(u:items[i]?=Zg) (B:∀h' e,gB it s.1 h'->(∃o,h'.get? e=V o/\o.1=.type "StopIteration")->E (.ref e) {s with heap:=h'}):Z0 (ZA prog w) A.in1 (vK.1 nm #[[.ref it],[]]) Q E s:=by change Z0 _ _ (field _ 0>>=_) _ _ s;calc Ze<|ft (x:=.ref l) ho hd 07 ?_;calc(if_neg (c:=(gF l==dO)=Zl) Zx:ite _ _ _=_)▸ ?_;calc Ze<|ft (x:=.int i 0) ho hd 07 (Ze<|om j k ?_);dsimp only;rw[jP,u];let m:=(vF s.1 it<|ij λx=>x.setIfInBounds 0 dO).extBut;show Ze<|kU<|Ze<|lY ho hd 03<|Ya (c.but m ho hd 03) m B
def XI{T id:String}(sl:Slot T "__next__" id)(ty:s.TypeIs (.ref it) T)(en:entryFor table id=V b)(m:mW id #[[.ref it],[]]) (u:∀j:aQ,(∀h' e,gB it s.1 h'->(∃o,h'.get? e=V o/\o.1=.type "StopIteration")->j (.ref e) {s with heap:=h'})->Z0 (ZA prog w) A.in1 (b #[[.ref it],[]]) (λ_ _=>False) j s) (k:∀h',gB it s.1 h'->Q Zg {s with heap:=h'}):Z0 (ZA prog w) A (f9<|.ref it) Q E s:=by unfold f9;calc Ze<|uX<|sy (name:=eA "__next__") ty sl<|sF sl ty en (dD (u _ λh' e x ⟨o,g,cl⟩=>?_) (λ_ _ z=>z.elim) λ_ _ z=>z) m;show Ze<|wpAny_isInstance (T:="StopIteration") (b:=Zl) #[o,g,cl] isSubtype_stop<|Zs<|k _ x
theorem zz(c:aI A s.1)(j:s.1.IsListIter it l i)(D:s.1.IsList l items)(C:items[i]?=Zg)
  (B:∀h',gB it s.1 h'->Q Zg {s with heap:=h'}):Z0 (ZA prog w) A (f9<|.ref it) Q E s:=
 let ⟨_,ho,_,hd⟩:=id j
 let ⟨_,m,_,_,u⟩:=D
 XI yJ j.typeIs entry_listiter_next (args_listiter_next _) (λ_ k=>vK.2.1▸zy c ho hd m u C k) B
theorem zA(c:aI A s.1)(j:s.1.IsTupleIter it l i)(D:s.1.IsTuple l items)(C:items[i]?=Zg)
  (B:∀h',gB it s.1 h'->Q Zg {s with heap:=h'}):Z0 (ZA prog w) A (f9<|.ref it) Q E s:=
 let ⟨_,ho,_,hd⟩:=id j
 let ⟨_,m,_,_,u⟩:=D
 XI F.slot_tuple_iterator_next j.typeIs F.entry_tuple_iterator_next (F.args_tuple_iterator_next_1 _) (λ_ k=>vK.2.2▸zy c ho hd m u C k) B
def ER{x left step:Int}(c:aI A s.1)(j:IsRangeIter s.1 it x left step)(z:left<=0) (m:∀h',gB it s.1 h'->Q Zg {s with heap:=h'}):Z0 (ZA prog w) A (f9<|.ref it) Q E s:=by calc XI F.slot_range_iterator_next #[_,j,07] F.entry_range_iterator_next (F.args_range_iterator_next_1 _) (λu k=>?_) m;change Z0 _ _ (field _ 0>>=_) _ _ s;calc Ze<|ft (x:=dN x) j 07 07 (Ze<|ft (x:=dN left) j 07 07 (Ze<|ft (x:=dN step) j 07 07 ?_));change Z0 _ _ (if left<=0 then _ else _) _ _ s;rw[if_pos z];show Ze<|kU<|Ze<|Ya (s:=s) c (zq it s.1) k
def jt(A:cz):Tt:=match A.1 with|some (.ref x)=>[x]|_=>[]
def aI.at(c:aI A h)(k:∀b∈jt A,∀o,h.get? b=V o->h'.get? b=V o):aI A h':=by cases c with|calm e=>show .calm e|warm e g d x=>show .warm e (k _ (by simp[jt,e]) _ g) d x
def aI.lt(c:aI A h):∀b∈jt A,b<h.1.size:=(λb j=>by cases c with|calm e=>simp[jt,e]at j|warm e g d x=>simp[jt,e]at j;subst j;show Z9 g)
def aI.in1(c:aI A h):aI A.in1 h:=by cases c with|calm e=>show .calm e|warm e g d x=>show .warm e g d x
theorem vL(I k:ZF)(F:k≠I)(items:Th):Walks prog w A I (I::k::jt A) [I] items.size (λi v=>items[i]?=V v) (λi h=>(h.IsListIter I k i/\h.IsList k items)/\aI A h) where
 sub:=03
 frame:=λ_ _ _ st D=>#[#[st.1.1.at λo e=>D I 03 o e,st.1.2.at λo e=>D k 03 o e],st.2.at λb m=>D b<|by simp[m]]
 item:=λi s Q E G st u=>by
  let#[o,ho,_,hd]:=id st.1.1;refine yI st.1.1 st.1.2 (oJ G) λB C j=>?_
  show u _ B s.4 (oJ G) #[#[C,st.1.2.extBut j.extBut F],st.2.but j.extBut ho hd 03] λb o m e=>j.extBut b o (by simpa using m) e
 done:=λs Q E st u=>zz st.2 st.1.1 st.1.2 03 λB x=>u B s.4 λb o m e=>x b o (by simpa using m) e
 self:=λ_ _ _ _ st u=>Ez st.1.1 u
theorem MH(I k:ZF)(F:k≠I)(items:Th):Walks prog w A I (I::k::jt A) [I] items.size (λi v=>items[i]?=V v) (λi h=>(h.IsTupleIter I k i/\h.IsTuple k items)/\aI A h) where
 sub:=03
 frame:=λ_ _ _ st D=>#[#[st.1.1.at λo e=>D I 03 o e,st.1.2.at λo e=>D k 03 o e],st.2.at λb m=>D b<|by simp[m]]
 item:=λi s Q E G st u=>by
  let#[o,ho,_,hd]:=id st.1.1;refine Eu st.1.1 st.1.2 (oJ G) λB C j=>?_
  show u _ B s.4 (oJ G) #[#[C,st.1.2.extBut j.extBut F],st.2.but j.extBut ho hd 03] λb o m e=>j.extBut b o (by simpa using m) e
 done:=λs Q E st u=>zA st.2 st.1.1 st.1.2 03 λB x=>u B s.4 λb o m e=>x b o (by simpa using m) e
 self:=λ_ _ _ _ st u=>Ew st.1.1 u
theorem MI(I:ZF)(a c:Int)(n:Nat):Walks prog w A I (I::jt A) [I] n (λi v=>∃t,v=.int (a+i*c) t) (λi h=>IsRangeIter h I (a+(i:Nat)*c) ((n:Int)-(i:Nat)) c/\aI A h) where
 sub:=03
 frame:=λ_ _ _ st C=>#[C I 03 _ st.1,st.2.at λb j=>C b<|by simp[j]]
 item:=λi s Q E D st m=>by
  refine wpAny_pyNext_range_item st.1 (oB<|mj.2 D) λu B k=>m _ u _ #[_,07] #[?_,st.2.but k.extBut st.1 07 (by simp[dN])] λb o j e=>k.extBut b o (by simpa using j) e
  rw[y8,oG,<-Int.add_assoc,<-Int.sub_sub,show((1:Nat):Int)=1 from 07,vn];show B
 done:=λs Q E st m=>ER st.2 st.1 (Z3<|Int.sub_self _) λu x=>m u s.4 λb o j e=>x b o (by simpa using j) e
 self:=λ_ _ _ _ st m=>Ey st.1 m
def MJ(c:aI A s.1)(j:IsTup s.1 t items) (B:∀h',gB s.1.1.size s.1 h'->Q items.1 {s with heap:=h'}):Z0 (ZA prog w) A (u4 (.ref t) items.size Zg) Q E s:=by
 let ne:t≠s.1.1.size:=let ⟨_,ho,_⟩:=j;Zu (Z9 ho);unfold u4 notIterableAtAll;calc Ze<|Ze<|wpAny_specialOf j.typeIs slot_tuple_iter.1<|Zs ?_;simp![l9,if_false];refine Ze<|d4<|iter_tuple j<|Ze<|d4<|draw_tuple ne items.size 0 _ _ #[_,Zw _ 07,07,07] (j.push _) (Zh<|uw _) λC k m=>?_
 rw[List.drop_zero,nW<|Zh oK,if_neg 03];refine Ze<|d4<|zA (((c.mono λb o e=>Zj _ e)).but m.extBut (Zw _ 07) 07 03) k ((j.push _).extBut m.extBut ne) 03 λJ x=>?_
 simp![Option.isSome_none,l9,if_false];show Zs<|B J λb o u e=>x b o u<|m.extBut b o u<|Zj _ e
def MK{x1}(c:aI A s.1)(k:IsTup s.1 t items) (hn:(gA elts env).length=items.size)(j:(gA elts env).findIdx? (·.1)=Zg) (h:∀h',gB s.1.1.size s.1 h'->Z0 (ZA prog w) A (uY ((gA elts env).map (·.2)) items.1) Q E {s with heap:=h'}):Z0 (ZA prog w) A (kW (.Tuple elts x1 pos) env<|.ref t) Q E s:=by rw[assign_Tuple];calc Ze<|jO ?_;unfold unpack;rw[hn,j];show Ze<|d4<|MJ c k h
def ES{Q:aQ}(c:aI A s.1)(cm:CmpOf prog w A.in1 op (λi v=>(bT [m4 a t,m4 b u])[i]?=V v) bt)
  (h:∀h' tk,(∀c o,s.1.get? c=V o->h'.get? c=V o)->Q (if bt 1 0=Zl then .int b u else .int a t) {s with heap:=h',toks:=tk}):
  Z0 (ZA prog w) A.in1 (l4<|.ref s.1.1.size) (λit s₂=>∃I m C n P St bt,it=.ref I/\Walks prog w A.in1 I m C n P St/\St 0 s₂.1/\(∀b∈m,b<s₂.1.1.size)/\0<n/\CmpOf prog w A.in1 op P bt /\
   ∀v h' tk,P (argBest bt<|n-1) v->(∀b o,b∉C->s₂.1.get? b=V o->h'.get? b=V o)->Q v {s₂ with heap:=h',toks:=tk}) E {s with heap:=s.1.push {cls:=.type "tuple",data:=.seq (bT [.int a t,.int b u])} }:=by
 let B:(s.1.push {cls:=.type "tuple",data:=.seq (bT [.int a t,.int b u])}).IsTuple s.1.1.size (bT [.int a t,.int b u]):=#[_,Zw _ 07,07,0,07];let sz:(s.1.push {cls:=.type "tuple",data:=.seq (bT [.int a t,.int b u])}).1.size=s.1.1.size+1:=oA ..;refine uT B #[_,_,[_],_,_,_,bt,07,MH (A:=A.in1) _ s.1.1.size (by rw[sz];show Zu<|ZZ _) _,#[#[#[_,Zw _ 07,07,07],B.push _],?_],λx k=>?_,03,cm,λv h' tk D F=>?_]
 .show c.in1.mono λb o e=>Zj _<|Zj _ e
 .change x<((s.1.push _).push _).1.size;rw[oA,sz];rcases ZG.1 k with rfl|k
  .rw[sz];show ZZ _
  .rcases ZG.1 k with rfl|k
   .show iB<|ZZ _
   .show iB<|iB<|c.in1.lt x k
 .let q:=h h' tk λx o e=>F x o (λhm=>by let:=Z9 e;rw[ZB.1 hm,sz]at this;show jM _<|mM this)<|Zj _<|Zj _ e
  let j:(bT [m4 a t,m4 b u])[if bt 1 0=Zl then 1 else 0]?=V v:=D;by_cases z:bt 1 0=Zl
  .rw[if_pos z]at j q;cases j;show q
  .rw[if_neg z]at j q;cases j;show q
theorem ML(c:aI A s.1)
  (h:∀h' tk,(∀c o,s.1.get? c=V o->h'.get? c=V o)->Q (if b>a then .int b u else .int a t) {s with heap:=h',toks:=tk}):Z0 (ZA prog w) A (call (.builtin "max") [.int a t,.int b u]) Q E s:=
 call_max_two (ES c (zt (λi=>if i=0 then a else b) λi v q=>by match i with|0=>cases q;show#[_,07]|1=>cases q;show#[_,07]|i+2=>cases q) λh' tk k=>by simpa using h h' tk k)
def MM(c:aI A s.1) (h:∀h' tk,(∀c o,s.1.get? c=V o->h'.get? c=V o)->Q (if b<a then .int b u else .int a t) {s with heap:=h',toks:=tk}):Z0 (ZA prog w) A (call (.builtin "min") [.int a t,.int b u]) Q E s:=(call_min_two (ES c (zw (λi=>if i=0 then a else b) λi v q=>by match i with|0=>cases q;show#[_,07]|1=>cases q;show#[_,07]|i+2=>cases q) λh' tk k=>by simpa using h h' tk k))
def zB:{F:String->eU // F "str_iterator"=eU.«str_iterator.__next__» /\F "str_ascii_iterator"=eU.«str_ascii_iterator.__next__»}:=#[_,07,07]
def ET(c:aI A s.1)(j:s.1.IsStrIter it ty x t i)(m:x.1[i]?=Zg) (u:∀h' e,gB it s.1 h'->(∃o,h'.get? e=V o/\o.1=.type "StopIteration")->E (.ref e) {s with heap:=h'}):Z0 (ZA prog w) A.in1 (zB.1 nm #[[.ref it],[]]) Q E s:=by let#[o,ho,_,hd]:=j;change Z0 _ _ (field _ 0>>=_) _ _ s;calc Ze<|ft (x:=.str x t) ho hd 07 ?_;change Z0 _ _ (field _ 1>>=_) _ _ s;calc Ze<|ft (x:=.int i 0) ho hd 07 ?_;dsimp only;rw[jP,m];let k:=(vF s.1 it<|ij λx=>x.setIfInBounds 0 dO).extBut;show Ze<|kU<|Ze<|lY ho hd 03<|Ze<|kT<|Ya (c.but k ho hd 03) k u
def MN(c:aI A s.1)(j:s.1.IsStrIter it "str_ascii_iterator" x t i)(u:x.1[i]?=Zg) (m:∀h',gB it s.1 h'->Q Zg {s with heap:=h'}):Z0 (ZA prog w) A (f9<|.ref it) Q E s:=(XI F.slot_str_ascii_iterator_next j.typeIs F.entry_str_ascii_iterator_next (F.args_str_ascii_iterator_next_1 _) (λ_ k=>zB.2.2▸ET c j u k) m)
def MO(c:aI A s.1)(j:s.1.IsStrIter it "str_iterator" x t i)(u:x.1[i]?=Zg) (m:∀h',gB it s.1 h'->Q Zg {s with heap:=h'}):Z0 (ZA prog w) A (f9<|.ref it) Q E s:=(XI F.slot_str_iterator_next j.typeIs F.entry_str_iterator_next (F.args_str_iterator_next_1 _) (λ_ k=>zB.2.1▸ET c j u k) m)
def MP{i:Nat}(c:aI A s.1)(k:IsEnum s.1 e it i old)(j:s.1.IsListIter it l i)(D:s.1.IsList l items)(C:items[i]?=Zg) (B:∀h',gB it s.1 h'->Q Zg {s with heap:=h'}):Z0 (ZA prog w) A (f9<|.ref e) Q E s:=by let#[_,ho,_,hd]:=id j;let#[_,m,_,_,u]:=D;unfold f9;calc Ze<|uX<|sy (name:=eA "__next__") #[_,k,07] F.slot_enumerate_next<|sF F.slot_enumerate_next #[_,k,07] F.entry_enumerate_next ?_<|F.args_enumerate_next_1 _;change Z0 _ _ (field _ 2>>=_) _ _ s;calc Ze<|ft (x:=.ref it) k 07 07 ?_;unfold zl;calc Ze<|Ze<|sy (name:=eA "__next__") j.typeIs yJ<|sF yJ j.typeIs entry_listiter_next (vK.2.1▸dD (zy (Q:=λ_ _=>False) c.in1 ho hd m u C λh' e x ⟨o,g,cl⟩=>?_) (λ_ _ z=>z.elim) λ_ _ z=>z)<|args_listiter_next _;show Ze<|wpAny_isInstance (T:="StopIteration") (b:=Zl) #[o,g,cl] isSubtype_stop<|Zs<|B _ x
end
abbrev Key:=Sum Int Str
def XG:Key->Zv->Bool|.inl k,v=>Value.isInt k v|.inr x,v=>Value.isStrOf x v
def zC(w:bV):Key->Int|.inl k=>hashInt k|.inr x=>hashStr w x
theorem VB:∀{k:Key}{v:Zv},XG k v=Zl->(∃i t,k=tf i/\v=m4 i t)\/(∃x t,k=ti x/\v=Value.str x t)|.inl i,v,h=>by let#[t,e]:=Value.isInt_shape h;show .inl #[i,t,07,e]|.inr x,v,h=>by let#[t,e]:=Value.isStrOf_shape h;show .inr #[x,t,07,e]
def MQ(i)(t):XG (.inl i) (.int i t)=Zl:=by simp[XG,Value.isInt]
def MR(x)(t):XG (.inr x) (.str x t)=Zl:=by simp[XG,Value.isStrOf]
def MS(a b):decide ((tf a:Key)=tf b)=(a==b):=05
def MT(a b):decide ((ti a:Key)=ti b)=decide (a=b):=05
def MU(a)(b):decide ((tf a:Key)=ti b)=Zo:=(decide_eq_false λq=>nomatch q)
def MV(a)(b):decide ((ti a:Key)=tf b)=Zo:=(decide_eq_false λq=>nomatch q)
def Vy(prog:cy)(w:bV):PySem.KeyKind prog w Key where
 is:=XG
 hash:=zC w
 inj:=λv a b ha hb=>by
  rcases VB ha with⟨i,t,rfl,rfl⟩|⟨x,t,rfl,rfl⟩
  .rcases VB hb with⟨j,u,rfl,e⟩|⟨y,u,rfl,e⟩
   .injection e with e1 _;rw[e1]
   .show nomatch e
  .rcases VB hb with⟨j,u,rfl,e⟩|⟨y,u,rfl,e⟩
   .show nomatch e
   .injection e with e1 _;rw[e1]
 byValue:=λk v h=>by rcases VB h with⟨i,t,rfl,rfl⟩|⟨x,t,rfl,rfl⟩<;>rfl
 pyHash:=λhv h=>by
  rcases VB hv with⟨i,t,rfl,rfl⟩|⟨x,t,rfl,rfl⟩
  .show wpAny_pyHash_int h
  .show wpAny_pyHash_str h
 eqBool:=λhu hv h=>by
  rcases VB hu with⟨i,t,rfl,rfl⟩|⟨x,t,rfl,rfl⟩
  .rcases VB hv with⟨j,u,rfl,rfl⟩|⟨y,u,rfl,rfl⟩
   .rw[MS]at h;show wpAny_eqBool_int h
   .rw[MU]at h;show SeqAt.EqAt.int_str i t y u _ _ _ _ h
  .rcases VB hv with⟨j,u,rfl,rfl⟩|⟨y,u,rfl,rfl⟩
   .rw[MV]at h;show SeqAt.EqAt.str_int x t j u _ _ _ _ h
   .rw[MT]at h;show wpAny_eqBool_str h
 «strs» :=λk x t v h=>by
  rcases VB h with⟨i,u,rfl,e⟩|⟨y,u,rfl,e⟩
  .show nomatch e
  .injection e with e1 _
   subst e1;cases v<;>rfl
def MW(prog)(w)(i)(t):(Vy prog w).1 (.inl i) (.int i t)=Zl:=(MQ i t)
def MX(prog)(w)(x)(t):(Vy prog w).1 (.inr x) (.str x t)=Zl:=(MR x t)
inductive bA where|ah|bl (b:Bool)|int (i:Int)|str (x:Str)|i8 (b:Array UInt8)|vM (b:UInt64)|ref (a:ZF)|ty (n:String)
 deriving DecidableEq
abbrev _root_.Wc:=List<|Option bA
abbrev _root_.Wt:=List<|Key×bA
abbrev _root_.Wu:=List<|Str×bA
abbrev _root_.Ti:=Option bA
abbrev _root_.Ub:=List bA
def RelV:bA->Zv->Prop|.ah,u=>u=dO|.bl b,u=>u=rE b|.int i,u=>∃t,u=m4 i t|.str x,u=>∃t,u=Value.str x t|.i8 b,u=>∃t,u=Value.bytes b t|.vM b,u=>∃t,u=Value.float b t|.ref a,u=>u=gF a|.ty n,u=>u=m3 n
abbrev Vals:Ub->Tu->Prop:=Paired RelV
def Vals.length(r:Vals xs us):WP xs=WP us:=(zx r)
theorem Vals.get:∀{xs:Ub}{us:Tu}{i:Nat}{x:bA},Vals xs us->xs[i]?=V x->∃u,us[i]?=V u/\RelV x u
 |_,_,_,_,.nil,e=>by simp at e
 |_,_,0,_,.cons r _,e=>by simp at e;subst e;show#[_,07,r]
 |_,_,i+1,x,.cons _ t,e=>by
  let#[u,j,J]:=Vals.get t<|by simpa using e
  show#[u,by simpa using j,J]
theorem Vals.set(r:RelV x u):∀{xs:Ub}{us:Tu}(i:Nat),Vals xs us->Vals (xs.set i x) (us.set i u)
 |_,_,_,.nil=>.nil
 |_,_,0,.cons _ t=>.cons r t
 |_,_,i+1,.cons q t=>.cons q<|Vals.set r i t
theorem Vals.append:∀{xs ys:Ub}{us ws:Tu},Vals xs us->Vals ys ws->Vals (xs++ys) (us++ws)|_,_,_,_,.nil,s=>s|_,_,_,_,.cons r t,s=>.cons r<|Vals.append t s
theorem Vals.take:∀{xs:Ub}{us:Tu}(n:Nat),Vals xs us->Vals (xs.take n) (us.take n)|_,_,0,_=>.nil|_,_,_+1,.nil=>.nil|_,_,n+1,.cons r t=>.cons r<|Vals.take n t
theorem Vals.drop:∀{xs:Ub}{us:Tu}(n:Nat),Vals xs us->Vals (xs.drop n) (us.drop n)|_,_,0,r=>r|_,_,_+1,.nil=>.nil|_,_,n+1,.cons _ t=>Vals.drop n t
def dE:Ti->Tb->Prop|some v,V u=>RelV v u|none,Zg=>True|_,_=>False
def KV{κ:Type}:List (κ×bA)->List (κ×Zv)->Prop:=Paired λ(p:κ×bA)(q:κ×Zv)=>p.1=q.1/\RelV p.2 q.2
noncomputable def kV:Key->bA|.inl i=>.int i|.inr x=>.str x
inductive HO where
 /-- a list -/
 |lst (xs:Ub)
 /-- a tuple (never changes) -/
 |tup (xs:Ub)
 /-- a dict whose keys are ints and texts; one whose keys are tuples of ints and texts (the empty one is both) -/
 |dK (kvs:Wt)|dT (kvs:List (List Key×bA))
 /-- a set of ints: its members,its size -/
 |set (S:Int->Bool) (n:Nat)
 /-- an instance of the class at C,its dict at dx,its attributes -/
 |ins (C dx:ZF) (fs:Wu)
 /-- the dict of the instance at x -/
 |own (x:ZF)
 /-- the dict of an exception -/
 |xd (fs:Wu)
 /-- a bound method,f of x -/
 |met (f x:ZF)
 /-- a range object lo,lo + 1,.. below hi -/
 |vN (lo hi:Int)
 /-- a thing that is known to the object (the script; a dict while a loop walks it): read,never written while it is so -/
 |bK (o:Obj) (u:HO)
 /-- a code object's table -/
 |iF (ps:Th)
 /-- any other thing,by what is Zl of its one object (a def of one's own: SetO a S n:= HO.ext λh=> ..) -/
 |ext (φ:bu->Prop)
abbrev Hp:=ZF->Option HO
def upd(H:Hp)(a:ZF)(o:HO):Hp:=λb=>if b=a then V o else H b
def Jz:upd H a o a=V o:=by unfold upd;rw[if_pos 07]
def Jq(h:b≠a):upd H a o b=H b:=by unfold upd;rw[if_neg h]
def QX{H:Hp}(h:H a=V o)(h':H b=Zg):a≠b:=05
section
variable(P:cy)(w:bV)
def JX(H:Hp)(h:bu)(a:ZF):HO->Prop|.lst xs=>WP xs<=sizeLine/\∃(its:Tu) (n:Nat),Vals xs its/\h.get? a=V {cls:=.type "list",data:=.seq its.toArray n}|.tup xs=>WP xs<=sizeLine/\∃its:Tu,Vals xs its/\IsTup h a its.toArray|.dK kvs=>WP kvs<=sizeLine/\(a==oq)=Zo/\∃vs,KV kvs vs/\h.DictOf (Vy P w) a vs|.dT kvs=>WP kvs<=sizeLine/\(a==oq)=Zo/\∃xs:List<|List Key×ZF×Zv,Paired (λ(p:List Key×bA)(q:List Key×ZF×Zv)=>p.1=q.1/\H q.2.1=V (.tup<|p.1.map kV)/\RelV p.2 q.2.2) kvs xs /\ ∃o es ep,h.get? a=V o/\o.ExactDict/\o.3=.dict es ep/\es.1=xs.map (entryOfKey<|tupleKind<|Vy P w)/\(xs.map (·.1)).Nodup|.set S n=>h.SetOf (intKind P w) a S n|.ins C dx fs=>H dx=V (.own a)/\WP fs<=1000/\dx≠a/\h.get? a=V (W.instObj C dx) /\ ∃mA,h.Ns1 dx mA/\(∀f,dE (fs.lookup f)<|mA f)/\yO mA (fs.map (·.1))|.own _=>∃o,h.get? a=V o|.xd fs=>∃mA,h.Ns1 a mA/\∀f,dE (fs.lookup f)<|mA f|.vN lo hi=>∃t u v,h.get? a=V {cls:=.type "range",data:=.fields (bT [.int lo t,.int hi u,.int 1 v])}|.bK o u=>h.get? a=V o/\JX H h a u|.iF ps=>h.get? a=V {cls:=.none,data:=.fields ps}|.met f x=>h.get? a=V (W.methodObj (.ref f)<|.ref x)|.ext φ=>φ h/\(∃o,h.get? a=V o)/\∀h1 J:bu,φ h1->(∀o,h1.get? a=V o->J.get? a=V o)->φ J
def c8(H:Hp)(h:bu):Prop:=∀a o,H a=V o->JX P w H h a o
end
section
variable{P:cy}{w:bV}{H H':Hp}{h h':bu}{a:ZF}{o:HO}
def JX.lt(x:JX P w H h a o):a<h.1.size:=by cases o with|lst xs=>let#[_,_,_,_,e]:=x;show Z9 e|tup xs=>let#[_,_,_,p]:=x;show p.lt|dK j=>let#[_,_,_,_,o,_,_,e,_]:=x;show Z9 e|dT j=>let#[_,_,_,_,o,_,_,e,_]:=x;show Z9 e|set S n=>let#[o,_,_,_,e,_]:=x;show Z9 e|ins C k fs=>let#[_,_,_,e,_]:=x;show Z9 e|own y=>let#[_,e]:=x;show Z9 e|xd fs=>let#[_,#[_,_,_,e,_],_]:=x;show Z9 e|vN lo m=>let#[_,_,_,e]:=x;show Z9 e|bK ob u=>let#[e,_]:=x;show Z9 e|iF ps=>show Z9<|x|met f y=>show Z9<|x|ext φ=>let#[_,#[_,e],_]:=x;show Z9 e
theorem Paired.tj:∀{l₁:List α}{l₂:List β},Paired F l₁ l₂->(∀a b,F a b->G a b)->Paired G l₁ l₂|_,_,.nil,_=>.nil|_,_,.cons r t,f=>.cons (f _ _ r)<|Paired.tj t f
def JX.fw(x:JX P w H h a o)(k:∀b u,(b=a\/H b=V (.own a))->h.get? b=V u->h'.get? b=V u) (ho:∀b,H b=V (.own a)->H' b=V (.own a))(I:∀b xs,H b=V (.tup xs)->H' b=V (.tup xs)):JX P w H' h' a o:=by induction o with|lst xs=>let#[z,B,n,r,e]:=x;show#[z,B,n,r,k _ _ (.inl 07) e]|tup xs=>let#[z,B,r,ob,e,c]:=x;show#[z,B,r,ob,k _ _ (.inl 07) e,c]|dK E=>let#[z,y,G,r,ob,j,m,e,c]:=x;show#[z,y,G,r,ob,j,m,k _ _ (.inl 07) e,c]|dT E=>let#[z,y,xs,r,ob,j,m,e,c]:=x;show#[z,y,xs,Paired.tj r λp q z=>#[z.1,I _ _ z.2.1,z.2.2],ob,j,m,k _ _ (.inl 07) e,c]|set S n=>let#[ob,j,m,t,e,c]:=x;show#[ob,j,m,t,k _ _ (.inl 07) e,c]|ins C O fs=>let#[d,z,ne,e,D,#[F,j,m,L,c],r]:=x;show#[ho _ d,z,ne,k _ _ (.inl 07) e,D,#[F,j,m,k _ _ (.inr d) L,c],r]|own y=>let#[ob,e]:=x;show#[ob,k _ _ (.inl 07) e]|xd fs=>let#[D,#[F,j,m,e,c],r]:=x;show#[D,#[F,j,m,k _ _ (.inl 07) e,c],r]|vN lo M=>let#[t,u,v,e]:=x;show#[t,u,v,k _ _ (.inl 07) e]|bK ob u J=>let#[e,q]:=x;show#[k _ _ (.inl 07) e,J q]|iF ps=>let e:=x;show k a _ (.inl 07) e|met f y=>let e:=x;show k a _ (.inl 07) e|ext φ=>let#[p,#[o,e],st]:=x;show#[st _ _ p λo q=>k _ _ (.inl 07) q,#[o,k _ _ (.inl 07) e],st]
theorem c8.lt(x:c8 P w H h)(e:H a=V o):a<h.1.size:=(x a o e).lt
def c8.fresh(x:c8 P w H h)(e:h.1.size<=a):H a=Zg:=by cases q:H a with|none=>rfl|some u=>show absurd (ZO (x.lt q) e)<|jM _
def c8.kept(x:c8 P w H h)(k:∀b u,h.get? b=V u->h'.get? b=V u):c8 P w H h':=(λa o e=>
 (x a o e).fw (λb u _ q=>k b u q) (λ_ q=>q) λ_ _ q=>q)
def c8.laid(x:c8 P w H h)(k:∀b u,h.get? b=V u->h'.get? b=V u)(hp:h.1.size<=a)(new:JX P w (upd H a o) h' a o):c8 P w (upd H a o) h':=(λb u e=>by
 let hn:=x.fresh hp;by_cases j:b=a
 .subst j;rw[Jz]at e;cases e;show new
 .rw[Jq j]at e;show(x b u e).fw (λc v _ q=>k c v q) (λc q=>by rw[Jq<|QX q hn];show q) λc xs q=>by rw[Jq<|QX q hn];show q)
end
def Rd(H:Hp)(a:ZF)(u:HO):Prop:=H a=V u\/∃o,H a=V (.bK o u)
def Rd.ok(r:Rd H a u)(x:c8 P w H h):JX P w H h a u:=by
 rcases r with r|⟨o,r⟩
 .show x a u r
 .let#[_,q]:=x a _ r;show q
def oO:Option HO->Prop|some (.lst _)=>True|some (.dK _)=>True|some (.dT _)=>True|some (.set _ _)=>True|some (.ins _ _ _)=>True|some (.ext _)=>True|_=>False
section
variable{P:cy}{w:bV}{H:Hp}{h h':bu}{x e:ZF}{o':HO}
def c8.write(ok:c8 P w H h)(C:oO<|H x)(G:e=x\/H e=V (.own x))(k:∀b u,b≠e->h.get? b=V u->h'.get? b=V u)(D:∃u,h'.get? e=V u)
  (new:JX P w (upd H x o') h' x o'):c8 P w (upd H x o') h':=(λb u q=>by
 let j:∀c y,H c=V (.own y)->c≠x:=λc y r z=>by subst z;rw[r]at C;show C
 let B:∀c xs,H c=V (.tup xs)->c≠x:=λc xs r z=>by subst z;rw[r]at C;show C
 by_cases F:b=x
 .subst F;rw[Jz]at q;cases q;show new
 .rw[Jq F]at q;by_cases m:b=e
  .let I:H b=V (.own x):=by
    rcases G with z|z
    .lia
    .rw[m];show z
   rw[q]at I;cases I;let#[v,J]:=D;show#[v,by rw[m];show J]
  .refine(ok b u q).fw (λc v E r=>k c v ?_ r) (λc r=>by rw[Jq<|j c b r];show r) λc xs r=>by rw[Jq<|B c xs r];show r
   rcases E with rfl|E
   .show m
   .rintro rfl;rcases G with z|z
    .show j c b E z
    .simp_all)
end
structure Un(fs ex:Tt)(H H':Hp)(h h':bu):Prop where
 keep:∀b o,h.get? b=V o->H b=Zg->b∉fs->b∉ex->h'.get? b=V o
 slot:∀b o,h.get? b=V o->H b=Zg->b∈fs->b∉ex->∃sl,h'.get? b=V {o with slots:=sl}
 free:∀b o,h.get? b=V o->H b=Zg->b∉ex->H' b=Zg
 there:∀b o,h.get? b=V o->b∉ex->∃o',h'.get? b=V o'
 cI:∀b xs,H b=V (.tup xs)->H' b=V (.tup xs)
 bz:∀b o u,H b=V (.bK o u)->H' b=V (.bK o u)
 cX:∀b ps,H b=V (.iF ps)->∃more,H' b=V (.iF<|ps++more)
section
variable{fs fs' ex ex':Tt}{H H1 H2:Hp}{h h1 J h':bu}{a x e:ZF}{o:HO}
def Un.any(u:Un fs ex H H1 h h1)(q:h.get? b=V ob)(n:H b=Zg)(k:b∉ex):∃sl,h1.get? b=V {ob with slots:=sl}:=by
 by_cases j:b∈fs
 .show u.2 b ob q n j k
 .show#[ob.4,u.1 b ob q n j k]
def Un.kept(k:∀b u,h.get? b=V u->h'.get? b=V u):Un fs ex H H h h':=(#[λb ob q _ _ _=>k b ob q,λb ob q _ _ _=>#[ob.4,k b ob q],λ_ _ _ n _=>n,λb ob q _=>#[ob,k b ob q],λ_ _ q=>q,λ_ _ _ q=>q,λ_ ps q=>#[#[],by rw[q];simp]])
def Un.refl:Un fs ex H H h h:=(Un.kept λ_ _ q=>q)
theorem Un.laid(k:∀b u,h.get? b=V u->h'.get? b=V u)(hp:h.1.size<=a)(hn:H a=Zg):Un fs ex H (upd H a o) h h' where
 keep:=λb u q _ _ _=>k b u q
 slot:=λb u q _ _ _=>#[u.4,k b u q]
 free:=λb u q n _=>by rw[Jq<|Zu<|ZO (Z9 q) hp];show n
 there:=λb u q _=>#[u,k b u q]
 cI:=λb xs q=>by rw[Jq<|QX q hn];show q
 bz:=λb u xs q=>by rw[Jq<|QX q hn];show q
 cX:=λb ps q=>#[#[],by rw[Jq<|QX q hn,q];simp]
def Un.write(m:oO<|H x)(E:e=x\/H e=V (.own x))(k:∀b u,b≠e->h.get? b=V u->h'.get? b=V u)(B:∃u,h'.get? e=V u):Un fs ex H (upd H x o) h h':=by
 let C:∀b,H b=Zg->b≠x:=λb n z=>by subst z;rw[n]at m;show m
 let D:∀b,H b=Zg->b≠e:=λb n z=>by
  subst z;rcases E with r|r
  .show C b n r
  .rw[n]at r;cases r
 let hm:∀b u,H b=V u->¬oO (V u)->b≠x:=λb u q nm z=>by subst z;rw[q]at m;show nm m
 calc#[λb u q n _ _=>k b u (D b n) q,λb u q n _ _=>#[u.4,k b u (D b n) q],λb u q n _=>by rw[Jq<|C b n];show n,λb u q _=>?_,λb xs q=>by rw[Jq<|hm b _ q λz=>z];show q,λb u xs q=>by rw[Jq<|hm b _ q λz=>z];show q,λb ps q=>#[#[],by rw[Jq<|hm b _ q λz=>z,q];simp]];by_cases j:b=e
 .subst j;show B
 .show#[u,k b u j q]
end
noncomputable def vO (h:bu)(H:Hp):Tt:=(Z6 h.1.size).filter λa=>(H a).isSome
def gc(h:bu)(H:Hp):bu:=W.hideAll h<|vO h H
def MY(h)(H):(gc h H).1.size=h.1.size:=(W.hideAll_size _ _)
def MZ(e:h.get? b=V o)(n:H b=Zg):(gc h H).get? b=V o:=(W.hideAll_get _ e λhm=>by let q:=(eZ.1 hm).2;rw[n]at q;simp at q)
def M0(e:(gc h H).get? b=V o):h.get? b=V o/\H b=Zg:=by let j:=W.of_hideAll (vO h H) e;calc#[j,?_];cases q:H b with|none=>rfl|some x=>let hm:b∈vO h H:=eZ.2 #[ig.2<|Z9 j,by simp[q]];let z:(gc h H).get? b=Zg:=W.hideAll_none (vO h H) hm;rw[z]at e;cases e
def Qv(A:cz)(H:Hp):Prop:=A.1=Zg\/∃a oe u vs,A.1=V (.ref a)/\H a=V (.bK oe u)/\oe.3=.fields vs/\vs[2]?=V .none
def Qv.mono(c:Qv A H)(f:∀b o u,H b=V (.bK o u)->H' b=V (.bK o u)):Qv A H':=(c.imp id λ⟨a,k,u,D,m,C,j,B⟩=>#[a,k,u,D,m,f _ _ _ C,j,B])
def Qv.cA(c:Qv A H)(k:c8 P w H h):aI A h:=(c.elim .calm λ⟨_,_,_,_,m,B,j,u⟩=>.warm m (k _ _ B).1 j u)
structure Mod(K:W.Frag)(mg:Str->Tb)(base:bu):Prop where
 pL:K.In base
 glob:base.Ns Z4 mg
 blt:∃mb,base.Ns ot mb/\∀x:Str,x≠"__name__"->mb x=kE x
 nolimit:base.NoLimit
set_option genInjectivity false in
structure Cx where
 prog:cy
 w:bV
 K:W.Frag
 mg:Str->Tb
 base:bu
 A:cz
 N:Tj
 s₀:Z5
 H₀:Hp
 env:Env
 outer:Tk
 stack:Tk
 ex:Tt
 fn:Str->Bool
 calm:Bool
 pn:aZ
 xe:aQ
noncomputable def eK (l:Tk):Tt:=l.filterMap (·.8)
abbrev Cx.fs(X:Cx):Tt:=eK X.11
def pM(sc:fg)(x:Str):Prop:=sc.2.lookup x=V .local\/sc.2.lookup x=V .cell\/sc.2.lookup x=V .free
def Loc(sc:fg)(x:Str):Prop:=sc.2.lookup x=V .local\/sc.2.lookup x=V .cell
def Look(env:Env)(h:bu)(m:Str->Tb)(x:Str)(u:Zv):Prop:=(env.kindOf x=V .local/\m x=V u)\/((env.kindOf x=V .cell\/env.kindOf x=V .free)/\∃c,env.4.lookup x=V c/\h.IsCell c (V u))
structure Cx.Ok(X:Cx):Prop where
 mod:Mod X.K X.4 X.5
 kind:X.10.1.1=.function
 glob:X.10.3=Z4
 blt:X.10.9=ot
 above:X.8.1.1.size<=X.10.2
 inj:∀x y c,X.10.4.lookup x=V c->X.10.4.lookup y=V c->x=y
 has:∀x,(X.10.kindOf x=V .cell\/X.10.kindOf x=V .free)->∃c,X.10.4.lookup x=V c
 pN:∀x c,X.fn x=Zl->X.10.4.lookup x=V c->X.8.1.1.size<=c
 hd:X.15=Zl->Qv X.A X.9
 frames:X.A.3=V X.12
 rK:X.12=X.11\/(X.12=X.10::X.11/\X.10.8=V X.10.2)
 rL:∀b∈X.ex,b≠X.10.2/\∀x c,X.10.4.lookup x=V c->c≠b
 bs:∀b o,X.5.get? b=V o->X.8.1.get? b=V o/\X.9 b=Zg
 kI:X.5.1.size<=X.8.1.1.size
 ju:∀b o,X.5.get? b=V o->b∉X.ex
 iG:∀b∈X.ex,b∉X.fs
 dF:X.8.1.FunFrames X.5 X.11
 mz:∀b∈X.fs,X.9 b=Zg
structure Inv(X:Cx)(Z:aZ)(U:Wc)(H:Hp)(s:Z5):Prop where
 ok:X.Ok
 os:s.5=X.8.5
 bare:mq s.2
 base:Un X.fs X.ex X.9 H X.8.1 s.1
 loc:∃m,s.1.Ns X.10.2 m/\∀(i:Nat)(x:Str)(v:bA),X.N[i]?=V x->U[i]?=V (V v)->pM X.10.1 x->∃u,RelV v u/\Look X.10 s.1 m x u
 cell:∀x c,X.10.4.lookup x=V c->∃v,s.1.IsCell c v
 free:H X.10.2=Zg
 b9:∀x c,X.10.4.lookup x=V c->H c=Zg
 pin:∀p∈X.pn++Z,s.1.get? p.1=V p.2/\H p.1=Zg/\p.1≠X.10.2/\p.1∉X.fs/\∀v,p.2.3≠.cell v
 aw:c8 X.1 X.w H s.1
 len:WP U=WP X.N
section
variable{X:Cx}{Z:aZ}{U:Wc}{H H':Hp}{s:Z5}{h':bu}
def Cx.Ok.zD(ok:X.Ok)(e:X.5.get? b=V o):b∉X.fs:=(λj=>by let:=(ok.dF.mem j).1;rw[e]at this;cases this)
def Inv.bs(I:Inv X Z U H s):∀b o,X.5.get? b=V o->s.1.get? b=V o/\H b=Zg:=(λb o e=>
 #[I.4.1 b o (I.1.bs b o e).1 (I.1.bs b o e).2 (I.1.zD e) (I.1.ju b o e),I.4.3 b o (I.1.bs b o e).1 (I.1.bs b o e).2 (I.1.ju b o e)])
def Inv.bk(I:Inv X Z U H s):∀b o,X.5.get? b=V o->s.1.get? b=V o:=(λb o e=>(I.bs b o e).1)
theorem Inv.cV(I:Inv X Z U H s)(j:X.15=Zl):Qv X.A H:=(I.1.9 j).mono I.4.6
theorem Inv.cA(I:Inv X Z U H s)(j:X.15=Zl):aI X.A s.1:=(I.cV j).cA I.aw
def Inv.mod(I:Inv X Z U H s):Mod X.K X.4 X.5:=(I.1.1)
def Inv.cO(I:Inv X Z U H s):X.K.In s.1:=(I.1.1.1.keeps I.bk)
def Inv.lt(I:Inv X Z U H s):X.10.2<s.1.1.size:=(let ⟨_,hn,_⟩:=I.5;hn.lt)
def Inv.sz(I:Inv X Z U H s):X.8.1.1.size<=s.1.1.size:=(Zb I.1.5<|Z7 I.lt)
def Inv.zE(I:Inv X Z U H s)(h:s.1.1.size<=a):a∉X.fs:=(λj=>by let#[_,o,ho,_]:=I.1.dF.mem j;show absurd (ZO (Z9 ho)<|Zb I.sz h)<|jM _)
def Inv.kY(I:Inv X Z U H s):∀x c,X.10.4.lookup x=V c->c≠X.10.2:=(λx c e z=>by let#[v,o,ho,hd]:=I.6 x c e;let#[m,#[B,u,C,j,k,_],_]:=I.5;rw[z,j]at ho;cases ho;rw[k]at hd;cases hd)
def Inv.dF(I:Inv X Z U H s):s.1.FunFrames X.5 X.11:=by
 let all:∀(l:Tk),(∀b∈eK l,b∈X.fs)->X.8.1.FunFrames X.5 l->s.1.FunFrames X.5 l:=by
  intro l;induction l with|nil=>intro _ _;trivial|cons env r C=>
   intro u E;let#[D,#[L,o,k,hn,ho,hd],B]:=E;let m:=u L<|by unfold eK;rw[yt,k];show Z2
   let#[F,e]:=I.4.2 L o ho (I.1.mz L m) m λz=>I.1.iG L z m
   show#[D,#[L,_,k,hn,e,hd],C (λb j=>u b<|by unfold eK;rw[yt,k];show Zq _ j) B]
 show all X.11 (λ_ j=>j) I.1.dF
def Inv.stack(I:Inv X Z U H s):s.1.FunFrames X.5 X.12:=by
 rcases I.1.rK with e|⟨e,hf⟩
 .rw[e];show I.dF
 .rw[e];let#[m,hn,_]:=I.5;calc .cons (by rw[I.1.2];decide) hf hn ?_ I.dF;show vc<|Zb I.1.kI I.1.5
def Inv.jv(I:Inv X Z U H s):∀b∈eK X.12,b∈X.10.2::X.fs:=(λb j=>by
 rcases I.1.rK with e|⟨e,hf⟩
 .simp_all
 .rw[e]at j;unfold eK at j;rw[yt,hf]at j;show j)
def Inv.dP(I:Inv X Z U H s):∀b∈eK X.12,H b=Zg:=(λb j=>by
 rcases ZG.1 (I.jv b j)with e|j
 .rw[e];show I.7
 .let#[_,o,ho,_]:=I.1.dF.mem j;show I.4.3 b o ho (I.1.mz b j) λz=>I.1.iG b z j)
def Inv.step{ch:Tt}(I:Inv X Z U H s)
  (C:∀b∈ch,(b∈X.ex\/X.8.1.1.size<=b)/\b≠X.10.2/\(∀x c,X.10.4.lookup x=V c->c≠b)/\∀p∈X.pn++Z,p.1≠b)
  (keep:∀b o,b≠X.10.2->b∉X.fs->b∉ch->s.1.get? b=V o->H b=Zg->h'.get? b=V o)
  (slot:∀b o,b≠X.10.2->b∈X.fs->b∉ch->s.1.get? b=V o->H b=Zg->∃sl,h'.get? b=V {o with slots:=sl})(free:∀b o,b∉ch->s.1.get? b=V o->H b=Zg->H' b=Zg)
  (there:∀b o,b∉ch->s.1.get? b=V o->∃o',h'.get? b=V o')
  (cI:∀b xs,H b=V (.tup xs)->H' b=V (.tup xs))(bz:∀b o u,H b=V (.bK o u)->H' b=V (.bK o u))(cX:∀b ps,H b=V (.iF ps)->∃more,H' b=V (.iF<|ps++more))
  (ns:∀m,s.1.Ns X.10.2 m->h'.Ns X.10.2 m)(aw:c8 X.1 X.w H' h')(hg:mq g'):
  Inv X Z U H' {s with heap:=h',gens:=g',drawn:=d',toks:=t'}:=by
 let J:∀b o,X.8.1.get? b=V o->b≠X.10.2:=λb o e=>Zu<|ZO (Z9 e) I.1.5
 let F:∀b o,X.8.1.get? b=V o->b∉X.ex->b∉ch:=λb o e j G=>by
  rcases(C b G).1 with z|z
  .show j z
  .show absurd (ZO (Z9 e) z)<|jM _
 let D:∀x c,X.10.4.lookup x=V c->∀v,s.1.IsCell c v->h'.IsCell c v:=λx c e v ⟨o,ho,hd⟩=>by
  let B:=λz=>(C c z).2.2.1 x c e 07
  by_cases Q:c∈X.fs
  .let#[sl,q]:=slot c o (I.kY x c e) Q B ho<|I.8 x c e;show#[_,q,hd]
  .show#[o,keep c o (I.kY x c e) Q B ho<|I.8 x c e,hd]
 refine#[I.1,I.2,hg,#[λb o e n G j=>?_,λb o e n G j=>?_,λb o e n j=>?_,λb o e j=>?_,λb xs e=>cI b xs<|I.4.5 b xs e,λb o xs e=>bz b o xs<|I.4.6 b o xs e,λb ps e=>?_],?_,λx c e=>?_,?_,λx c e=>?_,λp O=>?_,aw,I.11]
 .show keep b o (J b o e) G (F b o e j) (I.4.1 b o e n G j)<|I.4.3 b o e n j
 .let#[sl,E]:=I.4.2 b o e n G j;let#[M,L]:=slot b _ (J b o e) G (F b o e j) E<|I.4.3 b o e n j;show#[M,L]
 .let#[o',E]:=I.4.4 b o e j;show free b o' (F b o e j) E<|I.4.3 b o e n j
 .let#[o',E]:=I.4.4 b o e j;show there b o' (F b o e j) E
 .let#[W,E]:=I.4.7 b ps e;let#[R,L]:=cX b _ E;show#[W++R,by rw[L,Array.append_assoc]]
 .let#[m,hn,S]:=I.5;calc#[m,ns m hn,λi x v E L Y=>?_];let#[u,r,l]:=S i x v E L Y;calc#[u,r,?_];rcases l with l|⟨k,c,e,z⟩
  .show .inl l
  .show .inr #[k,c,e,D x c e _ z]
 .let#[v,z]:=I.6 x c e;show#[v,D x c e v z]
 .let#[m,#[o,_,_,ho,_],_]:=I.5;show free _ o (λz=>(C _ z).2.1 07) ho I.7
 .let#[v,o,ho,hd]:=I.6 x c e;show free c o (λz=>(C c z).2.2.1 x c e 07) ho<|I.8 x c e
 .let#[e,n,ne,P,d]:=I.9 p O;let B:=λz=>(C p.1 z).2.2.2 p O 07
  show#[keep p.1 p.2 ne P B e n,free p.1 p.2 B e n,ne,P,d]
def Inv.un(I:Inv X Z U H s)(u:Un X.fs [] H H' s.1 h')(aw:c8 X.1 X.w H' h'):Inv X Z U H' {s with heap:=h',toks:=t'}:=by let#[m,#[o,G,M,ho,r],_]:=id I.5;let#[F,D]:=u.any ho I.7 03;show I.step (ch:=[]) (λ_ z=>nomatch z) (λb o _ B _ e n=>u.1 b o e n B 03) (λb o _ B _ e n=>u.2 b o e n B 03) (λb o _ e n=>u.3 b o e n 03) (λb o _ e=>u.4 b o e 03) u.5 u.6 u.7 (λJ hm=>by let#[L,C,k,j,E]:=hm;rw[ho]at j;cases j;show#[_,C,k,D,E]) aw I.3
def Inv.call(I:Inv X Z U H s)(u:Un (eK X.12) ch H H' s.1 h')(aw:c8 X.1 X.w H' h')(G:mq g') (k:∀b∈ch,(b∈X.ex\/X.8.1.1.size<=b)/\b≠X.10.2/\(∀x c,X.10.4.lookup x=V c->c≠b)/\∀p∈X.pn++Z,p.1≠b):Inv X Z U H' {s with heap:=h',gens:=g',drawn:=d',toks:=t'}:=by
 let#[m,#[o,M,Q,ho,r],_]:=id I.5;let#[L,E]:=u.any ho I.7 λz=>(k _ z).2.1 07
 show I.step k (λb o E F j e n=>u.1 b o e n (λz=>(ZG.1<|I.jv b z).elim E F) j) (λb o _ _ j e n=>u.any e n j) (λb o j e n=>u.3 b o e n j) (λb o j e=>u.4 b o e j) u.5 u.6 u.7 (λO hm=>by let#[P,D,C,B,J]:=hm;rw[ho]at B;cases B;show#[_,D,C,E,J]) aw G
def Inv.turned(I:Inv X Z U H s)(k:∀b o,b≠it->s.1.get? b=V o->h'.get? b=V o)(hn:H it=Zg)(C:it≠X.10.2)
  (h1:it∈X.ex\/X.8.1.1.size<=it)(J:∀x c,X.10.4.lookup x=V c->c≠it)(h3:∀p∈X.pn++Z,p.1≠it):Inv X Z U H {s with heap:=h',toks:=t'}:=by
 let B:∀b u,H b=V u->b≠it:=λb u e z=>by rw[z,hn]at e;cases e
 refine I.step (ch:=[it]) (λb D=>?_) (λb o _ _ j e _=>k b o (λz=>j<|by simp[z]) e) (λb o _ _ j e _=>#[o.4,k b o (λz=>j<|by simp[z]) e]) (λ_ _ _ _ n=>n)
  (λb o j e=>#[o,k b o (λz=>j<|by simp[z]) e]) (λ_ _ e=>e) (λ_ _ _ e=>e) (λb ps e=>#[#[],by rw[e];simp]) (λm hm=>?_) (λb u e=>?_) I.3
 .let e:b=it:=by simpa using D
  subst e;show#[h1,C,J,h3]
 .let#[o,E,F,ho,r]:=hm;show#[o,E,F,k _ o (bP C) ho,r]
 .refine(I.aw b u e).fw (λc v j q=>k c v ?_ q) (λ_ q=>q) λ_ _ q=>q
  rcases j with z|z
  .rw[z];show B b u e
  .show B c _ z
def Inv.tok(I:Inv X Z U H s)(t):Inv X Z U H {s with toks:=t}:=(I.un Un.refl I.aw)
def Inv.kept(I:Inv X Z U H s)(k:∀b u,s.1.get? b=V u->h'.get? b=V u):Inv X Z U H {s with heap:=h',toks:=t'}:=(I.un (Un.kept k)<|I.aw.kept k)
def Inv.laid(I:Inv X Z U H s)(k:∀b u,s.1.get? b=V u->h'.get? b=V u)(hp:s.1.1.size<=a)(new:JX X.1 X.w (upd H a o) h' a o):Inv X Z U (upd H a o) {s with heap:=h',toks:=t'}:=(I.un (Un.laid k hp<|I.aw.fresh hp)<|I.aw.laid k hp new)
def Inv.write(I:Inv X Z U H s)(B:oO<|H x)(m:e=x\/H e=V (.own x))(k:∀b u,b≠e->s.1.get? b=V u->h'.get? b=V u)(j:∃u,h'.get? e=V u) (new:JX X.1 X.w (upd H x o) h' x o):Inv X Z U (upd H x o) {s with heap:=h',toks:=t'}:=(I.un (Un.write B m k j)<|I.aw.write B m k j new)
def Inv.jS(I:Inv X Z U H s)(h:∀p∈pj',s.1.get? p.1=V p.2/\H p.1=Zg/\p.1≠X.10.2/\p.1∉X.fs/\∀v,p.2.3≠.cell v):Inv X pj' U H s:=(#[I.1,I.2,I.3,I.4,I.5,I.6,I.7,I.8,λp j=>(ZQ.1 j).elim (λz=>I.9 p<|iZ _ z)<|h p,I.aw,I.11])
def zF{N:Tj}(u:N.Nodup){i j:Nat}(a:N[i]?=V x)(b:N[j]?=V x):i=j:=by let#[B,k]:=Zp.1 a;let#[J,m]:=Zp.1 b;show(yA u).1<|k.trans m.symm
def M1(I:Inv X Z U H s)(hN:X.N.Nodup)(hi:X.N[i]?=V x)(F:Loc X.10.1 x)(r:RelV v u)
  (h:∀s',Inv X Z (U.set i<|V v) H s'->(∃a,mX a s.1 s'.1/\(a=X.10.2\/X.10.4.lookup x=V a))->Q () s')(hf:X.fn x=Zl\/X.10.1.2.lookup x=V .local:=by assumption):Z0 M A (storeName X.10 x u) Q E s:=by
 let#[m,hn,hl]:=id I.5;let hcls:(X.10.1.1==.class||(X.10.1.1==.module&&X.10.2 != X.10.3))=Zo:=by rw[I.1.2];rfl
 let hiU:i<WP U:=by rw[I.11];show(Zp.1 hi).1
 let kY:=I.kY;let D:∀{a:ZF}{S:bu},(∃o,s.1.get? a=V o/\H a=Zg)->mX a s.1 S->c8 X.1 X.w H S:=λ{a S} ha B b ob e=>by
  let#[_,_,R]:=ha;refine(I.aw b ob e).fw (λc w' G q=>(B.2 c ?_).trans q) (λ_ q=>q) λ_ _ q=>q
  rintro rfl;rcases G with rfl|G
  .rw[R]at e;cases e
  .lia
 rcases F with hk|hk
 .calc wpAny_storeName_local hk hn (λS hn' B=>?_) hcls;let#[oL,_,_,hoL,_]:=id hn;refine h _ #[I.1,I.2,I.3,#[λb o e n O F=>?_,λb o e n O F=>?_,I.4.3,λb o e F=>?_,I.4.5,I.4.6,I.4.7],#[_,hn',λj y v' C J e3=>?_],λy c e=>?_,I.7,I.8,λp hp=>?_,D #[oL,hoL,I.7] B,by simpa using I.11] #[_,B,.inl 07]
  .show(B.2 b<|Zu<|ZO (Z9 e) I.1.5).trans<|I.4.1 b o e n O F
  .let#[sl,C]:=I.4.2 b o e n O F;show#[sl,(B.2 b<|Zu<|ZO (Z9 e) I.1.5).trans C]
  .let#[o',C]:=I.4.4 b o e F;show#[o',(B.2 b<|Zu<|ZO (Z9 e) I.1.5).trans C]
  .by_cases L:j=i
   .subst L;rw[hi]at C;cases C;rw[iY hiU]at J;cases J;show#[u,r,.inl #[hk,03]]
   .rw[ia<|bP L]at J;let#[u',r',q]:=hl j y v' C J e3;calc#[u',r',?_];rcases q with⟨k,e⟩|⟨k,c,e,z⟩
    .calc .inl #[k,?_];let:y≠x:=λe=>L<|zF hN C<|e▸hi
     simp[this,e]
    .show .inr #[k,c,e,z.sameBut B<|kY y c e]
  .let#[w',z]:=I.6 y c e;show#[w',z.sameBut B<|kY y c e]
  .let#[e,n,ne,nf,d]:=I.9 p hp;show#[(B.2 p.1 ne).trans e,n,ne,nf,d]
 .let P:X.fn x=Zl:=by
   rcases hf with z|z
   .show z
   .rw[z]at hk;cases hk
  let#[c,G]:=I.1.7 x<|.inl hk;let#[w',z]:=I.6 x c G;refine wpAny_storeName_cell I.1.2 hk G z λS W B=>?_
  let#[oc,Y,hocd]:=id z;refine h {s with heap:=S} #[I.1,I.2,I.3,#[λb o e n O F=>?_,λb o e n O F=>?_,I.4.3,λb o e F=>?_,I.4.5,I.4.6,I.4.7],#[m,hn.sameBut B<|bP<|kY x c G,λj y v' C J e3=>?_],λy c' e=>?_,I.7,I.8,λp hp=>?_,D #[oc,Y,I.8 x c G] B,by simpa using I.11] #[c,B,.inr G]
  .show(B.2 b<|Zu<|ZO (Z9 e)<|I.1.8 x c P G).trans<|I.4.1 b o e n O F
  .let#[sl,C]:=I.4.2 b o e n O F;show#[sl,(B.2 b<|Zu<|ZO (Z9 e)<|I.1.8 x c P G).trans C]
  .let#[o',C]:=I.4.4 b o e F;show#[o',(B.2 b<|Zu<|ZO (Z9 e)<|I.1.8 x c P G).trans C]
  .by_cases L:j=i
   .subst L;rw[hi]at C;cases C;rw[iY hiU]at J;cases J;show#[u,r,.inr #[.inl hk,c,G,W]]
   .rw[ia<|bP L]at J;let#[u',r',q]:=hl j y v' C J e3;calc#[u',r',?_];rcases q with q|⟨k,c',e,z'⟩
    .show .inl q
    .calc .inr #[k,c',e,z'.sameBut B ?_];rintro rfl;show L<|zF hN C<|I.1.6 _ _ _ e G▸hi
  .by_cases hcc:c'=c
   .subst hcc;show#[_,W]
   .let#[w2,z2]:=I.6 y c' e;show#[w2,z2.sameBut B hcc]
  .let#[e,n,ne,nf,d]:=I.9 p hp;calc#[(B.2 p.1 ?_).trans e,n,ne,nf,d];intro q;rw[q,Y]at e;let q':=eV e;show d w'<|by rw[<-q'];show hocd
def YO(I:Inv X Z U H s)(m:X.N.Nodup)(hi:X.N[i]?=V x)(k:Loc X.10.1 x)(r:RelV v u) (h:∀s',Inv X Z (U.set i<|V v) H s'->Q () s')(B:X.fn x=Zl\/X.10.1.2.lookup x=V .local:=by assumption):Z0 M A (storeName X.10 x u) Q E s:=(M1 I m hi k r (λs' j _=>h s' j) B)
def Inv.tm(I:Inv X Z U H s)(ho:s'.5=s.5)(u:Un (eK X.12) ch H H' s.1 s'.1)(aw:c8 X.1 X.w H' s'.1)(k:mq s'.2) (j:∀b∈ch,(b∈X.ex\/X.8.1.1.size<=b)/\b≠X.10.2/\(∀x c,X.10.4.lookup x=V c->c≠b)/\∀p∈X.pn++Z,p.1≠b):Inv X Z U H' s':=by let#[B,D,C,m,E]:=s';let e:=ho;subst e;show I.call u aw k j
end
abbrev XK:=Zv->Tc->Hp->Prop
abbrev St:=Wc
abbrev VK:=bA->Hp->Prop
abbrev TE:=St->Hp->VK->Prop
structure Ends where
 nx:St->Hp->Prop
 rt:VK
 bk:St->Hp->Prop:=λ_ _=>False
 ct:St->Hp->Prop:=λ_ _=>False
abbrev TS:=Ends->St->Hp->Prop
def EP(X:Cx)(Z:aZ)(U:St)(Q:VK)(u:Zv)(s':Z5):Prop:=∃v H',Inv X Z U H' s'/\RelV v u/\Q v H'
def TP(X:Cx)(Z:aZ)(U:St)(Q:Bool->Hp->Prop)(b:Bool)(s':Z5):Prop:=∃H',Inv X Z U H' s'/\Q b H'
def SP(X:Cx)(Z:aZ)(D:Ends)(f:Flow)(s':Z5):Prop:=match f with|.next=>∃U' H',Inv X Z U' H' s'/\D.1 U' H'|.brk=>∃U' H',Inv X Z U' H' s'/\D.3 U' H'|.cont=>∃U' H',Inv X Z U' H' s'/\D.4 U' H'|.ret u=>∃v U' H',Inv X Z U' H' s'/\RelV v u/\D.2 v H'
def PE(X:Cx)(e:Expr)(t:TE):Prop:=∀(Z:aZ)(s:Z5)(U:St)(H:Hp)(Q:VK),Inv X Z U H s->t U H Q->Z0 (ZA X.1 X.w) X.A (bj e X.10) (EP X Z U Q) X.xe s
def M3(X:Cx)(st:Tl)(t:TS):Prop:=∀(Z:aZ)(s:Z5)(U:St)(H:Hp)(D:Ends),Inv X Z U H s->t D U H->Z0 (ZA X.1 X.w) X.A (execs st X.10) (SP X Z D) X.xe s
def rM(h:Z0 M A t Q E s)(j:∀a s,Q a s->Q' a s):Z0 M A t Q' E s:=(dD h j λ_ _ x=>x)
section
variable{X:Cx}
def zG(i:Nat):TE:=λU H Q=>∃v,U[i]?=V (V v)/\Q v H
def tC(v:bA):TE:=λ_ H Q=>Q v H
def M4(B:X.N[i]?=V x)(C:pM X.10.1 x)(hd:(x==("__debug__":Str))=Zo:=by decide)(k:(x==("__classdict__":Str))=Zo:=by decide):PE X (.Name x pos) (zG i):=by
 intro Z s U H Q I h;let#[v,e,h]:=h;let#[m,hn,D]:=I.5;let#[u,r,l]:=D i x v B e C;let fin:EP X Z U Q u s:=#[v,H,I,r,h];rcases l with⟨j,hm⟩|⟨j,c,hc,hcell⟩
 .show wpAny_Name (wpAny_loadName_local I.1.2 j hn hm fin) hd
 .rcases j with j|j
  .show wpAny_Name (wpAny_loadName_cell I.1.2 j hc hcell fin) hd
  .show wpAny_Name (wpAny_loadName_free I.1.2 j hc hcell fin k) hd
def M5{i j pos}:PE X (.Constant (.int i) j pos) (tC<|.int i):=(λ_ _ _ H _ I h=>wpAny_Constant_int #[.int i,H,I.tok _,#[_,07],h])
def M6{b j pos}:PE X (.Constant (.bool b) j pos) (tC<|.bl b):=(λ_ _ _ H _ I h=>Constant_bool #[.bl b,H,I,07,h])
def M7{j pos}:PE X (.Constant .none j pos) (tC .ah):=(λ_ _ _ H _ I h=>Constant_none #[.ah,H,I,07,h])
def M8{x j pos}:PE X (.Constant (.str x) j pos) (tC<|.str x):=(λ_ _ _ H _ I h=>Calls.Constant_str #[.str x,H,I.tok _,#[_,07],h])
def Gl(X:Cx)(x:Str):Prop:=X.10.kindOf x=V .globalImplicit
def VC(I:Inv X Z U H s)(j:Gl X x)(hm:X.4 x=V u)(h:Q u s) (hd:(x==("__debug__":Str))=Zo:=by decide):Z0 (ZA X.1 X.w) X.A (bj (.Name x pos) X.10) Q E s:=(EL I.1.2 j (Calls.loadGlobal_global (by rw[I.1.3];show I.mod.2.keeps I.bk) hm h) hd)
def Qk(I:Inv X Z U H s)(j:Gl X x)(hm:X.4 x=Zg)(m:kE x=V u)(h:Q u s) (hn:x≠"__name__":=by decide)(hd:(x==("__debug__":Str))=Zo:=by decide):Z0 (ZA X.1 X.w) X.A (bj (.Name x pos) X.10) Q E s:=by let#[mb,k,J]:=I.mod.3;show EL I.1.2 j (Calls.loadGlobal_builtin (by rw[I.1.3];show I.mod.2.keeps I.bk) hm (by rw[I.1.4];show k.keeps I.bk) ((J x hn).trans m) h) hd
def M9(j:Gl X x)(hm:X.4 x=V u)(r:RelV v u)(hd:(x==("__debug__":Str))=Zo:=by decide):PE X (.Name x pos) (tC v):=(λ_ _ _ H _ I h=>VC I j hm #[v,H,I,r,h] hd)
variable{a b:Expr}{ta tb:TE}{pos:Pos}
variable{tA tB':TT}{rest:Td}
end
def bZ(K:W.Frag)(H:Hp)(a:ZF)(xs:Ub):Prop:=Rd H a (.lst xs) \/ ∃(o:Obj) (its:Th) (n:Nat),K.lookup a=V o/\o.1=.type "list"/\o.2=Zg/\o.3=.seq its n/\its.size<=sizeLine/\Vals xs its.1
def eL(K:W.Frag)(H:Hp)(a:ZF)(xs:Ub):Prop:=Rd H a (.tup xs) \/ ∃(o:Obj) (its:Th) (n:Nat),K.lookup a=V o/\o.1=.type "tuple"/\o.3=.seq its n/\its.size<=sizeLine/\Vals xs its.1
noncomputable def zH:Zv->Ti|.none=>V .ah|.bool b=>V<|.bl b|.int i _=>V<|.int i|.str x _=>V<|.str x|.bytes b _=>V<|.i8 b|.float b _=>V<|.vM b|.ref a=>V<|.ref a|.type n=>V<|.ty n|_=>Zg
def RelV.abs(r:RelV x u):zH u=V x:=by cases x with|ah=>cases r;rfl|bl _=>cases r;rfl|int _=>let#[t,rfl]:=r;rfl|str _=>let#[t,rfl]:=r;rfl|i8 _=>let#[t,rfl]:=r;rfl|vM _=>let#[t,rfl]:=r;rfl|ref _=>cases r;rfl|ty _=>cases r;rfl
def RelV.inj(r:RelV x u)(q:RelV y u):x=y:=(eV<|r.abs.symm.trans q.abs)
theorem Vals.inj:∀{xs ys:Ub}{us:Tu},Vals xs us->Vals ys us->xs=ys|_,_,_,.nil,.nil=>07|_,_,_,.cons r t,.cons r' t'=>by rw[r.inj r',Vals.inj t t']
section
variable{X:Cx}{Z:aZ}{U:St}{H:Hp}{s:Z5}{a:ZF}{xs ys:Ub}
def bZ.of{K:W.Frag}(h:H a=V (.lst xs)):bZ K H a xs:=(.inl<|.inl h)
def eL.of{K:W.Frag}(h:H a=V (.tup xs)):eL K H a xs:=(.inl<|.inl h)
def Inv.list(I:Inv X Z U H s)(h:bZ X.K H a xs):∃its:Tu,Vals xs its/\PlainL s.1 a its.toArray/\WP xs<=sizeLine:=by
 rcases h with h|⟨o,its,n,hk,hc,hd,hs,hz,r⟩
 .let#[z,its,n,r,e]:=h.ok I.aw;show#[its,r,#[_,n,e,07,07,07],z]
 .calc#[its.1,r,#[o,n,I.cO a o hk,hc,hd,by simpa using hs],?_];let e:=r.length;simp at e;show Zb (Zh e) hz
def Inv.tuple(I:Inv X Z U H s)(h:eL X.K H a xs):∃its:Tu,Vals xs its/\IsTup s.1 a its.toArray/\WP xs<=sizeLine:=by
 rcases h with h|⟨o,its,n,hk,hc,hs,hz,r⟩
 .let#[z,its,r,p]:=h.ok I.aw;show#[its,r,p,z]
 .calc#[its.1,r,#[o,I.cO a o hk,hc,n,by simpa using hs],?_];let e:=r.length;simp at e;show Zb (Zh e) hz
def Inv.fy(I:Inv X Z U H s)(h:bZ X.K H a xs)(h':bZ X.K H a ys):xs=ys:=by
 let#[k,r,#[o,n,e,_,_,d],_]:=I.list h;let#[j,B,#[D,C,m,_,_,u],_]:=I.list h';rw[e]at m;cases m;rw[d]at u;injection u with d1 _
 let:k=j:=by simpa using congrArg Array.toList d1
 subst this;show r.inj B
def Inv.gG(I:Inv X Z U H s)(h:eL X.K H a xs)(h':eL X.K H a ys):xs=ys:=by
 let#[k,r,#[o,e,_,n,d],_]:=I.tuple h;let#[j,B,#[D,m,_,C,u],_]:=I.tuple h';rw[e]at m;cases m;rw[d]at u;injection u with d1 _
 let:k=j:=by simpa using congrArg Array.toList d1
 subst this;show r.inj B
end
noncomputable abbrev Cx.bo (X:Cx)(E:aQ):Cx:={X with xe:=E}
abbrev Cx.Nc(X:Cx):Cx:=X.bo λ_ _=>False
def Cx.Ok.bo{X:Cx}(ok:X.Ok)(E):(X.bo E).Ok:=(#[ok.1,ok.2,ok.3,ok.4,ok.5,ok.6,ok.7,ok.8,ok.9,ok.10,ok.rK,ok.rL,ok.bs,ok.kI,ok.ju,ok.iG,ok.dF,ok.mz])
def Cx.Ok.bH{X:Cx}(ok:(X.bo E).Ok):X.Ok:=(#[ok.1,ok.2,ok.3,ok.4,ok.5,ok.6,ok.7,ok.8,ok.9,ok.10,ok.rK,ok.rL,ok.bs,ok.kI,ok.ju,ok.iG,ok.dF,ok.mz])
section
variable{X:Cx}{Z:aZ}{U:St}{H:Hp}{s:Z5}{E:aQ}
def Inv.bo(I:Inv X Z U H s)(E):Inv (X.bo E) Z U H s:=(#[I.1.bo E,I.2,I.3,I.4,I.5,I.6,I.7,I.8,I.9,I.aw,I.11])
def Inv.bH(I:Inv (X.bo E) Z U H s):Inv X Z U H s:=(#[I.1.bH,I.2,I.3,I.4,I.5,I.6,I.7,I.8,I.9,I.aw,I.11])
end
section
variable{X:Cx}{st:fu}{rest:Tl}{t u:TS}{e:Expr}{te:TE}{pos:Pos}
def Inv.quiet(I:Inv X Z U H s):interactive X.10=Zo:=by simp[interactive,I.1.2]
end
abbrev zI:=bA->bA->bA->Hp->(Hp->Prop)->Prop
def zJ(X:Cx)(t:zI):Prop:=∀(Z:aZ)(s:Z5)(U:St)(H:Hp)(o i v:bA)(ov iv u:Zv)(Q:Hp->Prop),Inv X Z U H s->RelV o ov->RelV i iv->RelV v u->t o i v H Q ->Z0 (ZA X.1 X.w) X.A (setItem ov iv u) (λ_ s'=>∃H',Inv X Z U H' s'/\Q H') X.xe s
structure It where
 go:Nat->Hp->Prop
 zK:Nat->Hp->bA->Hp->Prop
 stop:Nat->Hp->Prop
def aE(X:Cx)(Z:aZ)(H:Hp)(b:ZF):Prop:=H b=Zg/\b≠X.10.2/\b∉X.fs/\(b∈X.ex\/X.8.1.1.size<=b)/\(∀x c,X.10.4.lookup x=V c->c≠b)/\∀p∈X.pn++Z,p.1≠b
def Inv.c9(I:Inv X Z U H s)(j:s.1.1.size<=b)(hn:H' b=Zg):aE X Z H' b:=by
 refine#[hn,ZY<|ZO I.lt j,I.zE j,.inr<|Zb I.sz j,λx c e z=>?_,λp k z=>?_]
 .let#[v,q]:=I.6 x c e;show absurd (ZO q.lt<|by rw[z];show j)<|jM _
 .show absurd (ZO (Z9 (I.9 p k).1)<|by rw[z];show j)<|jM _
structure Turn(P:cy)(w:bV)(K:W.Frag)(tg:Expr)(bB:It)(fp:Tt)(it:ZF)(tn:Nat->bu->Prop):Prop where
 mem:it∈fp
 obj:∀i h,tn i h->∀b∈fp,∃o,h.get? b=V o/\∀v,o.3≠.cell v
 keep:∀i h h',tn i h->(∀b∈fp,∀o,h.get? b=V o->h'.get? b=V o)->tn i h'
 item:∀(X:Cx),X.1=P->X.w=w->X.K=K->X.15=Zl->∀(i:Nat)(Z:aZ)(s:Z5)(U:St)(H:Hp)(E:aQ),Inv X Z U H s->(∀b∈fp,aE X Z H b)->tn i s.1->bB.1 i H ->Z0 (ZA P w) X.A (f9<|.ref it) (λr s1=>∃u,r=V u /\ Z0 (ZA P w) X.A (uV tg (.ref it) u) (λ_ s2=>∃x H',Inv X Z U H' s2/\RelV x u/\bB.2 i H x H'/\tn (i+1) s2.1/\∀b∈fp,H' b=Zg) E s1) E s
 done:∀(X:Cx),X.1=P->X.w=w->X.K=K->X.15=Zl->∀(i:Nat)(Z:aZ)(s:Z5)(U:St)(H:Hp)(E:aQ),Inv X Z U H s->(∀b∈fp,aE X Z H b)->tn i s.1->bB.3 i H ->Z0 (ZA P w) X.A (f9<|.ref it) (λr s1=>r=Zg/\Inv X Z U H s1) E s
 self:∀(A:cz)(i:Nat)(s:Z5)(Q:aQ)(E:aQ),tn i s.1->Q (.ref it) s->Z0 (ZA P w) A (l4<|.ref it) Q E s
def Nd(X:Cx)(Z:aZ)(U:St)(tg:Expr)(R:It->Hp->Prop)(itv:Zv)(s2:Z5):Prop:=∃(it:ZF)(fp:Tt)(tn:Nat->bu->Prop)(bB:It)(H':Hp),itv=.ref it/\Inv X Z U H' s2/\Turn X.1 X.w X.K tg bB fp it tn/\tn 0 s2.1/\(∀b∈fp,aE X Z H' b)/\R bB H'
def Y7{M:Model}{A:cz}{E:aQ}{s:Z5}{tg:Expr}{it:ZF}{u:Zv}{o:Obj}{n:String}{vs:Th}{Q:Unit->Z5->Prop}(ho:s.1.get? it=V o)(k:o.1=.type n)(hd:o.3=.fields vs)
  (hn:["enumerate","zip","dict_itemiterator","dict_reverseitemiterator","odict_iterator","itertools.zip_longest","itertools.pairwise"].contains n=Zo)(j:Q () s):Z0 M A (uV tg (.ref it) u) Q E s:=by
 cases tg<;>first
  |show Zs j
  | (cases u<;>first
    |show Zs j
    | (refine Ze (wpAny_load ho ?_)
       rw[k,hd];change Z0 M A (if (["enumerate","zip","dict_itemiterator","dict_reverseitemiterator","odict_iterator","itertools.zip_longest","itertools.pairwise"].contains n&&vs[0]?==V (dN _))=Zl then _ else _) Q E s;rw[if_neg 05];show Zs j))
def tq(K:W.Frag)(a:ZF):It:=#[λi H=>∃xs x,bZ K H a xs/\xs[i]?=V x,λi H x H'=>H'=H/\∀xs,bZ K H a xs->xs[i]?=V x,λi H=>∃xs,bZ K H a xs/\WP xs<=i]
def zL(K:W.Frag)(a:ZF):It:=#[λi H=>∃xs x,eL K H a xs/\xs[i]?=V x,λi H x H'=>H'=H/\∀xs,eL K H a xs->xs[i]?=V x,λi H=>∃xs,eL K H a xs/\WP xs<=i]
def vP(lo:Int)(n:Nat):It:=#[λi _=>i<n,λi H x H'=>H'=H/\x=.int (lo+i),λi _=>n<=i]
theorem EU{P:cy}{w:bV}{K:W.Frag}{tg:Expr}(a it:ZF):Turn P w K tg (tq K a) [it] it (λi h=>h.IsListIter it a i) where
 mem:=03
 obj:=λi h st b j=>by
  let e:b=it:=by simpa using j
  subst e;let#[o,e,c,d]:=st;show#[o,e,λv z=>by rw[d]at z;cases z]
 keep:=λi h B st k=>st.at λo e=>k it 03 o e
 item:=by
  intro X Y J L hc i Z s U H E I D st hg;subst Y J L;let#[xs,x,C,F]:=hg;let#[O,R,p,hz]:=I.list C;let#[u,hu,ru]:=R.get F;let#[M,f1,f2,S,Q,G]:=D it 03;refine yI st p.isList (x:=u) (by simpa using hu) λB m sb=>?_
  let I1:Inv X Z U H {s with heap:=B}:=I.turned (t':=s.4) (λb o j e=>(sb.2 b j).trans e) M f1 S Q G;let#[o,e,c,d]:=id m;show#[u,07,Y7 (s:={s with heap:=B}) e c d 01 #[x,H,I1,ru,#[07,λys hy=>by rw[I.fy hy C];show F],m,λb j=>(D b j).1]]
 done:=by intro X Y J L hc i Z s U H E I D st hg;subst Y J L;let#[xs,C,F]:=hg;let#[O,R,p,hz]:=I.list C;let#[M,f1,f2,S,Q,G]:=D it 03;let hl:=R.length;show zz (I.cA hc) st p.isList (by simp;show Zb (Zh hl.symm) F) λB eb=>#[07,I.turned (t':=s.4) (λb o j e=>eb b o j e) M f1 S Q G]
 self:=λ_ _ _ _ _ st h=>Ez st h
theorem Nf{P:cy}{w:bV}{K:W.Frag}{tg:Expr}(a it:ZF):Turn P w K tg (zL K a) [it] it (λi h=>h.IsTupleIter it a i) where
 mem:=03
 obj:=λi h st b j=>by
  let e:b=it:=by simpa using j
  subst e;let#[o,e,c,d]:=st;show#[o,e,λv z=>by rw[d]at z;cases z]
 keep:=λi h C st k=>st.at λo e=>k it 03 o e
 item:=by
  intro X Y L M hc i Z s U H E I F st hg;subst Y L M;let#[xs,x,D,G]:=hg;let#[m,R,p,hz]:=I.tuple D;let#[u,hu,ru]:=R.get G;let#[O,f1,f2,S,Q,J]:=F it 03;refine Eu st (show s.1.IsTuple a m.toArray from p) (x:=u) (by simpa using hu) λC B sb=>?_
  let I1:Inv X Z U H {s with heap:=C}:=I.turned (t':=s.4) (λb o j e=>(sb.2 b j).trans e) O f1 S Q J;let#[o,e,c,d]:=id B;show#[u,07,Y7 (s:={s with heap:=C}) e c d 01 #[x,H,I1,ru,#[07,λys hy=>by rw[I.gG hy D];show G],B,λb j=>(F b j).1]]
 done:=by intro X Y L M hc i Z s U H E I F st hg;subst Y L M;let#[xs,D,G]:=hg;let#[m,R,p,hz]:=I.tuple D;let#[O,f1,f2,S,Q,J]:=F it 03;let hl:=R.length;show zA (I.cA hc) st (show s.1.IsTuple a m.toArray from p) (by simp;show Zb (Zh hl.symm) G) λC eb=>#[07,I.turned (t':=s.4) (λb o j e=>eb b o j e) O f1 S Q J]
 self:=λ_ _ _ _ _ st h=>Ew st h
theorem Ng{P:cy}{w:bV}{K:W.Frag}{tg:Expr}(it:ZF)(lo:Int)(n:Nat):Turn P w K tg (vP lo n) [it] it (λi h=>IsRangeIter h it (lo+(i:Nat)*1) ((n:Int)-(i:Nat)) 1) where
 mem:=03
 obj:=λi h st b j=>by
  let e:b=it:=by simpa using j
  subst e;show#[_,st,λv z=>by let z':vJ _=td v:=z;cases z']
 keep:=λi h u st k=>k it 03 _ st
 item:=by
  intro X O D G F i Z s U H E I B st Q;subst O D G;let#[J,R,Y,M,L,C]:=B it 03;let W:=MI (prog:=X.1) (w:=X.w) (A:=X.A) it lo 1 n;refine W.3 i s _ _ Q #[st,I.cA F] λv u S hv ⟨m,_⟩ kk=>?_
  let#[t,rfl]:=hv;let I1:Inv X Z U H {s with heap:=u,toks:=S}:=I.turned (λb o j e=>kk b o (by simpa using j) e) J R M L C;calc#[_,07,Y7 (s:={s with heap:=u,toks:=S}) (n:="range_iterator") m 07 07 01 #[.int<|lo+i,H,I1,#[t,?_],#[07,07],m,λb j=>(B b j).1]];rw[Int.mul_one]
 done:=by intro X O D G F i Z s U H E I B st Q;subst O D G;let#[J,R,Y,M,L,C]:=B it 03;show ER (I.cA F) st (by let:n<=i:=Q;lia) λu eb=>#[07,I.turned (t':=s.4) (λb o j e=>eb b o j e) J R M L C]
 self:=λ_ _ _ _ _ st h=>Ey st h
section
variable{X:Cx}{tg:Expr}
def Nh{lo hi:Int}(I:Inv X Z U H s)(h1: -(2^62)<=lo)(J:lo<2^62)(h3: -(2^62)<=hi)(B:hi<2^62)
  (q:R (vP lo (hi-lo).toNat) H):Z0 (ZA X.1 X.w) X.A (l4<|.ref s.1.1.size) (Nd X Z U tg R) E {s with heap:=s.1.push {cls:=.type "range",data:=.fields (bT [.int lo t,.int hi u,.int 1 v])},toks:=tk}:=by
 calc wpAny_pyIter_range (IsRange.new ..) (small_one h1 J h3 B) ?_;let I1:Inv X Z U H {s with heap:=s.1.push {cls:=.type "range",data:=.fields (bT [.int lo t,.int hi u,.int 1 v])},toks:=tk}:=I.kept λb o e=>Zj _ e
 refine#[(s.1.push {cls:=.type "range",data:=.fields (bT [.int lo t,.int hi u,.int 1 v])}).1.size,[(s.1.push {cls:=.type "range",data:=.fields (bT [.int lo t,.int hi u,.int 1 v])}).1.size],_,_,H,07,
  I1.kept (t':=tk) λb o e=>Zj _ e,Ng _ lo (hi-lo).toNat,?_,λb m=>?_,q]
 .let j:lo+((0:Nat):Int)*1=lo:=03;let k:(((hi-lo).toNat:Nat):Int)-((0:Nat):Int)=EN lo hi 1:=by rw[yN];split<;>lia
  rw[j,k];show Zw _ 07
 .let e:b=(s.1.push {cls:=.type "range",data:=.fields (bT [.int lo t,.int hi u,.int 1 v])}).1.size:=by simpa using m
  subst e;show I1.c9 (Zm _)<|I1.aw.fresh<|Zm _
def QY(fp:Tt)(h:bu):aZ:=fp.filterMap λb=>(h.get? b).map λo=>(b,o)
def YC(j:b∈fp)(e:h.get? b=V o):(b,o)∈QY fp h:=(List.mem_filterMap.2 #[b,j,by rw[e];rfl])
def Ni(hp:p∈QY fp h):p.1∈fp/\h.get? p.1=V p.2:=by let#[b,k,e]:=List.mem_filterMap.1 hp;cases q:h.get? b with|none=>rw[q]at e;cases e|some o=>rw[q]at e;let j:=eV e;subst j;show#[k,q]
def Inv.pinned(I:Inv X Z U H s)(B:∀b∈fp,aE X Z H b)(ho:∀b∈fp,∃o,s.1.get? b=V o/\∀v,o.3≠.cell v):Inv X (Z++QY fp s.1) U H s:=(I.jS λp D=>(ZQ.1 D).elim (λz=>I.9 p<|Zr _ z) λz=>by let#[k,e]:=Ni z;let#[u,m,C,_]:=B p.1 k;let#[o,j,d]:=ho p.1 k;rw[e]at j;cases j;show#[e,u,m,C,d])
def Inv.iH(I:Inv X (Z++pl) U H s):Inv X Z U H s:=(I.jS λp j=>I.9 p<|Zr _<|iZ _ j)
end
abbrev R2:=bA->bA->Hp->VK->Prop
def fW(X:Cx)(f:Zv->Zv->Sem Zv)(r:R2):Prop:=∀(Z:aZ)(s:Z5)(U:St)(H:Hp)(x y:bA)(v u:Zv)(Q:VK),Inv X Z U H s->RelV x v->RelV y u->r x y H Q ->Z0 (ZA X.1 X.w) X.A (f v u) (EP X Z U Q) X.xe s
def zM(X:Cx)(f:Zv->Sem Zv)(r:bA->Hp->VK->Prop):Prop:=∀(Z:aZ)(s:Z5)(U:St)(H:Hp)(x:bA)(v:Zv)(Q:VK),Inv X Z U H s->RelV x v->r x H Q ->Z0 (ZA X.1 X.w) X.A (f v) (EP X Z U Q) X.xe s
def Xy(X:Cx)(f:Zv)(r:Ub->Hp->VK->Prop):Prop:=∀(Z:aZ)(s:Z5)(U:St)(H:Hp)(xs:Ub)(us:Tu)(Q:VK),Inv X Z U H s->Vals xs us->r xs H Q ->Z0 (ZA X.1 X.w) X.A (call f us) (EP X Z U Q) X.xe s
def tu(X:Cx)(r:bA->Hp->(Bool->Hp->Prop)->Prop):Prop:=∀(Z:aZ)(s:Z5)(U:St)(H:Hp)(x:bA)(v:Zv)(Q:Bool->Hp->Prop),Inv X Z U H s->RelV x v->r x H Q ->Z0 (ZA X.1 X.w) X.A (truthy v) (TP X Z U Q) X.xe s
def rI(C:Int->Int->Prop)(g:Int->Int->bA):R2:=λx y H Q=>∃i j,x=.int i/\y=.int j/\C i j/\Q (g i j) H
def oP(g:Int->Int->bA):R2:=λx y H Q=>∃i j,x=.int i/\y=.int j/\Q (g i j) H
def rU(g:Int->bA):bA->Hp->VK->Prop:=λx H Q=>∃i,x=.int i/\Q (g i) H
section
variable{X:Cx}{a b c:Expr}{ta tb tc:TE}{pos:Pos}
def vQ{g:Int->Int->Int} (k:∀(i j:Int)(t u:Tok)(s:Z5)(Q E:aQ),C i j->Q (.int (g i j) s.4) {s with toks:=s.4+1}->Z0 (ZA X.1 X.w) X.A (f (.int i t)<|.int j u) Q E s):fW X f (rI C λi j=>.int<|g i j):=by intro Z s U H x y v u Q I B D h;let#[i,j,rfl,rfl,F,q]:=h;let#[t,rfl]:=B;let#[m,rfl]:=D;show k i j t m s _ _ F #[.int<|g i j,H,I.tok _,#[_,07],q]
def tw{g:Int->Int->Int} (k:∀(i j:Int)(t u:Tok)(s:Z5)(Q E:aQ),Q (.int (g i j) s.4) {s with toks:=s.4+1}->Z0 (ZA X.1 X.w) X.A (f (.int i t)<|.int j u) Q E s):fW X f (oP λi j=>.int<|g i j):=by intro Z s U H x y v u Q I B C h;let#[i,j,rfl,rfl,q]:=h;let#[t,rfl]:=B;let#[m,rfl]:=C;show k i j t m s _ _ #[.int<|g i j,H,I.tok _,#[_,07],q]
def m6{g:Int->Int->Bool} (k:∀(i j:Int)(t u:Tok)(s:Z5)(Q E:aQ),Q (.bool<|g i j) s->Z0 (ZA X.1 X.w) X.A (f (.int i t)<|.int j u) Q E s):fW X f (oP λi j=>.bl<|g i j):=by intro Z s U H x y v u Q I B C h;let#[i,j,rfl,rfl,q]:=h;let#[t,rfl]:=B;let#[m,rfl]:=C;show k i j t m s _ _ #[.bl<|g i j,H,I,07,q]
def zN(i j:Int):Prop:=0<=j/\j<=1000000/\i.natAbs<2^64
def Nj:fW X (f7 .Add) (oP λi j=>.int<|i+j):=(tw λ_ _ _ _ _ _ _ q=>add_int q)
def Nk:fW X (f7 .Sub) (oP λi j=>.int<|i-j):=(tw λ_ _ _ _ _ _ _ q=>sub_int q)
def Nl:fW X (f7 .Mod) (rI (λ_ j=>0<j) λi j=>.int<|i%j):=(vQ λi j _ _ _ _ _ m q=>by let k:=m;show mod_int' (i4 k)<|by rw[Int.fmod_eq_emod_of_nonneg i<|ZJ k];show q)
def Nn:fW X (f7 .Pow) (rI zN λi j=>.int<|i^j.toNat):=(vQ λ_ _ _ _ _ _ _ k q=>pow_int_small k.1 k.2.1 k.2.2 q)
def vR{g:Int->Int} (j:∀(i:Int)(t:Tok)(s:Z5)(Q E:aQ),Q (.int (g i) s.4) {s with toks:=s.4+1}->Z0 (ZA X.1 X.w) X.A (f<|.int i t) Q E s):zM X f (rU λi=>.int<|g i):=by intro Z s U H x v Q I k h;let#[i,rfl,q]:=h;let#[t,rfl]:=k;show j i t s _ _ #[.int<|g i,H,I.tok _,#[_,07],q]
def Np:zM X (unaryOp .USub) (rU λi=>.int (-i)):=(vR λ_ _ _ _ _ q=>neg_int q)
end
noncomputable def pO:bA->bA->Bool|.ah,.ah=>Zl|.ah,.int _=>Zl|.int _,.ah=>Zl|.ah,.bl _=>Zl|.bl _,.ah=>Zl|.ah,.str _=>Zl|.str _,.ah=>Zl|.int _,.int _=>Zl|.bl _,.bl _=>Zl|.str _,.str _=>Zl|.i8 _,.i8 _=>Zl|.int _,.str _=>Zl|.str _,.int _=>Zl|.bl _,.str _=>Zl|.str _,.bl _=>Zl|_,_=>Zo
def Nq:R2:=λx y H Q=>pO x y=Zl/\Q (.bl<|decide (x=y)) H
def Nr:R2:=λx y H Q=>pO x y=Zl/\Q (.bl (!decide (x=y))) H
def EV:decide (bA.int i=bA.int j)=(i==j):=by rw[sS];simp
def EW:decide (bA.bl i=bA.bl j)=(i==j):=by rw[sS];simp
def EX:decide (bA.str i=bA.str j)=(i==j):=by rw[sS];simp
def EY:decide (bA.i8 i=bA.i8 j)=(i.1==j.1):=by rw[sS];cases i;cases j;simp
section
variable{X:Cx}{a b c:Expr}{ta tb tc:TE}{pos:Pos}
def JG(I:Inv X Z U H s)(q:Q (.bl k) H)(e:k=k'):EP X Z U Q (.bool k') s:=by subst e;show#[.bl k,H,I,07,q]
def Nt:fW X (fb .Eq) Nq:=by
 intro Z s U H x y v u Q I C k h;let#[B,q]:=h;cases x with
 |ah=>cases C;cases y with|ah=>cases k;show PySem.EqNone.eq_none_none<|JG I q 03|bl j=>cases k;show PySem.EqNone.eq_none_bool<|JG I q 03|int j=>let#[m,rfl]:=k;show PySem.EqNone.eq_none_int<|JG I q 03|str j=>let#[m,rfl]:=k;show PySem.EqNone.eq_none_str<|JG I q 03|_=>show absurd (show Zo=Zl from B) Zx
 |bl i=>cases C;cases y with|ah=>cases k;show PySem.EqNone.eq_bool_none<|JG I q 03|bl j=>cases k;show eq_bool<|JG I q EW|str j=>let#[m,rfl]:=k;show PySem.EqMixed.eq_bool_str<|JG I q 03|_=>show absurd (show Zo=Zl from B) Zx
 |int i=>let#[t,rfl]:=C;cases y with|ah=>cases k;show PySem.EqNone.eq_int_none<|JG I q 03|int j=>let#[m,rfl]:=k;show eq_int<|JG I q EV|str j=>let#[m,rfl]:=k;show PySem.EqMixed.eq_int_str<|JG I q 03|_=>show absurd (show Zo=Zl from B) Zx
 |str i=>let#[t,rfl]:=C;cases y with|ah=>cases k;show PySem.EqNone.eq_str_none<|JG I q 03|bl j=>cases k;show PySem.EqMixed.eq_str_bool<|JG I q 03|int j=>let#[m,rfl]:=k;show PySem.EqMixed.eq_str_int<|JG I q 03|str j=>let#[m,rfl]:=k;show eq_str<|JG I q EX|_=>show absurd (show Zo=Zl from B) Zx
 |i8 i=>let#[t,rfl]:=C;cases y with|i8 j=>let#[m,rfl]:=k;show W.eq_bytes<|JG I q EY|_=>show absurd (show Zo=Zl from B) Zx
 |_=>cases y<;>show absurd (show Zo=Zl from B) Zx
def Nu:fW X (fb .NotEq) Nr:=by
 intro Z s U H x y v u Q I C k h;let#[B,q]:=h;cases x with
 |ah=>cases C;cases y with|ah=>cases k;show PySem.EqNone.ne_none_none<|JG I q 03|bl j=>cases k;show PySem.EqNone.ne_none_bool<|JG I q 03|int j=>let#[m,rfl]:=k;show PySem.EqNone.ne_none_int<|JG I q 03|str j=>let#[m,rfl]:=k;show PySem.EqNone.ne_none_str<|JG I q 03|_=>show absurd (show Zo=Zl from B) Zx
 |bl i=>cases C;cases y with|ah=>cases k;show PySem.EqNone.ne_bool_none<|JG I q 03|bl j=>cases k;show ne_bool<|JG I q<|congrArg not EW|str j=>let#[m,rfl]:=k;show PySem.EqMixed.ne_bool_str<|JG I q 03|_=>show absurd (show Zo=Zl from B) Zx
 |int i=>let#[t,rfl]:=C;cases y with|ah=>cases k;show PySem.EqNone.ne_int_none<|JG I q 03|int j=>let#[m,rfl]:=k;show ne_int<|JG I q<|congrArg not EV|str j=>let#[m,rfl]:=k;show PySem.EqMixed.ne_int_str<|JG I q 03|_=>show absurd (show Zo=Zl from B) Zx
 |str i=>let#[t,rfl]:=C;cases y with|ah=>cases k;show PySem.EqNone.ne_str_none<|JG I q 03|bl j=>cases k;show PySem.EqMixed.ne_str_bool<|JG I q 03|int j=>let#[m,rfl]:=k;show PySem.EqMixed.ne_str_int<|JG I q 03|str j=>let#[m,rfl]:=k;show ne_str<|JG I q<|congrArg not EX|_=>show absurd (show Zo=Zl from B) Zx
 |i8 i=>let#[t,rfl]:=C;cases y with|i8 j=>let#[m,rfl]:=k;show W.ne_bytes<|JG I q<|congrArg not EY|_=>show absurd (show Zo=Zl from B) Zx
 |_=>cases y<;>show absurd (show Zo=Zl from B) Zx
def Nv:fW X (fb .Lt) (oP λi j=>.bl<|decide (i<j)):=(m6 λ_ _ _ _ _ _ _ q=>lt_int q)
def Nw:fW X (fb .LtE) (oP λi j=>.bl<|decide (i<=j)):=(m6 λ_ _ _ _ _ _ _ q=>le_int q)
def Ny:fW X (fb .Gt) (oP λi j=>.bl<|decide (j<i)):=(m6 λ_ _ _ _ _ _ _ q=>gt_int q)
def Nz:fW X (fb .GtE) (oP λi j=>.bl<|decide (j<=i)):=(m6 λ_ _ _ _ _ _ _ q=>ge_int q)
def NA:fW X (fb .Lt) (λx y H Q=>∃i j,x=.str i/\y=.str j/\Q (.bl<|decide (i.1.1<j.1.1)) H):=by intro Z s U H x y v u Q I k m h;let#[i,j,rfl,rfl,q]:=h;let#[t,rfl]:=k;let#[B,rfl]:=m;show lt_str<|JG I q 07
def zO(K:W.Frag)(x:bA)(H:Hp)(k:Bool):Prop:=match x with|.ah=>k=Zo|.bl b=>k=b|.int i=>k=(i != 0)|.str y=>y.length<=sizeLine/\k=((y.length:Int) != 0)|.i8 y=>y.size<=sizeLine/\k=((y.size:Int) != 0)|.ref p=>(∃xs,bZ K H p xs/\k=!xs.isEmpty)\/(∃xs,eL K H p xs/\k=!xs.isEmpty)\/∃kvs,H p=V (.dK kvs)/\k=!kvs.isEmpty|_=>False
def NB(r:KV kvs vs):(!vs.isEmpty)=!kvs.isEmpty:=by cases r<;>rfl
def EZ(r:Vals xs its):(!its.toArray.isEmpty)=!xs.isEmpty:=by cases r<;>simp
def Xq:(sizeLine:Nat)<2^63:=by rw[j3];decide
def Xa:tu X (λx H Q=>∃k,zO X.K x H k/\Q k H):=by
 intro Z s U H x v Q I B h;let#[k,e,q]:=h;let L:=Xq;let M:=j3;cases x with
 |ah=>cases B;let j:k=Zo:=e;subst j;show truthy_none #[H,I,q]
 |bl b=>cases B;let j:k=b:=e;subst j;show ph #[H,I,q]
 |int i=>let#[t,rfl]:=B;let j:k=(i != 0):=e;subst j;show PySem.P.truthy_int #[H,I,q]
 |str y=>let#[t,rfl]:=B;obtain⟨G,j⟩:y.length<=sizeLine/\k=((y.length:Int) != 0):=e;subst j;show PySem.P.truthy_str 05 #[H,I.tok _,q]
 |i8 y=>let#[t,rfl]:=B;obtain⟨G,j⟩:y.size<=sizeLine/\k=((y.size:Int) != 0):=e;subst j;show W.truthy_bytes (kr 06) #[H,I.tok _,q]
 |ref p=>
  cases B;let j:=e;rcases j with⟨xs,C,j⟩|⟨xs,C,j⟩|⟨kvs,C,j⟩
  .subst j;let#[E,r,pl,F]:=I.list C;let u:=r.length;show wpAny_truthy_list pl.isList (by simp![ZV];lia) #[H,I.tok _,by rw[EZ r];show q]
  .subst j;let#[E,r,pl,F]:=I.tuple C;let u:=r.length;show truthy_tuple pl (by simp![ZV];lia) #[H,I.tok _,by rw[EZ r];show q]
  .subst j;obtain⟨F,J,D,r,m⟩:WP kvs<=sizeLine/\(p==oq)=Zo/\∃D,KV kvs D/\s.1.DictOf (Vy X.1 X.w) p D:=I.aw p _ C;let u:=zx r;show wpAny_truthy_dict J m 05 #[H,I.tok _,by rw[NB r];show q]
 |_=>show Zf e
def NC:fW X (f7 .Add) (λx y H Q=>∃i j,x=.str i/\y=.str j/\i.length+j.length<=sizeLine/\Q (.str<|i++j) H):=by intro Z s U H x y v u Q I m B h;let#[i,j,rfl,rfl,C,q]:=h;let#[t,rfl]:=m;let#[k,rfl]:=B;show add_str (λk D=>#[.str<|i++j,H,I.tok _,#[_,07],q]) C
def QC(r:Vals [x] us):∃u,us=[u]/\RelV x u:=by cases r with|cons k j=>cases j;show#[_,07,k]
def E0(r:Vals [x,y] us):∃u j,us=[u,j]/\RelV x u/\RelV y j:=by
 cases r with|cons m B=>cases B with|cons C k=>cases k;show#[_,_,07,m,C]
def ND(B:X.15=Zl):Xy X (.builtin "max") (λxs H Q=>∃i j,xs=[.int i,.int j]/\Q (.int (if j>i then j else i)) H):=by
 intro Z s U H xs G Q I r h;let#[i,j,rfl,q]:=h;let#[u,F,rfl,#[t,rfl],#[C,rfl]]:=E0 r;refine ML (I.cA B) λD E k=>#[_,H,I.kept k,?_,q]
 by_cases m:j>i
 .rw[if_pos m,if_pos m];show#[_,07]
 .rw[if_neg m,if_neg m];show#[_,07]
def NF(B:X.15=Zl):Xy X (.builtin "min") (λxs H Q=>∃i j,xs=[.int i,.int j]/\Q (.int (if j<i then j else i)) H):=by
 intro Z s U H xs G Q I r h;let#[i,j,rfl,q]:=h;let#[u,F,rfl,#[t,rfl],#[C,rfl]]:=E0 r;refine MM (I.cA B) λD E k=>#[_,H,I.kept k,?_,q]
 by_cases m:j<i
 .rw[if_pos m,if_pos m];show#[_,07]
 .rw[if_neg m,if_neg m];show#[_,07]
def zP(K:W.Frag)(x:bA)(H:Hp)(n:Nat):Prop:=match x with|.str y=>y.length<=sizeLine/\n=y.length|.i8 y=>y.size<=sizeLine/\n=y.size|.ref p=>(∃xs,bZ K H p xs/\n=WP xs)\/∃xs,eL K H p xs/\n=WP xs|_=>False
def vS:Xy X (.builtin "len") (λxs H Q=>∃x n,xs=[x]/\zP X.K x H n/\Q (.int n) H):=by
 intro Z s U H xs L Q I r h;let#[x,n,rfl,e,q]:=h;let#[u,rfl,B]:=QC r;let J:=Xq;let G:=j3;cases x with
 |str y=>let#[t,rfl]:=B;obtain⟨F,k⟩:y.length<=sizeLine/\n=y.length:=e;subst k;show len_str 05 #[.int _,H,I.tok _,#[_,07],q]
 |i8 y=>let#[t,rfl]:=B;obtain⟨F,k⟩:y.size<=sizeLine/\n=y.size:=e;subst k;show W.len_bytes (kr 06) #[.int _,H,I.tok _,#[_,07],q]
 |ref p=>
  cases B;let k:=e;rcases k with⟨xs,m,k⟩|⟨xs,m,k⟩
  .subst k;let#[D,C,pl,E]:=I.list m;let j:=C.length;show Calls.call_len_list pl.isList (by simp;lia) #[.int (WP xs),H,I.tok _,#[_,by simp![ZV];rw[j]],q]
  .subst k;let#[D,C,pl,E]:=I.tuple m;let j:=C.length;show len_tuple pl (by simp;lia) #[.int (WP xs),H,I.tok _,#[_,by simp![ZV];rw[j]],q]
 |_=>show Zf e
end
structure jw(h:bu)(x dx C:ZF)(mA:Str->Tb):Prop where
 obj:h.get? x=V (W.instObj C dx)
 ns:h.Ns1 dx mA
 ne:dx≠x
def NG{h:bu}(n:h.Ns1 dx mA):∃od,h.get? dx=V od/\∀name,W.lookIn name od=V (mA name):=by
 let#[o,k,C,ho,hd,u,_,hm]:=n;calc#[o,ho,λname=>?_];let e:=hm name;unfold nsFind findBy at e;rw[<-zh]at e;unfold W.lookIn;rw[hd];dsimp only;split
 .simp_all
 .rename_i q;rw[q]at e;let a:k.1.any (·.refKey)=Zo:=by rw[List.any_eq_false];intro y m;let#[z,t,j]:=u y<|Array.mem_toList_iff.1 m;simp[DictEntry.refKey,j]
  let B:¬k.1.any (·.refKey)=Zl:=by rw[a];show Zx
  rw[if_neg B];show congrArg V e
theorem jw.look(I:jw h x dx C mA):∃od,W.InstAt h x (W.instObj C dx) C (V od)/\∀name,W.lookIn name od=V (mA name):=
 let ⟨od,ho,j⟩:=NG I.2
 #[od,#[I.1,07,07,ho],j]
section
variable{prog:cy}{w:bV}{A:cz}{E:aQ}{s:Z5}{K:W.Frag}{x dx C f:ZF}{mA:Str->Tb}{name:Str}{v:Zv}
def NH(X:K.In s.1)(I:jw s.1 x dx C mA)(k:W.plainGet K C name=Zl)(B:W.hasDictIn K C=Zl) (ha:W.findIn K (.ref C) name=V Zg)(m:mA name=V v)(j:W.handedIn v=Zl)(h:Q v {s with toks:=s.4+1}):Z0 (ZA prog w) A (getAttr (.ref x) name expr) Q E s:=by let#[F,D,u]:=I.look;show W.get_value X D (W.plainGet_of k).1 (W.findObj_own B ha 07 (by rw[u,m])) j h
def NI(X:K.In s.1)(I:jw s.1 x dx C mA)(j:W.plainGet K C name=Zl) (F:W.findIn K (.ref C) name=V (V<|.ref f))(k:W.isFn K (.ref f)=Zl)(u:mA name=Zg)(h:Q (.ref f,[.ref x]) s):Z0 (ZA prog w) A (pA (.ref x) name pl) Q E s:=by let#[D,B,m]:=I.look;show W.method_fn X B (W.plainGet_of j).1 (W.plainGet_of j).2 F (beq_iff_eq.1 k) (by change(W.lookIn name D).map (·.isSome)=V Zo;rw[m,u];rfl) h
def NJ(X:K.In s.1)(I:jw s.1 x dx C mA) (hs:W.findIn K (.ref C) "__setattr__"=V (V<|.builtin "object.__setattr__"))(hp:W.plainOver K C=Zl)(J:W.takerIn K C name=V Zg)(O:W.hasDictIn K C=Zl) (L:yO mA ns)(hsz:WP ns<=sizeLine) (h:∀h',jw h' x dx C (λy=>if y=name then V v else mA y)->mX dx s.1 h'->Q () {s with heap:=h',toks:=s.4+2}):Z0 (ZA prog w) A (setAttr (.ref x) name v) Q E s:=by
 let#[R,F,U]:=I.look;refine W.set_plain X F hs<|W.osa_open (r:=Zg) X F hp J λb=>?_
 let#[cd,P,m]:=W.any_some O;let G:=I.1;calc Ze<|Zs<|Ze<|Ze<|yM G<|Ze<|W.Looks.here (W.looks_clsIn X P) ?_;rw[m];calc Zs (a:=V dx)<|Ze<|Zs<|Ze ?_;refine wpAny_nsSet1 I.2 λh' k j=>?_
 let#[S,M,H,B,u,D]:=k.count<|PySem.Within.cons name v L;calc Ze (wpAny_lookBehind B (by rw[u];show pastItsLine_dict<|Zb D<|by rw[jj];show mO 06) ?_);show Zs<|h _ #[(j.2 _<|bP I.3).trans I.1,k,I.3] j
def NK(X:K.In s.1)(hm:W.makesIn K C=Zl) (hi:W.findIn K (.ref C) "__init__"=V (V<|.ref f))(j:W.typeIn K (.ref f)=V (.type "function")) (h:i1 (ZA prog w) (A.under<|.builtin "type.__call__" #[.ref C::vs,kw]) (.call (.ref f) #[.ref (s.1.1.size+1)::vs,kw]) (W.InitBack (s.1.1.size+1) R) {s with heap:=(s.1.push W.emptyDict).push (W.instObj C s.1.1.size)}):i1 (ZA prog w) A (.call (.ref C) #[vs,kw]) R s:=by let#[k,g,d,t,os]:=s;show W.make_core (W.makes_of X hm) (W.looks_findIn X hi) (λself=>W.bind_fn X self j) (.inl 07) h
end
noncomputable def cS (f:Str)(v:bA):Wu->Wu|[]=>[(f,v)]|(g,x)::r=>if g=f then(g,v)::r else(g,x)::cS f v r
theorem E2(f g)(v):∀fs:Wu,(cS f v fs).lookup g=if g=f then V v else fs.lookup g
 |[]=>by
  change qS g [(f,v)]=_;by_cases h:g=f
  .simp_all
  .simp_all
 |(k,x)::r=>by
  let u:=E2 f g v r;rw[show cS f v ((k,x)::r)=(if k=f then(k,v)::r else(k,x)::cS f v r)from 07];by_cases m:k=f
  .rw[if_pos m];by_cases h:g=k
   .simp_all
   .let j:(g==k)=Zo:=beq_eq_false_iff_ne.2 h;simp![qS,j,if_neg λe:g=f=>h<|e.trans m.symm]
  .rw[if_neg m];by_cases h:g=k
   .simp_all
   .let j:(g==k)=Zo:=beq_eq_false_iff_ne.2 h;simp![qS,j];show u
theorem zQ(f)(v):∀fs:Wu,f∈(cS f v fs).map (·.1)/\∀g,g∈fs.map (·.1)->g∈(cS f v fs).map (·.1)
 |[]=>#[by simp[cS],λg h=>by simp at h]
 |(k,x)::r=>by
  let#[u,j]:=zQ f v r;rw[show cS f v ((k,x)::r)=(if k=f then(k,v)::r else(k,x)::cS f v r)from 07];by_cases m:k=f
  .simp_all
  .rw[if_neg m];refine#[?_,λg h=>?_]
   .simp_all
   .rw[ZS]at h ⊢;rcases ZG.1 h with e|e
    .show ZG.2<|.inl e
    .show Zq _<|j g e
theorem E3(f)(v):∀fs:Wu,(cS f v fs).length<=WP fs+1
 |[]=>by simp[cS]
 |(k,x)::r=>by
  let j:=E3 f v r;rw[show cS f v ((k,x)::r)=(if k=f then(k,v)::r else(k,x)::cS f v r)from 07];by_cases m:k=f
  .simp_all
  .simp_all
def dE.some_of(r:dE (V v) o):∃u,o=V u/\RelV v u:=by
 cases o with
 |none=>show(r).elim
 |some u=>show#[u,07,r]
def dE.none_of(r:dE Zg o):o=Zg:=by cases o with|none=>rfl|some u=>show(r).elim
def NL(r:RelV v u):W.handedIn u=Zl:=by cases v with|ah=>cases (r);rfl|bl b=>cases (r);rfl|int i=>let#[t,e]:=(r);cases e;rfl|str x=>let#[t,e]:=(r);cases e;rfl|i8 b=>let#[t,e]:=(r);cases e;rfl|vM b=>let#[t,e]:=(r);cases e;rfl|ref a=>cases (r);rfl|ty n=>cases (r);rfl
section
variable{P:cy}{w:bV}{H H':Hp}{h h':bu}{a C dx:ZF}{fs fs':Wu}
def vT(aw:c8 P w H h)(e:H a=V (.ins C dx fs)):∃mA,jw h a dx C mA/\(∀f,dE (fs.lookup f)<|mA f)/\yO mA (fs.map (·.1))/\WP fs<=1000/\H dx=V (.own a):=by let#[d,z,ne,ob,mA,n,r,q]:=(aw a _ e);show#[mA,#[ob,n,ne],r,q,z,d]
end
structure mB(K:W.Frag)(C:ZF):Prop where
 pg:W.plainGet K C i5=Zl
 hd:W.hasDictIn K C=Zl
 po:W.plainOver K C=Zl
 sa:W.findIn K (.ref C) "__setattr__"=V (V<|.builtin "object.__setattr__")
def mB.get{K:W.Frag}(c:mB K C)(f):W.plainGet K C f=Zl:=(c.1)
def Vr(K:W.Frag)(C:ZF)(f:Str):Prop:=W.findIn K (.ref C) f=V Zg
def Vr.tx{K:W.Frag}(n:Vr K C f):W.takerIn K C f=V Zg:=by unfold W.takerIn;rw[show W.findIn K (.ref C) f=V Zg from n];rfl
structure Meth(K:W.Frag)(C:ZF)(m:Str)(f:ZF):Prop where
 at_:W.findIn K (.ref C) m=V (V<|.ref f)
 fn:W.isFn K (.ref f)=Zl
 kp:W.keepIn K (.ref f)=Zl
section
variable{X:Cx}{Z:aZ}{U:St}{H:Hp}{s:Z5}{a C dx:ZF}{fs:Wu}{f:Str}{v:bA}{A:cz}{E:aQ}
def E4(I:Inv X Z U H s)(e:H a=V (.ins C dx fs))(c:mB X.K C)(n:Vr X.K C f)(l:fs.lookup f=V v) (h:∀u s',Inv X Z U H s'->RelV v u->Q u s'):Z0 (ZA X.1 X.w) A (getAttr (.ref a) f b) Q E s:=by
 let#[B,m,r,_,_,_]:=vT I.aw e;let#[u,k,j]:=dE.some_of<|by rw[<-l];show r f
 show NH I.cO m (c.get f) c.2 n k (NL j)<|h u _ (I.tok _) j
def E5(I:Inv X Z U H s)(e:H a=V (.ins C dx fs))(c:mB X.K C)(k:Meth X.K C m g)(l:fs.lookup m=Zg) (h:Q (.ref g,[.ref a]) s):Z0 (ZA X.1 X.w) A (pA (.ref a) m pl) Q E s:=by
 let#[u,j,r,_,_,_]:=vT I.aw e;let hn:=dE.none_of<|by rw[<-l];show r m
 show NI I.cO j (c.get m) k.1 k.2 hn h
def E6(I:Inv X Z U H s)(e:H a=V (.ins C dx fs))(c:mB X.K C)(n:Vr X.K C f)(P:WP fs<1000)(F:RelV y u) (h:∀s',Inv X Z U (upd H a<|.ins C dx<|cS f y fs) s'->Q () s'):Z0 (ZA X.1 X.w) A (setAttr (.ref a) f u) Q E s:=by
 let#[m,k,r,B,_,ho]:=vT I.aw e;let L:(fs.map (·.1)).length<=sizeLine:=by rw[Zn,j3];show kr 06
 refine NJ I.cO k c.4 c.3 n.tx c.2 B L λD j J=>h _ ?_
 let hd:∃o,D.get? dx=V o:=let ⟨o,_,_,M,_⟩:=j.2;#[o,M];calc I.write (by rw[e];show eW) (.inr ho) (λb q G z=>(J.2 b G).trans z) hd ?_;refine#[by rw[Jq k.3];show ho,?_,k.3,j.1,_,j.2,λg=>?_,λg O=>?_]
 .let:=E3 f y fs;show Zb this P
 .change dE ((cS f y fs).lookup g) (if g=f then V u else m g);rw[E2];by_cases q:g=f
  .rw[if_pos q,if_pos q];show F
  .simp_all
 .by_cases q:g=f
  .rw[q];show(zQ f y fs).1
  .calc(zQ f y fs).2 g (B g λz=>O ?_);change(if g=f then V u else m g)=Zg;rw[if_neg q];show z
def Inv.made(I:Inv X Z U H s):Inv X Z U (upd (upd H s.1.1.size<|.own<|s.1.1.size+1) (s.1.1.size+1)<|.ins C s.1.1.size []) {s with heap:=(s.1.push W.emptyDict).push (W.instObj C s.1.1.size)}:=by
 let j:(s.1.push W.emptyDict).get? s.1.1.size=V W.emptyDict:=Zw s.1 07;let D:((s.1.push W.emptyDict).push<|W.instObj C s.1.1.size).get? (s.1.1.size+1)=V (W.instObj C s.1.1.size):=by let:=Zw (s.1.push W.emptyDict) (o:=W.instObj C s.1.1.size) 07;rwa [oA]at this
 let m:(s.1.push W.emptyDict).Ns s.1.1.size (λ_=>Zg):=#[W.emptyDict,#[],_,j,07,(λe k=>absurd k 03),λ_=>07];let I1:=I.laid (o:=.own<|s.1.1.size+1) (t':=s.4) (λb u q=>Zj _ q) (Zm _) #[_,j];calc I1.laid (λb u q=>Zj _ q) (Zh<|oA _ _) ?_;let ne:s.1.1.size≠s.1.1.size+1:=Zu<|ZZ _;calc#[by rw[Jq ne,Jz],ZX _,ne,D,λ_=>Zg,(Heap.Ns1.of_empty m).at λo q=>Zj _ q,λ_=>eW,λy B=>absurd 07 B]
def E7(j:qV e f env (bj e env)=bj e env) (h:Z0 (ZA prog w) A (bj e env) (λo s₁=>Z0 (ZA prog w) A (getAttr o f Zl) Q E s₁) E s):Z0 (ZA prog w) A (bj (.Attribute e f pos) env) Q E s:=(Attribute_any_ h (by rw[arm_eval_Attribute,j]))
end
structure bJ(κ:Bool)(k:Nat)(A:cz):Prop where
 hd:κ=Zl->A.1=Zg
 dp:A.2+3*k+5<recursionLimit
 un:A.5+16*k+200<cLine
def bJ.mono(r:bJ κ k A)(h:j<=k):bJ κ j A:=(#[r.1,by let:=r.2;lia,by let:=r.3;lia])
def bJ.deeper(r:bJ κ (k+1) A)(env):bJ κ k (A.deeper env):=(#[r.1,by let:=r.2;change A.2+1+3*k+5<_;lia,by let:=r.3;change A.5+3+16*k+200<_;lia])
def bJ.in1(r:bJ κ (k+1) A):bJ κ k A.in1:=(#[r.1,by let:=r.2;change A.2+3*k+5<_;lia,by let:=r.3;change A.5+1+16*k+200<_;lia])
theorem NM{A:cz}:(A.under<|.builtin "type.__call__" #[.ref C::us,kw]).2=A.2+1:=rfl
def NN{A:cz}:(A.under<|.builtin "type.__call__" #[.ref C::us,kw]).5=A.5+1:=by first|rfl|simp
def bJ.make(r:bJ κ (k+1) A)(C)(us)(kw):bJ κ k (A.under<|.builtin "type.__call__" #[.ref C::us,kw]):=(#[r.1,by let:=r.2;rw[NM];lia,by let:=r.3;rw[NN];lia])
def bJ.depth(r:bJ κ k A):A.2<recursionLimit:=by let:=r.2;show Zb (Zi _ 5)<|Zb (Zc (Zc (Zi _ _) 1) 5) this
def bJ.units(r:bJ κ k A):A.5+64<cLine:=by let:=r.3;show Zb (Zi _ 136)<|Zb (Zc (Zc (Zi _ _) 65) 136) this
abbrev Sp:=Ub->Hp->VK->XK->Prop
abbrev tB:=Tk->Hp->Z5->XK->aQ
structure jx(P:cy)(w:bV)(K:W.Frag)(mg:Str->Tb)(base:bu)(A:cz)(outer:Tk)(s:Z5)(H:Hp):Prop where
 frames:A.3=V outer
 mod:Mod K mg base
 bs:∀b o,base.get? b=V o->s.1.get? b=V o/\H b=Zg
 kI:base.1.size<=s.1.1.size
 dF:s.1.FunFrames base outer
 mz:∀b∈eK outer,H b=Zg
 aw:c8 P w H s.1
 bare:mq s.2
 cA:Qv A H
def CE(outer:Tk)(P:cy)(w:bV)(H:Hp)(s:Z5)(Q:VK)(u:Zv)(s':Z5):Prop:=∃v H',s'.5=s.5/\mq s'.2/\Un (eK outer) [] H H' s.1 s'.1/\c8 P w H' s'.1/\RelV v u/\Q v H'
def CR(CX:tB)(outer:Tk)(P:cy)(w:bV)(H:Hp)(s:Z5)(Q:VK)(E:XK)(r:rh)(s':Z5):Prop:=match r with|.ok (.ret u)=>CE outer P w H s Q u s'|.ok _=>False|.error e=>CX outer H s E e s'
structure bW(P:cy)(w:bV)(K:W.Frag)(mg:Str->Tb)(base:bu)(CX:tB)(κ:Bool)(k:Nat)(f:ZF)(fd:jm)(ps:Tj)(sp:Sp):Prop where
 len:∀vs H Q E,sp vs H Q E->WP vs=WP ps
 run:∀(A:cz)(outer:Tk)(s:Z5)(H:Hp)(args:Args)(us:Tu)(vs:Ub)(Q:VK)(E:XK),bJ κ k A->jx P w K mg base A outer s H->rf s fd args (ps.zip us)->Vals vs us->sp vs H Q E ->i1 (ZA P w) A (.call (.ref f) args) (CR CX outer P w H s Q E) s
def bW.imp{K:W.Frag}(F:bW P w K mg base CX κ k f fd ps sp) (h:∀vs H Q E,sp' vs H Q E->sp vs H Q E):bW P w K mg base CX κ k f fd ps sp':=(#[λvs H Q E q=>F.1 vs H Q E<|h _ _ _ _ q,λA outer s H j B vs Q E u m G D C=>F.2 A outer s H j B vs Q E u m G D<|h _ _ _ _ C])
def jx.make{K:W.Frag}(e:jx P w K mg base A outer s H)(C)(us)(kw):jx P w K mg base (A.under<|.builtin "type.__call__" #[.ref C::us,kw]) outer s H:=(#[by first|show e.1|(simpa[Around.under,Code.envs,Code.isFrame,pushEnvs]using e.frames),e.2,e.3,e.4,e.5,e.6,e.7,e.8,e.9])
section
variable{X:Cx}{Z:aZ}{U:St}{H:Hp}{s s':Z5}
def Inv.pP(I:Inv X Z U H s)(j:Qv X.A H):jx X.1 X.w X.K X.4 X.5 X.A X.12 s H:=(#[I.1.10,I.1.1,I.bs,Zb I.1.kI I.sz,I.stack,I.dP,I.aw,I.3,j])
def Inv.after(I:Inv X Z U H s)(h:CE X.12 X.1 X.w H s Q u s'):EP X Z U Q u s':=by let#[v,k,os,bare,un,aw,r,q]:=h;let#[m,g,d,t,j]:=s';obtain rfl:j=s.5:=os;show#[v,k,I.call un aw bare λb z=>absurd z 03,r,q]
end
def Qe(K:W.Frag)(fd:jm)(ps:Tj)(ds:Tu):Prop:=∀(s:Z5)(us:Tu),K.In s.1->(us++ds).length=WP ps->rf s fd #[us,[]] (ps.zip<|us++ds)
def Qe.all{K:W.Frag}(h:∀us:Tu,WP us=WP ps->sN fd #[us,[]]=pure (ps.zip us)):Qe K fd ps []:=(λs us _ j=>by rw[iC]at j ⊢;show .of_eq<|h us j)
section
variable{X:Cx}{CX:tB}{k:Nat}{f C:ZF}{fd:jm}{ps:Tj}{sp:Sp}{aS:Ub}{ds:Tu}{E:XK}{x m:Str}{p pos apos:Pos}{e o:Expr}{es:Td}{ta:TE}{t:TA}
structure Mk(K:W.Frag)(C f:ZF):Prop where
 makes:W.makesIn K C=Zl
 init:W.findIn K (.ref C) "__init__"=V (V<|.ref f)
 fn:W.isFn K (.ref f)=Zl
 kp:W.keepIn K (.ref C)=Zl
end
structure dQ(N P:Tj)(sc:fg):Prop where
 kind:sc.1=.function
 co:sc.4=Zo
 gen:sc.3=Zo
 nd:N.Nodup
 pre:N.take (WP P)=P
 par:∀x∈P,sc.2.lookup x=V .local\/sc.2.lookup x=V .cell
 pQ:∀y∈sc.2,y.2≠.free
theorem E8{kindOf:Str->Wy}:∀{binds:Wn}{m:Str->Tb},(∀v,(x,v)∉binds)->bindL kindOf binds m x=m x
 |[],_,_=>07
 |(n,v)::r,m,h=>by
  unfold bindL;rw[E8 λw j=>h w<|Zq _ j];split
  .let:x≠n:=by rintro rfl;show h v Z2
   simp[this]
  .rfl
theorem E9{kindOf:Str->Wy}:∀{binds:Wn}{m:Str->Tb},(∀v,(x,v)∉binds)->bindC kindOf binds m x=m x
 |[],_,_=>07
 |(n,v)::r,m,h=>by
  unfold bindC;rw[E9 λw j=>h w<|Zq _ j];split
  .rfl
  .let:x≠n:=by rintro rfl;show h v Z2
   simp[this]
theorem Fb{kindOf:Str->Wy}:∀{P:Tj}{vs:Tu}{i:Nat}{m:Str->Tb},P.Nodup->P[i]?=V x->vs[i]?=V v->kindOf x=V .local ->bindL kindOf (P.zip vs) m x=V v
 |[],_,_,_,_,h,_,_=>by simp at h
 |_::_,[],_,_,_,_,h,_=>by simp at h
 |p::P,w::vs,0,m,nd,h1,J,hk=>by simp at h1 J;subst h1;subst J;change bindL kindOf ((p,w)::P.zip vs) m p=_;unfold bindL;rw[E8 λv j=>(mT.1 nd).1 (yF j).1,if_pos hk];simp
 |p::P,w::vs,i+1,m,nd,h1,J,hk=>by unfold bindL;show Fb (i:=i) (mT.1 nd).2 (by simpa using h1) (by simpa using J) hk
theorem Fc{kindOf:Str->Wy}:∀{P:Tj}{vs:Tu}{i:Nat}{m:Str->Tb},P.Nodup->P[i]?=V x->vs[i]?=V v->kindOf x≠V .local ->bindC kindOf (P.zip vs) m x=V v|[],_,_,_,_,h,_,_=>by simp at h|_::_,[],_,_,_,_,h,_=>by simp at h|p::P,w::vs,0,m,nd,h1,J,hk=>by simp at h1 J;subst h1;subst J;change bindC kindOf ((p,w)::P.zip vs) m p=_;unfold bindC;rw[E9 λv j=>(mT.1 nd).1 (yF j).1,if_neg hk];simp|p::P,w::vs,i+1,m,nd,h1,J,hk=>by unfold bindC;show Fc (i:=i) (mT.1 nd).2 (by simpa using h1) (by simpa using J) hk
noncomputable def start (N:Tj)(vs:Ub):St:=vs.map V++d8 (WP N-WP vs) Zg
noncomputable def j4 (CX:tB)(P:cy)(w:bV)(K:W.Frag)(mg:Str->Tb)(base:bu)(N:Tj)(qual:Str)(scope:fg)(f:ZF)(cd:Zv)(A:cz)(outer:Tk)(s:Z5)(H:Hp)(E:XK):Cx where
 prog:=P
 w:=w
 K:=K
 mg:=mg
 base:=base
 A:=A.deeper<|mZ qual scope s.1.1.size f cd
 N:=N
 s₀:=s
 H₀:=H
 env:=mZ qual scope s.1.1.size f cd
 outer:=outer
 stack:=mZ qual scope s.1.1.size f cd::outer
 ex:=[]
 calm:=Zl
 fn:=λ_=>Zl
 pn:=[]
 xe:=λe s'=>Z0 (ZA P w) (A.deeper<|mZ qual scope s.1.1.size f cd) (leaving (mZ qual scope s.1.1.size f cd) e) (λ_ s''=>CX outer H s E e s'') (λe' s''=>CX outer H s E e' s'') s'
def Fd{sc:fg}(h:sc.2.lookup x=V .cell):∃c,(cellsFrom n sc.2 []).lookup x=V c:=by let q:=W.cellsFrom_some sc.2 n []<|.inl h;show oZ.1 q
def NO{K:W.Frag} (S:dQ N ps scope)(j:jx P w K mg base A outer s H)(M:WP vs=WP ps)(r:Vals vs us) (x:InCallC s s.1.1.size (bindL (mZ qual scope s.1.1.size f cd).kindOf (ps.zip us) λ_=>Zg) (cellsFrom (s.1.1.size+1) scope.2 []) (bindC (mZ qual scope s.1.1.size f cd).kindOf (ps.zip us) λ_=>Zg) s1):Inv (j4 CX P w K mg base N qual scope f cd A outer s H E) [] (start N vs) H s1:=by
 let G:WP ps<=WP N:=by let:=congrArg List.length S.5;rw[ic]at this;show Zb (Zh this.symm)<|kO _ _
 let#[D,Q,rfl,I]:=x.done;let iI:∀b:ZF,b∉(j4 CX P w K mg base N qual scope f cd A outer s H E).ex:=λb z=>absurd (show b∈([]:Tt)from z) 03
 refine#[#[j.2,S.1,07,07,Zm _,λy z c D J=>?_,λy m=>?_,λy c _ h=>?_,λ_=>j.9,Around.frames_deeper j.1,.inr #[07,07],λb z=>absurd z<|iI b,j.3,j.4,λb _ _=>iI b,λb z=>absurd z<|iI b,j.5,j.6],07,j.8,Un.kept I,#[_,x.1.2,λi y v D J R=>?_],λy c h=>#[_,x.2 y c h],j.7.fresh<|Zm _,λy c h=>?_,λp C=>absurd (show p∈([]:aZ)from C) 03,j.7.kept I,?_]
 .show name_of_addr x.3 (j2 D)<|j2 J
 .let m:scope.2.lookup y=V .cell\/scope.2.lookup y=V .free:=m;rcases m with m|m
  .show Fd m
  .show absurd 07 (S.7 _<|j2 m)
 .show Z7<|x.4 y c<|j2 h
 .let F:i<WP vs:=by
   unfold start at J;by_cases F:i<WP vs
   .show F
   .rw[ZL<|by simpa using F]at J;rw[uE]at J;split at J<;>cases J
  let ha:vs[i]?=V v:=by unfold start at J;rw[ZN (by simpa using F),Zz]at J;cases e:vs[i]? with|none=>rw[e]at J;cases J|some a=>rw[e]at J;cases J;rfl
  let#[u,L,O]:=r.get ha;let C:ps[i]?=V y:=by rw[<-S.5,yq<|mL 06 06];show D
  let B:ps.Nodup:=by rw[<-S.5];show S.4.sublist<|List.take_sublist _ _
  calc#[u,O,?_];rcases S.6 y (o9 C)with k|k
  .show .inl #[k,Fb B C L k]
  .let#[c,e]:=Fd (n:=s.1.1.size+1) k;calc .inr #[.inl k,c,e,?_];let q:=x.2 y c e;rw[Fc B C L (by change scope.2.lookup y≠_;rw[k];decide)]at q;show q
 .show j.7.fresh<|Z7<|x.4 y c<|j2 h
 .unfold start;change _=WP N;rw[Z1,Zn,sv];show mK<|Zb (Zh M) G
def NP{K:W.Frag}{Y kV D pm j ct oc:Zv} (lk:K.lookup f=V #[oc,od,.func<|W.fnOf name qual params body scope Y kV D pm an j ct,osl])(M:W.codeIn K j qual=Zl)(S:dQ N ps scope) (len:∀vs H Q E,sp vs H Q E->WP vs=WP ps) (hbody:∀(A:cz)(outer:Tk)(s:Z5)(H:Hp)(vs:Ub)(Q:VK)(E:XK),bJ κ k (A.deeper<|mZ qual scope s.1.1.size f j)->sp vs H Q E ->∃t,M3 (j4 CX P w K mg base N qual scope f j A outer s H E) body t/\t {nx:=λ_ H'=>Q .ah H',rt:=Q} (start N vs) H):bW P w K mg base CX κ (k+1) f (W.fnOf name qual params body scope Y kV D pm an j ct) ps sp:=by
 calc#[len,λA outer s H Z us vs Q E U G hb r F=>?_];let hl:=len _ _ _ _ F;let X:K.In s.1:=G.2.1.keeps λb o e=>(G.3 b o e).1
 let O:s.1.NoLimit:=G.2.4.keeps λb o e=>(G.3 b o e).1
 let B:∀y∈ps.zip us,scope.2.lookup y.1=V .local\/(scope.2.lookup y.1=V .cell/\((cellsFrom (s.1.1.size+1) scope.2 []).lookup y.1).isSome=Zl):=λ⟨n,v⟩ hy=>by
  rcases S.6 n (yF hy).1 with q|q
  .show .inl q
  .show .inr #[q,W.cellsFrom_some _ _ _<|.inl q]
 calc codeAny_call_function U.depth (X _ _ lk) 07 S.2 S.3 07 (W.codeRec_of X M) (hb _ _ _ _ ?_);refine wpAny_newFunctionEnv_cells S.1 B λenv he s1 x=>?_
 subst he;calc#[O.keeps x.1.3,codeAny_func ?_];let#[t,ht,hq]:=hbody A outer s H vs Q E (U.deeper _) F;let I:Inv (j4 CX P w K mg base N qual scope f j A outer s H E) [] (start N vs) H s1:=NO S G hl r x;refine dD (ht [] s1 (start N vs) H _ I hq) (λfl R C=>?_) λe R C=>C
 let fin:∀{J:St}{H':Hp}{v:bA}{u:Zv},Inv (j4 CX P w K mg base N qual scope f j A outer s H E) [] J H' R->RelV v u->Q v H'->CE outer P w H s Q u R:=λ{J H' v u} m L q=>#[v,H',m.2,m.3,m.4,m.aw,L,q];cases fl with|ret u=>let#[v,J,H',m,L,q]:=C;show fin m L q|next=>let#[J,H',m,q]:=C;show fin (v:=bA.ah) (u:=dO) m 07 q|brk=>let#[_,_,_,q]:=C;show i7 q|cont=>let#[_,_,_,q]:=C;show i7 q
end L2
namespace HT
open PySem PyProof.Rows
section
variable{prog:cy}{w:bV}{A:cz}{E:aQ}{s:Z5}
def m7(L:IsTup s.1 t vs.toArray)(M:IsTup s.1 b ws.toArray)(H:vs≠[])
  (h1:ws=[]->Q (.ref t) s)(J:ws≠[]->Q (.ref s.1.1.size) {s with heap:=s.1.push {cls:=.type "tuple",data:=.seq (vs++ws).toArray} })
  (hsz:WP vs+WP ws<=sizeLine):Z0 (ZA prog w) A (f7 .Add (.ref t)<|.ref b) Q E s:=by
 let#[#[cls,I,data,F],ho,O,n,hd]:=id L;let#[#[G,k,B,m],j,C,n2,D]:=id M;subst O hd C D;let e:vs.toArray++ws.toArray=(vs++ws).toArray:=03;by_cases u:ws=[]
 .show concat_meets #[_,ho,07] #[_,j,07] noFill_tuple_add seq_tuple_add EG EE (ED _ _)
   (tuple_addW1 t b vs.toArray ws.toArray n n2 I k F m (by simpa using H)<|by simp[u]) #[ho,j,h1 u]
 .refine concat_meets #[_,ho,07] #[_,j,07] noFill_tuple_add seq_tuple_add EG EE (ED _ _)
   (tuple_addW2 t b vs.toArray ws.toArray n n2 I k F m (by simpa using H) (by simpa using u)<|by simp_all) #[ho,j,?_]
  rw[e];show J u
noncomputable def b8 (n d:Nat):Wz->Nat|none=>d|some v=>if v<0 then(v+(n:Int)).toNat else min v.toNat n
theorem kZ(n d):b8 n d Zg=d:=rfl
theorem fh(n d k:Nat):b8 n d (V (k:Int))=min k n:=rfl
def pR(n d)(hd:d<=n)(o):b8 n d o<=n:=by
 cases o with|none=>show hd|some v=>
  change(if v<0 then(v+(n:Int)).toNat else min v.toNat n)<=n;by_cases j:v<0
  .rw[if_pos j];lia
  .rw[if_neg j];show kO _ _
def Fe(v)(n d:Nat):(if v<0 then max (v+(n:Int)) 0 else min v (n:Int))=((b8 n d (V v):Nat):Int):=by
 change(if v<0 then max (v+(n:Int)) 0 else min v (n:Int))=(((if v<0 then(v+(n:Int)).toNat else min v.toNat n):Nat):Int);by_cases j:v<0
 .simp only[if_pos j];lia
 .simp only[if_neg j];lia
def NQ(lo hi)(n:Nat):zk lo hi 1 (n:Int)=(((b8 n 0 lo:Nat):Int),((b8 n n hi:Nat):Int)):=by
 let j:¬((1:Int)<0):=01;unfold zk;simp![j,if_false];refine Prod.ext ?_ ?_
 .cases lo with|none=>rfl|some v=>show Fe v n 0
 .cases hi with|none=>rfl|some v=>show Fe v n n
def NR(i j:Nat):vz (i:Int) (j:Int) 1=j-i:=by unfold vz;let k:(1:Int)>0:=ZD _;simp![k,if_true,Int.ediv_one];split<;>lia
def Ff(p:kG v o)(h:Q o s):Z0 (ZA prog w) A (Builtin.Slice.slicePartIndex v) Q E s:=by cases p with|none=>show slicePart_none h|int i t=>show slicePart_int h
def eB{lo hi:Wz}{n:Nat}(hs:s.1.IsSliceOf sl vl vu .none)(pl:kG vl lo)(m:kG vu hi) (h:Q (((b8 n 0 lo:Nat):Int),1,b8 n n hi-b8 n 0 lo) s):Z0 (ZA prog w) A (EK (.ref sl)<|pure (n:Int)) Q E s:=by let#[os,k,u,j]:=id hs;unfold EK Builtin.Slice.sliceFields;calc Ze<|Ze<|ft k j (x:=vl) 07 (Ze<|ft k j (x:=vu) 07 (Ze<|ft k j (x:=.none) 07 (Zs ?_)));calc Ze<|slicePart_none ?_;change Z0 _ _ (if ((1:Int)==0)=Zl then _ else _) _ _ s;rw[if_neg 01];calc Ze<|Ff pl<|Ze<|Ff m<|Ze<|Zs ?_;change Z0 _ _ (match zk lo hi 1 (n:Int)with|(lo,hi)=>pure (lo,(1:Int),vz lo hi 1)) _ _ s;rw[NQ lo hi n];change Z0 _ _ (pure (((b8 n 0 lo:Nat):Int),(1:Int),vz ((b8 n 0 lo:Nat):Int) ((b8 n n hi:Nat):Int) 1)) _ _ s;rw[NR];show Zs h
def k6(xs:Th)(i k:Nat):((Z6 k).filterMap λ(m:Nat)=>xs[((i:Int)+(m:Int)*1).toNat]?).toArray=((xs.1.drop i).take k).toArray:=by
 let e:(λ(m:Nat)=>xs[((i:Int)+(m:Int)*1).toNat]?)=λm=>xs[i+m]?:=by funext m;let:((i:Int)+(m:Int)*1).toNat=i+m:=(sm _ _ _).symm;rw[this]
 rw[e];let:=pick_run xs i k;rw[List.filterMap_map]at this;let j:((λx=>xs[x]?)∘λx=>i+x)=λm=>xs[i+m]?:=07
 rw[j]at this;rw[this]
end
end HT
namespace L2
open PySem PySem.Spec PyProof.Rows
section
variable{X:Cx}{e:Expr}{te:TE}{lo hi:Wv}{tl th:TO}{pos p2:Pos}
def Fg(X:Cx)(r:bA->Wz->Wz->Hp->VK->Prop):Prop:=∀(Z:aZ)(s:Z5)(U:St)(H:Hp)(x:bA)(v vl vu:Zv)(lo hi:Wz)(sl:ZF)(Q:VK),Inv X Z U H s->RelV x v->s.1.IsSliceOf sl vl vu .none->kG vl lo->kG vu hi->r x lo hi H Q ->∃T id,typeLookup (.type T) "__getitem__"=pure (V<|.builtin id)/\s.TypeIs v T/\Z0 (ZA X.1 X.w) X.A (lZ v<|.ref sl) (EP X Z U Q) X.xe s
def j5(xs:Ub)(lo hi:Wz):Ub:=(xs.drop<|HT.b8 (WP xs) 0 lo).take<|HT.b8 (WP xs) (WP xs) hi-HT.b8 (WP xs) 0 lo
def Fh(xs)(lo hi):(j5 xs lo hi).length<=WP xs:=by unfold j5;rw[ic,sx];show Zb (kO _ _)<|nU _ _
def NS(K:W.Frag):R2:=λx y H Q=>∃a b xs ys,x=.ref a/\y=.ref b/\eL K H a xs/\eL K H b ys/\xs≠[]/\WP xs+WP ys<=sizeLine /\ (ys=[]->Q (.ref a) H)/\(ys≠[]->∀p,H p=Zg->Q (.ref p) (upd H p<|.tup<|xs++ys))
def Vals.gX(r:Vals xs us):us=[]↔xs=[]:=by cases r with|nil=>simp|cons _ _=>simp
def NT:fW X (f7 .Add) (NS X.K):=by
 intro Z s U H x y v u Q I C J h;let#[a,b,xs,L,rfl,rfl,ha,E,G,m,q1,q2]:=h;cases C;cases J;let#[F,k,p1,_]:=I.tuple ha;let#[B,j,D,_]:=I.tuple E;refine HT.m7 p1 D (λz=>G<|k.gX.1 z) (λz=>#[.ref a,H,I,07,q1<|j.gX.1 z]) (λz=>?_)<|by rw[<-k.length,<-j.length];show m
 calc#[.ref s.1.1.size,_,I.laid (λb ob q=>Zj _ q) (Zm _) ?_,07,q2 (λw=>z<|j.gX.2 w) _<|I.aw.fresh<|Zm _];show#[by rw[Z1];show m,_,k.append j,IsTup.new _ _]
end
noncomputable def ik (n:Nat)(i:Int):Ta:=if 0<=i then(if i<n then V i.toNat else Zg)else if -(n:Int)<=i then V (i+n).toNat else Zg
noncomputable def bI {α:Type}(xs:List α)(i:Int):Option α:=(ik (WP xs) i).bind λj=>xs[j]?
def Fi(h:ik n i=V j):seqIndex? i n=V j/\j<n/\ -(n:Int)<=i/\i<n:=by
 unfold ik at h;by_cases m:0<=i
 .rw[if_pos m]at h;by_cases k:i<n
  .rw[if_pos k]at h;let e:=eV h;show#[by rw[sJ m k,e],05,05,k]
  .lia
 .rw[if_neg m]at h;by_cases k: -(n:Int)<=i
  .rw[if_pos k]at h;let e:=eV h;show#[by rw[yP (cN.1 m) k,e],05,k,Z8 (cN.1 m)<|jn _]
  .lia
def vU(h:bI xs i=V v):∃j,seqIndex? i (WP xs)=V j/\xs[j]?=V v/\j<WP xs/\ -(WP xs:Int)<=i/\i<WP xs:=by unfold bI at h;cases e:ik (WP xs) i with|none=>rw[e]at h;cases h|some j=>rw[e]at h;let#[u,J,m,k]:=Fi e;show#[j,u,h,J,m,k]
def Fj(b:Expr):Prop:=∀o i,u5 b Zo o i=operate [o,i] (lZ o i)
def vV(X:Cx)(r:R2):Prop:=∀(value slice:Expr)(Z:aZ)(s:Z5)(U:St)(H:Hp)(x y:bA)(v u:Zv)(Q:VK),Inv X Z U H s->RelV x v->RelV y u->r x y H Q ->u5 slice Zo v u=operate [v,u] (lZ v u)->Z0 (ZA X.1 X.w) X.A (zf value slice v u) (EP X Z U Q) X.xe s
section
variable{X:Cx}{a b:Expr}{ta tb:TE}{pos:Pos}
def zR(K:W.Frag):R2:=λx y H Q=>∃p xs i v,x=.ref p/\y=.int i/\bZ K H p xs/\bI xs i=V v/\Q v H
def zS(K:W.Frag):R2:=λx y H Q=>∃p xs i v,x=.ref p/\y=.int i/\eL K H p xs/\bI xs i=V v/\Q v H
def zT:R2:=λx y H Q=>∃z i c,x=.str z/\y=.int i/\z.length<=sizeLine/\bI z.1.1 i=V c/\Q (.str ⟨#[c]⟩) H
def Fl:vV X (zR X.K):=by
 intro C B Z s U H x y v u Q I L R h F;let#[p,xs,i,z,rfl,rfl,M,O,q]:=h;cases L;let#[t,rfl]:=R;let#[D,r,pl,hz]:=I.list M;let#[j,k,J,h3,W,S]:=vU O;let#[w,Y,E]:=r.get J;let P:=r.length;let hn:=Xq;let fin:EP X Z U Q w s:=#[z,H,I,E,q];by_cases m:0<=i
 .let G:i.toNat=j:=by rw[sJ m S]at k;show eV k
  show item_listR pl.isList m 05 (by simp_all) fin F
 .let G:(i+(D.toArray.size:Int)).toNat=j:=by rw[yP (cN.1 m) W]at k;rw[ZV,<-P];show eV k
  show ze pl.isList.typeIs slot_list_getitem.1
   (wpAny_getItem_list_neg pl.isList (cN.1 m) (by simp_all) 05 (by simp_all) #[07,fin]) F
def NU:vV X (zS X.K):=by intro m k Z s U H x y v u Q I C L h M;let#[p,xs,i,z,rfl,rfl,D,F,q]:=h;cases C;let#[t,rfl]:=L;let#[G,r,pl,P]:=I.tuple D;let#[j,O,J,R,Y,W]:=vU F;let#[w,E,B]:=r.get J;let S:=r.length;let hn:=Xq;let fin:EP X Z U Q w s:=#[z,H,I,B,q];show ze (x:=w) pl.typeIs slot_tuple_getitem.1 (getItem_tuple (j:=j) pl 05 05 (by simp_all) (by simpa using E) #[07,fin]) M
def NV:vV X zT:=by
 intro m k Z s U H x y v u Q I B G h M;let#[z,i,c,rfl,rfl,S,D,q]:=h;let#[t,rfl]:=B;let#[R,rfl]:=G;let#[j,C,J,W,O,L]:=vU D;let F:WP z.cps.toList=z.length:=by simp[Str.length]
 rw[F]at C O L;let hn:=Xq;show tail_any (typeIs_str s z t) slot_str_getitem.1 (getItem_str (by let E:decide (i< -(2^63:Int))=Zo:=decide_eq_false 05;let P:decide (i ≥ 2^63)=Zo:=decide_eq_false 05;rw[E,P,Bool.or_false]) (by simp_all) #[.str ⟨#[c]⟩,H,I.tok _,#[_,07],q]) M
def NW(its:Tu)(n j)(u):fU (·.setIfInBounds j u) {cls:=.type "list",data:=.seq its.toArray n}={cls:=.type "list",data:=.seq (its.set j u).toArray n}:=by simp[fU]
def Inv.lst(I:Inv X Z U H s)(h:H p=V (.lst xs)):∃(its:Tu) (n:Nat),Vals xs its/\s.1.get? p=V {cls:=.type "list",data:=.seq its.toArray n}/\WP xs<=sizeLine:=by let#[z,its,n,r,e]:=I.aw p _ h;show#[its,n,r,e,z]
def Inv.pS{its its':Tu}(I:Inv X Z U H s)(h:H p=V (.lst xs)) (ho:s.1.get? p=V {cls:=.type "list",data:=.seq its.toArray n})(j:f {cls:=.type "list",data:=.seq its.toArray n}={cls:=.type "list",data:=.seq its'.toArray n'})(r:Vals ys its')(k:WP ys<=sizeLine)(t):Inv X Z U (upd H p<|.lst ys) {s with heap:=s.1.update p f,toks:=t}:=by
 let e:(s.1.update p f).get? p=V {cls:=.type "list",data:=.seq its'.toArray n'}:=by rw[l8 f ho (by rw[j]<;>rfl),j]
 calc I.write (by rw[h];trivial) (.inl 07) (λb u m q=>(ZI _ _<|bP m).trans q) #[_,e] ?_;show#[k,its',n',r,e]
def NX:bA->bA->bA->Hp->(Hp->Prop)->Prop:=λo i v H Q=>∃p xs k j,o=.ref p/\i=.int k/\H p=V (.lst xs)/\ik (WP xs) k=V j/\Q (upd H p<|.lst<|xs.set j v)
def Fm:zJ X NX:=by
 intro Z s U H o i v Y iv u Q I M R P h;let#[p,xs,k,j,rfl,rfl,E,G,q]:=h;cases M;let#[t,rfl]:=R;let#[m,n,r,ho,hz]:=I.lst E;let#[B,J,L,S]:=Fi G;let O:=r.length;let hn:=Xq;let F:Inv X Z U (upd H p<|.lst<|xs.set j v) {s with heap:=s.1.update p (fU (·.setIfInBounds j u))}:=
  I.pS E ho (NW m n j u) (r.set P j) (by simp_all) s.4
 by_cases C:0<=k
 .let D:k.toNat=j:=by rw[sJ C S]at B;show eV B
  show W.ki_setAt ho C 05 (by simp_all)<|by rw[D];show#[_,F,q]
 .let D:(k+(m.toArray.size:Int)).toNat=j:=by rw[yP (cN.1 C) L]at B;rw[ZV,<-O];show eV B
  show W.ki_setBack ho (cN.1 C) (by simp_all) 05<|by rw[D];show#[_,F,q]
def NY(lo hi)(n):(pq lo hi Zg n).1=((HT.b8 n 0 lo:Nat):Int)/\(pq lo hi Zg n).2.1=((HT.b8 n n hi:Nat):Int)/\(pq lo hi Zg n).2.2=1:=by
 refine#[?_,?_,07]
 .cases lo with|none=>simp[pq,HT.b8]|some i=>simp![pq,HT.b8,Option.getD_none];show(if_pos 01).trans<|EO n i
 .cases hi with|none=>simp[pq,HT.b8]|some i=>simp![pq,HT.b8,Option.getD_none];show(if_pos 01).trans<|EO n i
def NZ(its:Tu)(lo hi):slicePick its.toArray lo hi Zg=((its.drop<|HT.b8 (WP its) 0 lo).take<|HT.b8 (WP its) (WP its) hi-HT.b8 (WP its) 0 lo).toArray:=by let#[k,J,j]:=NY lo hi its.toArray.size;unfold slicePick;rw[k,J,j];simp![sliceRange_one,pick_run]<;>rfl
def zU(K:W.Frag):bA->Wz->Wz->Hp->VK->Prop:=λx lo hi H Q=>∃a xs,x=.ref a/\bZ K H a xs/\∀p,H p=Zg->Q (.ref p) (upd H p<|.lst<|j5 xs lo hi)
def Fo:Fg X (zU X.K):=by
 intro Z s U H x v J L lo k G Q I B C pl F h;let#[a,xs,rfl,u,q]:=h;cases B;let#[E,r,m,D]:=I.list u;let j:=r.length;calc#["list",_,slot_list_getitem.1,m.isList.typeIs,?_];refine wpAny_getItem_list_slice m.isList C pl F .none 03 ?_<|by simp_all
 rw[NZ,<-j];calc#[.ref s.1.1.size,_,I.laid (λb ob q=>Zj _ q) (Zm _) ?_,07,q _<|I.aw.fresh<|Zm _];show#[Zb (Fh xs lo k) D,_,0,(r.drop<|HT.b8 (WP xs) 0 lo).take<|HT.b8 (WP xs) (WP xs) k-HT.b8 (WP xs) 0 lo,Zw _ 07]
def zV:Xy X (.type "list") (λxs H Q=>∃p ys,xs=[.ref p]/\(bZ X.K H p ys\/eL X.K H p ys)/\∀l,H l=Zg->Q (.ref l) (upd H l<|.lst ys)):=by
 intro Z s U H xs L Q I r h;let#[p,ys,rfl,E,q]:=h;let#[u,rfl,J]:=QC r;cases J;let fin:∀(j:Tu),Vals ys j->WP ys<=sizeLine->∀(m:bu)(C:Nat),(∀b G,s.1.get? b=V G->m.get? b=V G) ->m.get? s.1.1.size=V {cls:=.type "list",dict:=Zg,data:=.seq j.toArray C,slots:=#[]}->EP X Z U Q (.ref s.1.1.size) {s with heap:=m}:=λj D B m C kp e=>
  #[.ref s.1.1.size,_,I.laid kp (Zm _) (show JX X.1 X.w _ m _ (.lst ys)from#[B,j,C,D,e]),07,q _<|I.aw.fresh<|Zm _]
 rcases E with E|E
 .let#[j,D,pl,B]:=I.list E;let k:=D.length;let#[o,ho,F,n,hd]:=pl.isList;show call_list_seq p (.inl 07) ho F hd (λm C kp e=>fin j D B m C kp e)<|by simp<;>show Zb (Zh k.symm) B
 .let#[j,D,pl,B]:=I.tuple E;let k:=D.length;let#[o,ho,F,n,hd]:=pl;show call_list_seq p (.inr 07) ho F hd (λm C kp e=>fin j D B m C kp e)<|by simp<;>show Zb (Zh k.symm) B
def Fp:Xy X (.type "tuple") (λxs H Q=>∃p ys,xs=[.ref p]/\((bZ X.K H p ys/\∀l,H l=Zg->Q (.ref l) (upd H l<|.tup ys))\/(eL X.K H p ys/\Q (.ref p) H))):=by
 intro Z s U H xs G Q I r h;let#[p,ys,rfl,h]:=h;let#[u,rfl,E]:=QC r;cases E;rcases h with⟨B,q⟩|⟨B,q⟩
 .let#[j,D,pl,C]:=I.list B;let k:=D.length;refine call_tuple_list pl.isList (λm kp=>?_)<|by simp<;>show Zb (Zh k.symm) C
  let I1:=I.kept (t':=s.4) kp;let F:Inv X Z U (upd H m.1.size<|.tup ys) {s with heap:=m.push {cls:=.type "tuple",data:=.seq j.toArray} }:=
   I1.laid (λb o e=>Zj _ e) (Zm _) (#[C,j,D,IsTup.new _ _])
  show#[.ref m.1.size,_,F,07,q _<|I1.aw.fresh<|Zm _]
 .let#[j,D,pl,C]:=I.tuple B;show call_tuple_same pl #[.ref p,H,I,07,q]
def Fq(K:W.Frag)(T:String)(x:bA)(H:Hp):Prop:=match x with
 |.str _=>T="str"
 |.int _=>T="int"
 |.ref p=>(T="list"/\∃xs,bZ K H p xs)\/(T="tuple"/\∃o,K.lookup p=V o/\o.1=.type "tuple"/\o.2=Zg) \/
   (T="dict"/\((∃kvs,H p=V (.dK kvs))\/∃kvs,H p=V (.dT kvs)))\/(T="set"/\∃S n,H p=V (.set S n))
 |_=>False
def Fs(I:Inv X Z U H s)(r:RelV x v)(ty:Fq X.K T x H):s.TypeIs v T/\∀a,v=.ref a->∃ob,s.1.get? a=V ob/\ob.2=Zg:=by
 cases x with
 |str z=>let#[t,rfl]:=r;cases (ty);show#[typeIs_str s z t,λ_ e=>nomatch e]
 |int i=>let#[t,rfl]:=r;cases (ty);show#[typeIs_int s i t,λ_ e=>nomatch e]
 |ref p=>
  cases r;rcases ty with⟨rfl,xs,u⟩|⟨rfl,o,j,hc,hd⟩|⟨rfl,j⟩|⟨rfl,S,n,j⟩
  .let#[B,_,pl,_]:=I.list u;calc#[pl.isList.typeIs,λa e=>?_];cases e;let#[o,n,e,c,hd,_]:=pl;show#[o,e,hd]
  .calc#[#[o,I.cO p o j,hc],λa e=>?_];cases e;show#[o,I.cO _ o j,hd]
  .let z:∃o,s.1.get? p=V o/\o.ExactDict:=by
    rcases j with⟨m,j⟩|⟨m,j⟩
    .let#[_,_,_,_,o,_,_,e,ex,_]:=I.aw p _ j;show#[o,e,ex]
    .let#[_,_,_,_,o,_,_,e,ex,_]:=I.aw p _ j;show#[o,e,ex]
   let#[o,e,ex]:=z;calc#[#[o,e,ex.1],λa k=>?_];cases k;show#[o,e,ex.2.1]
  .let#[o,_,_,_,e,ex,_]:=I.aw p _ j;calc#[#[o,e,ex.1],λa k=>?_];cases k;show#[o,e,ex.2.1]
 |_=>show i7 ty
variable{o e:Expr}{es:Td}{to:TE}{t:TA}{name:Str}{apos cpos:Pos}{T id:String}{r:bA->Ub->Hp->VK->Prop}
end
def tD(X:Cx)(id:String)(r:bA->Ub->Hp->VK->Prop):Prop:=∀(Z:aZ)(s:Z5)(U:St)(H:Hp)(x:bA)(xs:Ub)(v:Zv)(us:Tu)(Q:VK),Inv X Z U H s->RelV x v->Vals xs us->r x xs H Q ->Z0 (ZA X.1 X.w) X.A (call (.builtin id)<|v::us) (EP X Z U Q) X.xe s
def Vals.one{x:bA}{us:Tu}(h:Vals [x] us):∃u,us=[u]/\RelV x u:=by cases h with|cons r e=>cases e;show#[_,07,r]
def Vals.two(h:Vals [x,y] us):∃u v,us=[u,v]/\RelV x u/\RelV y v:=by
 cases h with|cons r e=>cases e with|cons q e=>cases e;show#[_,_,07,r,q]
theorem Vals.zero:∀{us:Tu},Vals [] us->us=[]|_,.nil=>07
def Vals.dropLast(h:Vals xs us):Vals xs.dropLast us.dropLast:=by
 induction h with|nil=>show .nil|cons r t j=>cases t with|nil=>show .nil|cons q k=>show .cons r j
theorem Vals.eraseIdx:∀{xs:Ub}{us:Tu}(i:Nat),Vals xs us->Vals (xs.eraseIdx i) (us.eraseIdx i)|_,_,_,.nil=>.nil|_,_,0,.cons _ t=>t|_,_,i+1,.cons r t=>.cons r<|Vals.eraseIdx i t
def Vals.reverse(h:Vals xs us):Vals xs.reverse us.reverse:=by induction h with|nil=>show .nil|cons r t j=>rw[mS,mS];show Vals.append j<|.cons r .nil
theorem Vals.rep(h:Vals xs us):∀k:Nat,Vals (d8 k xs).flatten (d8 k us).flatten|0=>.nil|k+1=>by show Vals.append h<|Vals.rep h k
theorem zW:∀(l:List α)(i:Nat),(l.eraseIdx i).length<=WP l|[],_=>Zm _|_::_,0=>fP _|_::r,i+1=>uo<|zW r i
theorem Ft(its):∀(k:Nat)(acc:Tu),List.foldl (λx1 x2=>x1++x2) acc.toArray (d8 k its.toArray)=(acc++(d8 k its).flatten).toArray
 |0,acc=>03
 |k+1,acc=>by
  let e:acc.toArray++its.toArray=(acc++its).toArray:=03;let j:(acc++its)++(d8 k its).flatten=acc++(d8 (k+1) its).flatten:=by rw[List.replicate_succ,List.flatten_cons,fQ]
  rw[<-j,<-Ft its k (acc++its),<-e,List.replicate_succ,List.foldl_cons]
section
variable{X:Cx}{Z:aZ}{U:St}{H:Hp}{s:Z5}{l b:ZF}{xs ys zs:Ub}
def Inv.k7{its its':Tu}(I:Inv X Z U H s)(k:H l=V (.lst xs)) (e:s.1.get? l=V {cls:=.type "list",data:=.seq its.toArray n})(D:f its.toArray=its'.toArray)(B:Vals ys its')(j:WP ys<=sizeLine):Inv X Z U (upd H l<|.lst ys) {s with heap:=s.1.update l<|fU f,toks:=t'}:=by let q:=PySem.IsL.update e f;rw[D]at q;calc I.write (by rw[k];show trivial) (.inl 07) (λE u C m=>(ZI s.1 (fU f)<|bP C).trans m) #[_,q] ?_;show#[j,its',_,B,q]
def Inv.tE(I:Inv X Z U H s)(j:Vals ys its)(k:WP ys<=sizeLine):Inv X Z U (upd H s.1.1.size<|.lst ys) {s with heap:=s.1.push {cls:=.type "list",data:=.seq its.toArray},toks:=t'}:=(I.laid (λ_ _ q=>Zj _ q) (Zm _) #[k,its,0,j,Zw _ 07])
def Inv.fresh(I:Inv X Z U H s):H s.1.1.size=Zg:=(I.aw.fresh<|Zm _)
def Inv.gf(I:Inv X Z U H s)(j:H l=V (.lst xs)):WP xs<=sizeLine/\∃(its:Tu) (n:Nat),Vals xs its/\WP xs=WP its/\s.1.get? l=V {cls:=.type "list",data:=.seq its.toArray n}:=by let#[z,its,n,r,e]:=I.aw l _ j;show#[z,its,n,r,r.length,e]
def Fu(h:n<=sizeLine):zm n=Zo:=by show decide_eq_false<|ur 06
end
section
variable{X:Cx}
def Oa:bA->Ub->Hp->VK->Prop:=λx vs H Q=>∃l xs y,x=.ref l/\vs=[y]/\H l=V (.lst xs)/\WP xs<sizeLine/\Q .ah (upd H l<|.lst<|xs++[y])
def Fv:tD X "list.append" Oa:=by intro Z s U H x E v J Q I m B h;let#[l,xs,y,rfl,rfl,k,D,q]:=h;cases m;let#[u,rfl,C]:=B.one;let#[z,j,n,r,G,e]:=I.gf k;calc pv F.slot_list_append #[_,e,07] F.entry_list_append (F.args_list_append_2 _ _) (PySem.list_append l j.toArray n u<|by simp_all) #[e,?_];calc#[.ah,_,I.k7 k e 03 (r.append<|.cons C .nil) ?_,07,q];rw[Z1,o7];show D
def Oc:bA->Ub->Hp->VK->Prop:=λx vs H Q=>∃l b xs zs,x=.ref l/\vs=[.ref b]/\H l=V (.lst xs)/\H b=V (.lst zs)/\WP xs+WP zs<=sizeLine/\Q .ah (upd H l<|.lst<|xs++zs)
def Od:tD X "list.extend" Oc:=by
 intro Z s U H x S v us Q I D J h;let#[l,b,xs,R,rfl,rfl,C,M,G,q]:=h;cases D;let#[u,rfl,E]:=J.one;cases E;let#[z,k,n,r,Y,e]:=I.gf C;let#[W,j,n2,P,L,O]:=I.gf M;let B:k.toArray.size+j.toArray.size<=sizeLine:=by rw[ZV,ZV];lia
 let m:¬(!k.toArray.isEmpty&&zm (k.toArray.size+j.toArray.size))=Zl:=by rw[Fu B,Bool.and_false];show Zx
 calc pv F.slot_list_extend #[_,e,07] F.entry_list_extend (F.args_list_extend_2 _ _) (AutoSeq1.list_extend_list_list_0 l k.toArray n b j.toArray n2 m (by rw[ZV];show Zb (Zi _ _) 06)<|sk 06) #[e,O,?_];calc#[.ah,_,I.k7 C e 03 (r.append P) ?_,07,q];rw[Z1];show G
def zX:bA->Ub->Hp->VK->Prop:=λx vs H Q=>∃l xs y,x=.ref l/\vs=[]/\H l=V (.lst xs)/\xs[WP xs-1]?=V y/\Q y (upd H l<|.lst xs.dropLast)
def Oe:tD X "list.pop" zX:=by
 intro Z s U H x M v O Q I C D h;let#[l,xs,y,rfl,rfl,B,G,q]:=h;cases C;let m:=D.zero;subst m;let#[z,j,n,r,L,e]:=I.gf B;let#[u,J,E]:=r.get G;let k:j.toArray[j.toArray.size-1]?=V u:=by change j.toArray[WP j-1]?=V u;rw[<-zg,<-L];show J
 calc pv F.slot_list_pop #[_,e,07] F.entry_list_pop (F.args_list_pop_1 _) (MeetsSeq.list_pop_last l j.toArray n u k<|by simp_all) #[e,?_];refine#[y,_,I.k7 B e ?_ r.dropLast ?_,E,q]
 .simp
 .rw[List.length_dropLast];show Zb (nU _ _) z
def Of:bA->Ub->Hp->VK->Prop:=λx vs H Q=>∃l xs i k y,x=.ref l/\vs=[.int i]/\H l=V (.lst xs)/\ -(2^63)<=i/\i<2^63/\seqIndex? i (WP xs)=V k/\xs[k]?=V y/\Q y (upd H l<|.lst<|xs.eraseIdx k)
def Og:tD X "list.pop" Of:=by
 intro Z s U H x R v S Q I D P h;let#[l,xs,i,k,y,rfl,rfl,B,E,J,O,M,q]:=h;cases D;let#[u,rfl,L]:=P.one;let#[t,rfl]:=L;let#[z,j,n,r,C,e]:=I.gf B;let#[w,G,m]:=r.get M;calc pv F.slot_list_pop #[_,e,07] F.entry_list_pop (F.args_list_pop_2 _ _) (MeetsSeq.list_pop_at l j.toArray n i t k w (fitsIndex_both E J) (by rw[ZV,<-C];show O) (by rw[<-zg];show G)<|by rw[ZV];show Zb (Zh C.symm) z) #[e,?_];refine#[y,_,I.k7 (its':=j.eraseIdx k) B e ?_ (r.eraseIdx k) ?_,m,q]
 .change j.toArray.eraseIdxIfInBounds k=(j.eraseIdx k).toArray;rw[List.eraseIdxIfInBounds_toArray]
 .let:=zW xs k;show Zb this z
def zY:R2:=λx y H Q=>∃l b xs zs,x=.ref l/\y=.ref b/\H l=V (.lst xs)/\H b=V (.lst zs)/\WP xs+WP zs<=sizeLine/\∀p,H p=Zg->Q (.ref p) (upd H p<|.lst<|xs++zs)
def Oh:fW X (f7 .Add) zY:=by
 intro Z s U H x y v u Q I m D h;let#[l,b,xs,L,rfl,rfl,C,F,M,q]:=h;cases m;cases D;let#[z,k,n,r,P,e]:=I.gf C;let#[O,j,n2,J,E,G]:=I.gf F;refine PySem.P.add_list e G ?_<|by simp_all
 let B:k.toArray++j.toArray=(k++j).toArray:=03;rw[B];show#[.ref _,_,I.tE (r.append J) (by simp_all),07,q _ I.fresh]
def zZ:R2:=λx y H Q=>∃l k xs,x=.ref l/\y=.int k/\H l=V (.lst xs)/\ -(2^63)<=k/\k<2^63/\WP xs*k.toNat<=sizeLine /\ ∀p,H p=Zg->Q (.ref p) (upd H p<|.lst (d8 k.toNat xs).flatten)
def Oi(xs:List α)(k):(d8 k xs).flatten.length=k*WP xs:=03
def Oj:fW X (f7 .Mult) zZ:=by
 intro Z s U H x y v u Q I L Y h;let#[l,k,xs,rfl,rfl,R,M,J,P,q]:=h;cases L;let#[t,rfl]:=Y;let#[z,j,n,r,hl,e]:=I.gf R;let G:j.toArray.size*k.toNat<=sizeLine:=by simp_all
 let C:¬j.toArray.size*k.toNat>(2^63-1)/8:=by let:(sizeLine:Nat)<=(2^63-1)/8:=01;lia
 let D:¬(!Builtin.List.listFitsIndex k)=Zl:=by rw[fitsIndex_both M J];show Zx
 let B:¬zm (j.toArray.size*k.toNat)=Zl:=by rw[Fu G];show Zx
 let E:List.foldl (λO W=>O++W) #[] (d8 (if j.toArray.isEmpty=Zl then 0 else k.toNat) j.toArray)=(d8 k.toNat j).flatten.toArray:=by
  let S:=λm=>by let:=Ft j m [];rw[kC]at this;show this
  rw[S];cases j with|nil=>simp|cons a r'=>rw[if_neg 03]
 calc wpAny_binaryOp_repeat_ref 01 #[_,e,07] (λs'=>typeIs_int s' k t) noFill_list_mul F.fills_int_mul F.slot_int_rmul repeat_list F.slot_int_index.1 (pv F.slot_int_rmul (typeIs_int s k t) F.entry_int_rmul (F.args_int_rmul_2 _ _) (int___rmul___int_list k t l j.toArray n) #[e,07,#[_,e,07],pv F.slot_list_mul #[_,e,07] F.entry_list_mul (F.args_list_mul_2 _ _) (AutoListH.list___mul___list_int_3 l j.toArray n k t D C B) #[e,?_]]);rw[E];show#[.ref _,_,I.tE (r.rep k.toNat) (by rw[Oi,Nat.mul_comm];show P),07,q _ I.fresh]
end
section
variable{κ:Type}[DecidableEq κ]
noncomputable def fA (kvs:List<|κ×bA)(k:κ):Ti:=(kvs.find? λkv=>decide (kv.1=k)).map (·.2)
noncomputable def putK (kvs:List<|κ×bA)(k:κ)(v:bA):List (κ×bA):=if (kvs.any λkv=>decide (kv.1=k))=Zl then kvs.map (λkv=>if kv.1=k then(kv.1,v)else kv)else kvs++[(k,v)]
def z3{k:κ}(e:p.1=k):fA (p::r) k=V p.2:=by simp[fA,e]
def z4{k:κ}(e:¬p.1=k):fA (p::r) k=fA r k:=by simp[fA,e]
theorem Fw(k):∀j:List<|κ×bA,(j.any λm=>decide (m.1=k))=(fA j k).isSome
 |[]=>07
 |p::r=>by
  rw[qR];by_cases e:p.1=k
  .simp only[z3 e,decide_eq_true e,Bool.true_or,Option.isSome_some]
  .rw[z4 e,decide_eq_false e];show Fw k r
def Ol(kvs)(k:κ)(v):(putK kvs k v).length<=WP kvs+1:=by
 unfold putK;split
 .simp
 .simp
def dE.j6(r:dE o u):o.isSome=u.isSome:=by
 cases o with
 |none=>cases u with
  |none=>rfl
  |some _=>show(r).elim
 |some _=>cases u with
  |none=>show(r).elim
  |some _=>rfl
def KV.val(r:KV kvs vs)(k:κ):dE (fA kvs k) (rg vs k):=by
 induction r with|nil=>show eW|@cons p q ps m h t B=>
  let#[u,J]:=h;by_cases e:p.1=k
  .let j:q.1=k:=u.symm.trans e;let b:rg (q::m) k=V q.2:=by simp[rg,j]
   rw[z3 e,b];show J
  .let j:¬q.1=k:=λz=>e<|u.trans z
   let b:rg (q::m) k=rg m k:=by simp[rg,j]
   rw[z4 e,b];show B
def KV.any(r:KV kvs vs)(k:κ):(kvs.any λj=>decide (j.1=k))=vs.any λj=>decide (j.1=k):=by induction r with|nil=>rfl|cons h t m=>rw[qR,qR,m,h.1]
def KV.z6(r:KV kvs vs)(k:κ)(C:RelV y u):KV (kvs.map λj=>if j.1=k then(j.1,y)else j) (vs.map λj=>if j.1=k then(j.1,u)else j):=by
 induction r with|nil=>show .nil|@cons p q ps D h t m=>
  calc .cons ?_ m;let#[B,J]:=h;by_cases e:p.1=k
  .lia
  .lia
def KV.put(r:KV kvs vs)(k:κ)(j:RelV y u):KV (putK kvs k y) (stored vs k u):=by
 unfold putK stored;rw[r.any k];by_cases e:(vs.any λm=>decide (m.1=k))=Zl
 .rw[if_pos e,if_pos e];show r.z6 k j
 .rw[if_neg e,if_neg e];show Paired.snoc r #[07,j]
def KV.length(r:KV kvs vs):WP kvs=WP vs:=(zx r)
end
def vW(r:RelV (kV k) u):(Vy P w).1 k u=Zl:=by cases k with|inl i=>let#[t,e]:=(r);subst e;show MW P w i t|inr x=>let#[t,e]:=(r);subst e;show MX P w x t
section
variable{P:cy}{w:bV}{H:Hp}{h:bu}{a:ZF}
def Om(ok:c8 P w H h)(e:Rd H a u):JX P w H h a u:=(e.ok ok)
def Oo(ok:c8 P w H h)(e:Rd H a<|.dK kvs):WP kvs<=sizeLine/\(a==oq)=Zo/\∃vs,KV kvs vs/\h.DictOf (Vy P w) a vs:=(show JX P w H h a (.dK kvs)from Om ok e)
def vX(ok:c8 P w H h)(e:H a=V (.dK kvs)):WP kvs<=sizeLine/\(a==oq)=Zo/\∃vs,KV kvs vs/\h.DictOf (Vy P w) a vs:=(Oo ok<|.inl e)
end
section
variable{X:Cx}{Z:aZ}{U:St}{H:Hp}{s:Z5}{a:ZF}{y v:bA}{u r:Zv}{o:Ti}{A:cz}{E:aQ}
def Inv.big(I:Inv X Z U H s):oq<s.1.1.size:=by let h:=(I.mod.2.keeps I.bk).lt;show nR 01 h
def Fy(I:Inv X Z U H s)(k:oO<|H a)(hs:mX a s.1 h')(j:∃q,h'.get? a=V q)(new:JX X.1 X.w (upd H a ob) h' a ob):Inv X Z U (upd H a ob) {s with heap:=h',toks:=t'}:=(I.write k (.inl 07) (λb q m z=>(hs.2 b m).trans z) j new)
def Fz(z:WP kvs<=sizeLine)(hd:(a==oq)=Zo)(rel:KV kvs vs)(dd:h'.DictOf (Vy P w) a vs):JX P w H' h' a (.dK kvs):=(#[z,hd,vs,rel,dd])
end
def Oq(h:bu)(j:oq<h.1.size):JX P w H (h.push {cls:=.type "dict",data:=.dict #[]}) h.1.size (.dK []):=(#[ZX _,beq_eq_false_iff_ne.2<|bP<|Zu j,[],.nil,Heap.DictOf.new h])
end L2
namespace Att
open PySem PySem.W PySem.Calls PyProof.Rows
def Ot:∀(ns:To)(vs:Tu),WellAll P h vs (ns.map WData.int)->i6 vs ns:=by
 intro ns;induction ns with|nil=>intro vs w;cases w;show .nil|cons n ns j=>intro vs w;cases w with|cons a b=>cases a;show .cons _ _<|j _ b
def Ou{l:OpenLaw}(hn:l.5=V n) (j:l.row.1.claim.3 args=Zl)(C:WellAll P h vals args):∃a vs ns,vals=[gF a]/\args=[WData.list<|ns.map WData.int]/\h.get? a=V {cls:=.type "list",data:=.seq vs.toArray}/\i6 vs ns/\WP ns<=n:=by
 let D:=(pre_splitW j).1;let I:l.pre.holds [] {args:=args}=Zl:=(pre_splitW j).2;let#[d,r,rfl,G,J]:=hasAllW_cons D;obtain rfl:=hasAllW_nil J;let#[xs,rfl,H]:=hasW_list G;let#[ns,rfl]:=items_int H;let m:WP ns<=n:=by
  let B:(WTm.not<|.lt (.lit<|.int (n:Int))<|.len<|.arg 0).holds [] {args:=[.list<|ns.map .int]}=Zl:=by let B:=(holds_andW I).1;rw[hn]at B;show B
  let u:=condW_of B<|w_not<|w_lt w_lit<|w_len_list<|w_arg 07;refine ZM λq=>?_
  first
   | (rw[decide_eq_true q']at u;show absurd u 01)
   | (simp at u;show uu q u)
 cases C with|cons E F=>cases F;cases E with|list ho k=>show#[_,_,ns,07,07,ho,Ot ns _ k,m]
def Ov(l:OpenLaw)(args):l.row.1.claim.4 args (.bool Zl) args=Zl:=(postW_of (show WShape.has [] (.bool Zl) .bool=Zl by first|rfl|decide|simp) (w_eq_bool (w_res 07) w_lit) 07)
def iJ{l:OpenLaw} (hn:l.5=V n)(B:d.2.7=[]) (call:∀(w:bV)(s₀ s₁:Z5)(mg mb:Str->Tb)(fa:ZF)(o:Obj)(pm cd j:Zv)(a:ZF)(vs:Tu)(ns:To),Ground q loose [] XP w s₀ mg mb s₁.1->YP w s₁.1 ->s₁.1.get? fa=V o->o.3=.func (docDef d.1 d.2 d.3 d.4 pm cd j)->s₁.1.CodeRec cd d.1->mg d.1=V (.ref fa) ->s₁.1.get? a=V {cls:=.type "list",data:=.seq vs.toArray}->i6 vs ns->WP ns<=n->s₁.2=#[] ->i1 (ZA l.1 w) pB (.call (.ref fa) #[[.ref a],[]]) (λr s'=>r=.ok (.ret<|.bool Zl)/\OldK s₁.1 s'.1/\s'.5=s₁.5/\mq s'.2) s₁):WalkO q loose XP YP l.row.1 d [] (λf vs=>PySem.call f vs):=by
 intro w s₀ s₁ mg mb G Y_ fa o pm cd j dV kV ho hd hcd hD hmg hg args vals as hpre hlay hrd hwl hlo;obtain rfl:dV=.none:=Dflts.none hD B;obtain rfl:kV=.none:=Dflts.noKw hD;let#[a,vs,ns,rfl,rfl,m,k,u]:=Ou hn hpre hwl;refine enter_call<|pj (call w s₀ s₁ mg mb fa o pm cd j a vs ns G Y_ ho (fd_plain hd) hcd hmg m k u hg) λr s' C=>?_
 let#[rfl,J,D,E]:=C;show#[.inl #[.bool Zl,.bool Zl,[],07,λ_=>07,.bool Zl,Ov l _,λ_=>#[List.Pairwise.nil,λ_ hm=>(nomatch hm)]],J,D,E]
end Att
namespace L2
open PySem PySem.Spec PyProof.Rows
theorem Xw:∀{vs:Tu}{ns:To},i6 vs ns->Vals (ns.map bA.int) vs|_,_,.nil=>.nil|_,_,.cons n t h=>.cons #[t,07]<|Xw h
noncomputable def JM (s:fu)(j:Nat):fu:=match s with|.ClassDef _ _ _ body _ _ _ _ _ _ _=>body.getD j<|.Pass #[0,0,0,0]|_=>.Pass #[0,0,0,0]
def VI(s:fu):u9:=match s with|.FunctionDef _ a _ _ _ _ _ _ _ _=>a|_=>{posonlyargs:=[],args:=[],vararg:=Zg,kwonlyargs:=[],kw_defaults:=[],kwarg:=Zg,defaults:=[]}
def Vf(s:fu):Tl:=match s with|.FunctionDef _ _ b _ _ _ _ _ _ _=>b|_=>[]
def Qq(s:fu):fg:=match s with|.FunctionDef _ _ _ _ _ _ sc _ _ _=>sc|_=>{kind:=.function,names:=[],isGenerator:=Zo,isCoroutine:=Zo}
end L2
set_option maxHeartbeats 4000000
namespace L3
open PySem PySem.Spec PyProof.Rows L2
inductive IV where|ah|bl (b:Bool)|int (i:Int)|str (x:Str)|tup (xs:List IV)|cG (xs:List IV)|ref (i:Nat)
abbrev _root_.Wo:=List<|Str×IV
abbrev _root_.Wp:=List<|Key×IV
abbrev _root_.Te:=Option IV
abbrev _root_.Tv:=List IV
inductive IX where|lst (xs:Tv)|ins (c:Str) (fs:Wo)|aV (kvs:Wp)|exc (c:Str) (fs:Wo)|tab (q:Str)|i9 (c:Str) (fs:Wo)
abbrev IH:=List IX
abbrev aD:=List<|Te
inductive Res(α:Type) where|ok (a:α) (h:IH)|exc (n:Nat) (h:IH)|stuck
noncomputable def Res.bind {α β:Type}:Res α->(α->IH->Res β)->Res β|.ok a h,f=>f a h|.exc n h,_=>.exc n h|.stuck,_=>.stuck
inductive bS where|next (U:aD) (h:IH)|ret (v:IV) (h:IH)|brk (U:aD) (h:IH)|cont (U:aD) (h:IH)|exc (n:Nat) (U:aD) (h:IH)|stuck
def pT(K:W.Frag)(H:Hp)(a:ZF)(xs:Ub):Prop:=(∃o,H a=V (.bK o<|.lst xs)) \/ ∃(o:Obj) (its:Th) (n:Nat),K.lookup a=V o/\o.1=.type "list"/\o.2=Zg/\o.3=.seq its n/\its.size<=sizeLine/\Vals xs its.1
def pT.sq{K:W.Frag}(h:pT K H a xs):bZ K H a xs:=by
 rcases h with⟨o,h⟩|h
 .show .inl<|.inr #[o,h]
 .show .inr h
mutual
def RV(K:W.Frag)(Y:Tt)(H:Hp):IV->bA->Prop|.ah,v=>v=.ah|.bl b,v=>v=.bl b|.int i,v=>v=.int i|.str x,v=>v=.str x|.tup xs,v=>∃a vs,v=.ref a/\eL K H a vs/\aA K Y H xs vs|.cG xs,v=>∃a vs,v=.ref a/\pT K H a vs/\aA K Y H xs vs|.ref i,v=>∃a,v=.ref a/\Y[i]?=V a
def aA(K:W.Frag)(Y:Tt)(H:Hp):Tv->Ub->Prop|[],vs=>vs=[]|x::xs,vs=>∃v r,vs=v::r/\RV K Y H x v/\aA K Y H xs r
end
structure Ext(H H':Hp):Prop where
 cI:∀b xs,H b=V (.tup xs)->H' b=V (.tup xs)
 bz:∀b o u,H b=V (.bK o u)->H' b=V (.bK o u)
structure bc(Y:Tt)(H:Hp)(Y':Tt)(H':Hp):Prop where
 pre:∃m,Y'=Y++m
 ext:Ext H H'
def bc.refl:bc Y H Y H:=(#[#[[],03],#[λ_ _ h=>h,λ_ _ _ h=>h]])
def bc.trans(a:bc Y H U1 H1)(b:bc U1 H1 W2 H2):bc Y H W2 H2:=by let#[#[m,e],x]:=a;let#[#[k,j],y]:=b;show#[#[m++k,by rw[j,e,fQ]],#[λb xs h=>y.1 b xs<|x.1 b xs h,λb o u h=>y.2 b o u<|x.2 b o u h]]
def bc.at(n:bc Y H Y' H'){i:Nat}(h:Y[i]?=V a):Y'[i]?=V a:=by let#[#[m,e],_]:=n;subst e;rw[ZN (Zp.1 h).1];show h
def Ext.rd(x:Ext H H')(h:Rd H a<|.tup xs):Rd H' a (.tup xs):=by
 rcases h with h|⟨o,h⟩
 .show .inl<|x.1 _ _ h
 .show .inr #[o,x.2 _ _ _ h]
def Ext.tF{K:W.Frag}(x:Ext H H')(h:eL K H a xs):eL K H' a xs:=by
 rcases h with h|h
 .show .inl<|x.rd h
 .show .inr h
def Ext.z7{K:W.Frag}(x:Ext H H')(h:pT K H a xs):pT K H' a xs:=by
 rcases h with⟨o,h⟩|h
 .show .inl #[o,x.2 _ _ _ h]
 .show .inr h
mutual
theorem RV.mono{K:W.Frag}{Y Y':Tt}{H H':Hp}(n:bc Y H Y' H'):∀(x:IV)(v:bA),RV K Y H x v->RV K Y' H' x v|.ah,_,h=>h|.bl _,_,h=>h|.int _,_,h=>h|.str _,_,h=>h|.tup xs,_,h=>by let#[a,vs,e,q,r]:=h;show#[a,vs,e,n.2.tF q,aA.mono n xs vs r]|.cG xs,_,h=>by let#[a,vs,e,q,r]:=h;show#[a,vs,e,n.2.z7 q,aA.mono n xs vs r]|.ref i,_,h=>by let#[a,e,q]:=h;show#[a,e,n.at q]
theorem aA.mono{K:W.Frag}{Y Y':Tt}{H H':Hp}(n:bc Y H Y' H'):∀(xs:Tv)(vs:Ub),aA K Y H xs vs->aA K Y' H' xs vs|[],_,h=>h|x::xs,_,h=>by let#[v,r,e,q,t]:=h;show#[v,r,e,RV.mono n x v q,aA.mono n xs r t]
end
theorem aA.length{K:W.Frag}:∀{xs:Tv}{vs:Ub},aA K Y H xs vs->WP vs=WP xs|[],_,h=>by let e:=h;subst e;rfl|x::xs,_,h=>by let#[v,r,e,_,t]:=h;subst e;simp[aA.length t]
theorem aA.get{K:W.Frag}:∀{xs:Tv}{vs:Ub}{i:Nat}{x:IV},aA K Y H xs vs->xs[i]?=V x->∃v,vs[i]?=V v/\RV K Y H x v
 |[],_,_,_,_,e=>by simp at e
 |x::xs,_,0,y,h,e=>by let#[v,r,j,q,t]:=h;subst j;simp at e;subst e;show#[v,07,q]
 |x::xs,_,i+1,y,h,e=>by
  let#[v,r,j,q,t]:=h;subst j;let#[u,k,J]:=aA.get t<|by simpa using e
  show#[u,by simpa using k,J]
def aA.get'{K:W.Frag}{i:Nat}(h:aA K Y H xs vs)(e:vs[i]?=V v):∃x,xs[i]?=V x/\RV K Y H x v:=by let B:=h.length;let m:=(Zp.1 e).1;let j:xs[i]?=V xs[i]:=Zd<|mL 06 06;let#[u,k,J]:=h.get j;rw[e]at k;cases k;show#[_,j,J]
theorem aA.append{K:W.Frag}:∀{xs ys:Tv}{vs us:Ub},aA K Y H xs vs->aA K Y H ys us->aA K Y H (xs++ys) (vs++us)|[],_,_,_,h,g=>by let e:=h;subst e;show g|x::xs,_,_,_,h,g=>by let#[v,r,e,q,t]:=h;subst e;show#[v,_,07,q,aA.append t g]
theorem aA.take{K:W.Frag}:∀{xs:Tv}{vs:Ub}(n:Nat),aA K Y H xs vs->aA K Y H (xs.take n) (vs.take n)|_,_,0,_=>by simp;show 07|[],_,n+1,h=>by let e:=h;subst e;show 07|x::xs,_,n+1,h=>by let#[v,r,e,q,t]:=h;subst e;show#[v,r.take n,07,q,aA.take n t]
theorem aA.drop{K:W.Frag}:∀{xs:Tv}{vs:Ub}(n:Nat),aA K Y H xs vs->aA K Y H (xs.drop n) (vs.drop n)|_,_,0,h=>h|[],_,n+1,h=>by let e:=h;subst e;show 07|x::xs,_,n+1,h=>by let#[v,r,e,q,t]:=h;subst e;show aA.drop n t
theorem aA.set{K:W.Frag}(q:RV K Y H x v):∀{xs:Tv}{vs:Ub}(i:Nat),aA K Y H xs vs->aA K Y H (xs.set i x) (vs.set i v)|[],_,_,h=>by let e:=h;subst e;show 07|y::xs,_,0,h=>by let#[u,r,e,_,t]:=h;subst e;show#[v,r,07,q,t]|y::xs,_,i+1,h=>by let#[u,r,e,p,t]:=h;subst e;show#[u,r.set i v,07,p,aA.set q i t]
def aA.one{K:W.Frag}(q:RV K Y H x v):aA K Y H [x] [v]:=(#[v,[],07,q,07])
theorem aA.rev{K:W.Frag}:∀{xs:Tv}{vs:Ub},aA K Y H xs vs->aA K Y H xs.reverse vs.reverse|[],_,h=>by let e:=h;subst e;show 07|x::xs,_,h=>by let#[v,r,e,q,t]:=h;subst e;rw[mS,mS];show aA.append (aA.rev t)<|aA.one q
theorem aA.ints{K:W.Frag}:∀(ns:To),aA K Y H (ns.map IV.int) (ns.map bA.int)|[]=>07|_::ns=>#[_,_,07,07,aA.ints ns]
def cg{κ:Type}(K:W.Frag)(Y:Tt)(H:Hp):List (κ×IV)->List (κ×bA)->Prop|[],vs=>vs=[]|x::xs,vs=>∃v r,vs=(x.1,v)::r/\RV K Y H x.2 v/\cg K Y H xs r
theorem cg.mono{K:W.Frag}(n:bc Y H Y' H'):∀(xs:List<|κ×IV)(vs:List<|κ×bA),cg K Y H xs vs->cg K Y' H' xs vs|[],_,h=>h|x::xs,_,h=>by let#[v,r,e,q,t]:=h;show#[v,r,e,RV.mono n _ v q,cg.mono n xs r t]
theorem cg.length{K:W.Frag}:∀{xs:List (κ×IV)}{vs:List (κ×bA)},cg K Y H xs vs->WP vs=WP xs|[],_,h=>by let e:=h;subst e;rfl|x::xs,_,h=>by let#[v,r,e,_,t]:=h;subst e;simp[cg.length t]
theorem cg.lookup[BEq κ]{K:W.Frag}:∀{xs:List (κ×IV)}{vs:List (κ×bA)},cg K Y H xs vs ->(∀x,xs.lookup f=V x->∃v,vs.lookup f=V v/\RV K Y H x v)/\(xs.lookup f=Zg->vs.lookup f=Zg)
 |[],_,h=>by let e:=h;subst e;show#[λx e=>by simp at e,λ_=>07]
 |(k,x)::xs,_,h=>by
  let#[v,r,e,q,t]:=h;subst e;let j:=cg.lookup (f:=f) t;simp![jk];cases m:f==k with
  |true=>show#[λy e=>by cases e;show#[v,07,q],λe=>by cases e]
  |false=>show j
def QR(H:Hp)(q:Str)(cv:Zv):Prop:=∃c oc vs t,cv=.ref c/\H c=V (.bK oc<|.own 0)/\oc.3=.fields vs/\vs[1]?=V (.str (q++".<locals>."++"<lambda>") t)
def k8(K:W.Frag)(H:Hp)(q:Str)(a:ZF):Prop:=(∀cdv,W.codeIn K cdv q=Zl->∃c,cdv=.ref c/\W.codeHdIn K c a=Zl) /\ ∃ps,H a=V (.iF ps)/\TriplesOk ps.1/\∀pos cv,qY pos ps.1=V cv->QR H q cv
def k8.mono{K:W.Frag}(G:∀b o u,H b=V (.bK o u)->H' b=V (.bK o u))(k:∀u,H a=V u->H' a=V u)(h:k8 K H q a):k8 K H' q a:=by let#[m,ps,e,D,J]:=h;calc#[m,ps,k _ e,D,λj I q=>?_];let#[c,C,F,t,B,E,r]:=J j I q;show#[c,C,F,t,B,G _ _ _ E,r]
def cB(a C:ZF)(tv:Zv)(d:Tc):HO:=.ext λh=>∃oe vs,h.get? a=V oe/\oe.1=.ref C/\oe.3=.fields vs/\vs[1]?=V tv/\vs[2]?=V .none/\oe.2=d
def XV(Y:Tt):IV->Zv->Prop|.int i,u=>∃t,u=.int i t|.ref j,u=>∃b,u=.ref b/\Y[j]?=V b|_,_=>False
def gY(Y:Tt)(H:Hp)(d:Tc)(fs:Wo):Prop:=(fs=[]/\d=Zg)\/∃f v dx od u,fs=[(f,v)]/\d=V dx/\H dx=V (.bK od<|.own 0)/\W.lookIn f od=V (V u)/\XV Y v u
def gY.mono(j:∀b o u,H b=V (.bK o u)->H' b=V (.bK o u))(h:gY Y H d fs):gY Y H' d fs:=by
 rcases h with h|⟨f,i,dx,od,t,e,q,r,z⟩
 .show .inl h
 .show .inr #[f,i,dx,od,t,e,q,j _ _ _ r,z]
def gY.FA(n:bc Y H Y' H')(h:gY Y H d fs):gY Y' H' d fs:=by
 rcases h with h|⟨f,v,dx,od,t,e,q,r,z,x⟩
 .show .inl h
 .calc .inr #[f,v,dx,od,t,e,q,n.2.2 _ _ _ r,z,?_];cases v with|ref j=>let#[b,e,q]:=x;let#[#[m,rfl],_]:=n;show#[b,e,by rw[ZN (Zp.1 q).1];show q]|_=>show x
def iK(H:Hp)(tv:Zv):Prop:=tv=.none\/∃T oT ts,tv=.ref T/\H T=V (.bK oT<|.own 0)/\oT.3=.fields ts/\ts[3]?=V .none
def iK.mono(j:∀b o u,H b=V (.bK o u)->H' b=V (.bK o u))(h:iK H tv):iK H' tv:=by
 rcases h with h|⟨T,oT,ts,e,q,r⟩
 .show .inl h
 .show .inr #[T,oT,ts,e,j _ _ _ q,r]
def RO(O:aN)(K:W.Frag)(Y:Tt)(H:Hp)(a:ZF):IX->Prop|.lst xs=>∃vs,H a=V (.lst vs)/\aA K Y H xs vs|.ins c fs=>∃C dx vs,O c=V C/\H a=V (.ins C dx vs)/\cg K Y H fs vs|.aV kvs=>∃vs,H a=V (.dK vs)/\cg K Y H kvs vs|.exc c fs=>∃C tv d,gY Y H d fs/\W.nsIn K Z4 c=V (V<|.ref C)/\H a=V (cB a C tv d)/\iK H tv|.tab q=>k8 K H q a|.i9 c fs=>∃C oe u vs,gY Y H oe.2 fs/\W.nsIn K Z4 c=V (V<|.ref C)/\H a=V (.bK oe u)/\oe.1=.ref C/\oe.3=.fields vs/\vs[2]?=V .none
def RO.some{O:aN}{K:W.Frag}{Y:Tt}{H:Hp}{a:ZF}{o:IX}(h:RO O K Y H a o):∃u,H a=V u:=by cases o with|lst xs=>let#[j,e,_]:=h;show#[_,e]|ins c fs=>let#[_,_,j,_,e,_]:=h;show#[_,e]|aV k=>let#[j,e,_]:=h;show#[_,e]|exc c fs=>let#[C,m,d,_,_,e,_]:=h;show#[_,e]|tab q=>let#[_,ps,e,_]:=h;show#[_,e]|i9 c fs=>let#[_,_,_,_,_,_,e,_]:=h;show#[_,e]
def RO.mono{K:W.Frag}(n:bc Y H Y' H')(k:∀u,H a=V u->H' a=V u)(h:RO O K Y H a o):RO O K Y' H' a o:=by cases o with|lst xs=>let#[j,e,r]:=h;show#[j,k _ e,aA.mono n _ _ r]|ins c fs=>let#[C,E,j,m,e,r]:=h;show#[C,E,j,m,k _ e,cg.mono n _ _ r]|aV G=>let#[j,e,r]:=h;show#[j,k _ e,cg.mono n _ _ r]|exc c fs=>let#[C,F,d,B,m,e,r]:=h;show#[C,F,d,B.FA n,m,k _ e,r.mono n.2.2]|tab q=>show k8.mono n.2.2 k h|i9 c fs=>let#[C,D,u,j,B,m,e,r]:=h;show#[C,D,u,j,B.FA n,m,k _ e,r]
structure Rel(O:aN)(K:W.Frag)(Y:Tt)(h:IH)(H:Hp):Prop where
 len:WP Y=WP h
 nd:Y.Nodup
 at_:∀(i:Nat)(o:IX),h[i]?=V o->∃a,Y[i]?=V a/\RO O K Y H a o
section
variable{O:aN}{K:W.Frag}{Y:Tt}{h:IH}{H:Hp}
def Rel.some(R:Rel O K Y h H){i:Nat}(e:Y[i]?=V a):∃u,H a=V u:=by
 let k:i<WP h:=by rw[<-R.1];show(Zp.1 e).1
 let#[b,j,r]:=R.3 i _<|Zd k;rw[e]at j;cases j;show r.some
def Rel.iL(R:Rel O K Y h H)(e:H l=Zg):l∉Y:=(λk=>by
 let#[i,m,q]:=ib.1 k;let#[u,j]:=R.some (i:=i) (a:=l)<|by simp_all
 rw[e]at j;cases j)
def Ext.gZ(e:H l=Zg):Ext H (upd H l o):=(#[λb xs q=>by rw[Jq<|QX q e];show q,λb o u q=>by rw[Jq<|QX q e];show q])
def Rel.grow(R:Rel O K Y h H)(e:H l=Zg):Rel O K Y h (upd H l o)/\bc Y H Y (upd H l o):=by let n:bc Y H Y (upd H l o):=#[#[[],03],Ext.gZ e];calc#[#[R.1,R.2,λi u q=>?_],n];let#[a,k,r]:=R.3 i u q;show#[a,k,r.mono n λw j=>by rw[Jq<|QX j e];show j]
def Rel.alloc(R:Rel O K Y h H)(e:H l=Zg)(r:RO O K (Y++[l]) (upd H l o) l io):Rel O K (Y++[l]) (h++[io]) (upd H l o)/\bc Y H (Y++[l]) (upd H l o):=by
 let n:bc Y H (Y++[l]) (upd H l o):=#[#[[l],07],Ext.gZ e];refine#[#[by simp[R.1],?_,λi u q=>?_],n]
 .rw[kQ];calc#[R.2,03,λa ha b B=>?_];let:b=l:=by simpa using B
  subst this;rintro rfl;show R.iL e ha
 .by_cases m:i<WP h
  .rw[ZN m]at q;let#[a,C,D]:=R.3 i u q;show#[a,n.at C,D.mono n λw k=>by rw[Jq<|QX k e];show k]
  .let j:i=WP h:=by let:=(Zp.1 q).1;simp at this;show ZW (yn this)<|ZM m
   subst j;simp at q;subst q;calc#[l,?_,r];rw[<-R.1];simp
def Rel.inj(R:Rel O K Y h H){i j:Nat}(e1:Y[i]?=V a)(k:Y[j]?=V a):i=j:=by let#[m,q1]:=Zp.1 e1;let#[J,q2]:=Zp.1 k;show(yA R.2).1<|q1.trans q2.symm
def Ext.cw(e:H l=V u)(m:oO<|H l):Ext H (upd H l o):=by
 refine#[λb xs q=>?_,λb ob w q=>?_]
 .by_cases j:b=l
  .subst j;rw[q]at m;show(m).elim
  .rw[Jq j];show q
 .by_cases j:b=l
  .subst j;rw[q]at m;show(m).elim
  .rw[Jq j];show q
def Rel.write(R:Rel O K Y h H)(e:Y[i]?=V a)(ha:H a=V u)(m:oO<|H a)(r:RO O K Y (upd H a o) a io):Rel O K Y (h.set i io) (upd H a o)/\bc Y H Y (upd H a o):=by
 let n:bc Y H Y (upd H a o):=#[#[[],03],Ext.cw ha m];calc#[#[by simp[R.1],R.2,λj w q=>?_],n];by_cases k:j=i
 .subst k;let D:j<WP h:=by let:=(Zp.1 q).1;simpa using this
  rw[iY D]at q;cases q;show#[a,e,r]
 .rw[ia<|bP k]at q;let#[b,B,C]:=R.3 j w q;calc#[b,B,C.mono n λv E=>?_];let:b≠a:=by rintro rfl;show k<|R.inj B e
  rw[Jq this];show E
end
structure j7(K:W.Frag)(Y:Tt)(H:Hp)(bD:aD)(U:L2.St):Prop where
 len:WP bD=WP U
 at_:∀(j:Nat)(v:IV),bD[j]?=V (V v)->∃u,U[j]?=V (V u)/\RV K Y H v u
def j7.mono{K:W.Frag}(n:bc Y H Y' H')(r:j7 K Y H bD U):j7 K Y' H' bD U:=(#[r.1,λj v e=>let ⟨u,k,q⟩:=r.2 j v e;#[u,k,RV.mono n _ _ q]])
def j7.set{K:W.Frag}(r:j7 K Y H bD U)(i)(q:RV K Y H x v):j7 K Y H (bD.set i<|V x) (U.set i<|V v):=by
 calc#[by simp[r.1],λj w e=>?_];by_cases k:j=i
 .subst k;let m:j<WP bD:=by let:=(Zp.1 e).1;simpa using this
  rw[iY m]at e;cases e;show#[v,by rw[iY<|by rw[<-r.1];show m],q]
 .rw[ia<|bP k]at e;let#[u,B,q1]:=r.2 j w e;show#[u,by rw[ia<|bP k];show B,q1]
structure aB(O:aN)(X:Cx)(Z:aZ)(Y:Tt)(bD:aD)(h:IH)(U:L2.St)(H:Hp)(s:Z5):Prop where
 inv:Inv X Z U H s
 rel:Rel O X.K Y h H
 st:j7 X.K Y H bD U
def RU(K:W.Frag)(Y:Tt)(H:Hp)(v:IV)(u:Zv):Prop:=∃x,RelV x u/\RV K Y H v x
def RU.mono{K:W.Frag}(n:bc Y H Y' H')(r:RU K Y H v u):RU K Y' H' v u:=(let ⟨x,a,b⟩:=r;#[x,a,RV.mono n _ _ b])
def jy(K:W.Frag)(Y:Tt)(H:Hp)(vs:Tv)(us:Tu):Prop:=∃xs,Vals xs us/\aA K Y H vs xs
def jy.mono{K:W.Frag}(n:bc Y H Y' H')(r:jy K Y H v u):jy K Y' H' v u:=(let ⟨x,a,b⟩:=r;#[x,a,aA.mono n _ _ b])
abbrev pU(α β:Type):=W.Frag->Tt->Hp->α->β->Prop
def RB:pU Bool Bool:=λ_ _ _ b c=>c=b
section
variable{α β γ δ:Type}
def Kont(O:aN)(X:Cx)(R:pU α β)(Z:aZ)(Y:Tt)(bD:aD)(U:L2.St)(H:Hp)(r:Res α)(Q:β->Z5->Prop)(E:aQ):Prop:=match r with|.ok v h'=>∀u s' H' Y',aB O X Z Y' bD h' U H' s'->bc Y H Y' H'->R X.K Y' H' v u->Q u s'|.exc n h'=>∀pl a s' H' Y',aB O X (Z++pl) Y' bD h' U H' s'->bc Y H Y' H'->Y'[n]?=V a->E (.ref a) s'|.stuck=>False
variable{O:aN}{X:Cx}{R:pU α β}{R':pU γ δ}{Z:aZ}{Y Y':Tt}{bD:aD}{U:L2.St}{H H':Hp}
def Kont.mono(k:Kont O X R Z Y bD U H r Q E)(n:bc Y H Y' H'):Kont O X R Z Y' bD U H' r Q E:=by cases r with|ok v D=>show λu C j B N n2 q=>k u C j B N (n.trans n2) q|exc m D=>show λpl a C j B N n2 q=>k pl a C j B N (n.trans n2) q|stuck=>show k
def PX(O:aN)(X:Cx)(R:pU α β)(t:Sem β)(m:aD->IH->Res α):Prop:=∀(Z:aZ)(s:Z5)(U:L2.St)(H:Hp)(Y:Tt)(bD:aD)(h:IH)(Q:β->Z5->Prop)(E:aQ),aB O X Z Y bD h U H s->Kont O X R Z Y bD U H (m bD h) Q E ->Z0 (ZA X.1 X.w) X.A t Q E s
def PX.run(p:PX O X R t m)(N:aB O X Z Y bD h U H s) (K:Kont O X R' Z Y bD U H ((m bD h).bind g) Q E) (step:∀x h1 u s1 H1 j,aB O X Z j bD h1 U H1 s1->bc Y H j H1->R X.K j H1 x u->Kont O X R' Z j bD U H1 (g x h1) Q E->Q1 u s1):Z0 (ZA X.1 X.w) X.A t Q1 E s:=by calc p Z s U H Y bD h Q1 E N ?_;cases e:m bD h with|ok v k=>rw[e]at K;show λu G F C D B r=>step v k u G F C D B r<|Kont.mono K B|exc n k=>rw[e]at K;show K|stuck=>rw[e]at K;show K
end
abbrev ai(O:aN)(X:Cx)(e:Expr)(m:aD->IH->Res IV):Prop:=PX O X RU (bj e X.10) m
abbrev g7(O:aN)(X:Cx)(e:Expr)(m:aD->IH->Res Bool):Prop:=PX O X RB (isTrue e X.10<|bj e X.10) m
def mC(O:aN)(X:Cx)(e:Expr)(m:aD->IH->Res Bool):Prop:=∀whole:Sem Zv,PX O X RB (isTrue e X.10 whole) m
def dR(O:aN)(X:Cx)(es:Td)(m:aD->IH->Res (Tv)):Prop:=∀pos:Pos,PX O X jy (spliced<|eJ pos<|ZT es X.10) m
abbrev E1:=aD->IH->Res IV
abbrev _root_.Tw:=List E1
abbrev T1:=aD->IH->Res Bool
abbrev A1:=aD->IH->Res (Tv)
noncomputable def Ja (i:Nat):E1:=λU h=>match U[i]? with|some (V v)=>.ok v h|_=>.stuck
noncomputable def eC (v:IV):E1:=λ_ h=>.ok v h
def Jc(f:IV->IV->IH->Res IV)(a b:E1):E1:=λU h=>(a U h).bind λx h1=>(b U h1).bind λy J=>f x y J
def jT(f:IV->IH->Res IV)(a:E1):E1:=λU h=>(a U h).bind λx h1=>f x h1
def eX(a b:E1)(tr:IV->IH->Res Bool):E1:=λU h=>(a U h).bind λx h1=>(tr x h1).bind λc J=>if c then b U J else .ok x J
def rN(a b:E1)(tr:IV->IH->Res Bool):E1:=λU h=>(a U h).bind λx h1=>(tr x h1).bind λc J=>if c then .ok x J else b U J
def k9(t:T1)(a b:E1):E1:=λU h=>(t U h).bind λc h1=>if c then a U h1 else b U h1
def QO(a b:T1):T1:=λU h=>(a U h).bind λc h1=>if c then b U h1 else .ok Zo h1
def fB(a b:T1):T1:=λU h=>(a U h).bind λc h1=>if c then .ok Zl h1 else b U h1
def JJ(a:T1):T1:=λU h=>(a U h).bind λc h1=>.ok (!c) h1
def Ji(tr:IV->IH->Res Bool)(a:E1):T1:=λU h=>(a U h).bind λx h1=>tr x h1
noncomputable def Je:A1:=λ_ h=>.ok [] h
def Jb(a:E1)(r:A1):A1:=λU h=>(a U h).bind λx h1=>(r U h1).bind λxs J=>.ok (x::xs) J
def JS(f g:IV->IV->IH->Res IV)(a b c:E1):E1:=λU h=>(a U h).bind λx h1=>(b U h1).bind λy J=>(f x y J).bind λk h3=>match k with|.bl Zl=>(c U h3).bind λz h4=>g y z h4|.bl Zo=>.ok (.bl Zo) h3|_=>.stuck
section
variable{O:aN}{X:Cx}{a b c:Expr}{ma mb mc:E1}{pos:Pos}
def dU(O:aN)(X:Cx)(f:Zv->Zv->Sem Zv)(g:IV->IV->IH->Res IV):Prop:=∀(Z:aZ)(s:Z5)(U:L2.St)(H:Hp)(Y:Tt)(bD:aD)(h:IH)(x y:IV)(v u:Zv)(Q:aQ)(E:aQ),aB O X Z Y bD h U H s->RU X.K Y H x v->RU X.K Y H y u ->Kont O X RU Z Y bD U H (g x y h) Q E->Z0 (ZA X.1 X.w) X.A (f v u) Q E s
def vY(O:aN)(X:Cx)(f:Zv->Sem Zv)(g:IV->IH->Res IV):Prop:=∀(Z:aZ)(s:Z5)(U:L2.St)(H:Hp)(Y:Tt)(bD:aD)(h:IH)(x:IV)(v:Zv)(Q:aQ)(E:aQ),aB O X Z Y bD h U H s->RU X.K Y H x v ->Kont O X RU Z Y bD U H (g x h) Q E->Z0 (ZA X.1 X.w) X.A (f v) Q E s
def tG(O:aN)(X:Cx)(g:IV->IH->Res Bool):Prop:=∀(Z:aZ)(s:Z5)(U:L2.St)(H:Hp)(Y:Tt)(bD:aD)(h:IH)(x:IV)(v:Zv)(Q:Bool->Z5->Prop)(E:aQ),aB O X Z Y bD h U H s->RU X.K Y H x v ->Kont O X RB Z Y bD U H (g x h) Q E->Z0 (ZA X.1 X.w) X.A (truthy v) Q E s
def QE(O:aN)(X:Cx)(f:Zv)(g:Tv->IH->Res IV):Prop:=∀(Z:aZ)(s:Z5)(U:L2.St)(H:Hp)(Y:Tt)(bD:aD)(h:IH)(xs:Tv)(us:Tu)(Q:aQ)(E:aQ),aB O X Z Y bD h U H s->jy X.K Y H xs us ->Kont O X RU Z Y bD U H (g xs h) Q E->Z0 (ZA X.1 X.w) X.A (call f us) Q E s
def Yb(p:PE (X.bo E) e t)(I:Inv X Z U H s) (k:t U H λz H'=>∀u s',Inv X Z U H' s'->RelV z u->Q u s'):Z0 (ZA X.1 X.w) X.A (bj e X.10) Q E s:=(dD (p Z s U H _ (I.bo E) k) (λu s' ⟨_,_,j,r,q⟩=>q u s' j.bH r) λ_ _ z=>z)
def Ql(p:fW (X.bo E) f r)(I:Inv X Z U H s)(j:RelV x v)(B:RelV y u) (k:r x y H λz H'=>∀u s',Inv X Z U H' s'->RelV z u->Q u s'):Z0 (ZA X.1 X.w) X.A (f v u) Q E s:=(dD (p Z s U H x y v u _ (I.bo E) j B k) (λu s' ⟨_,_,m,r,q⟩=>q u s' m.bH r) λ_ _ z=>z)
def Ow(p:zM (X.bo E) f r)(I:Inv X Z U H s)(j:RelV x v) (k:r x H λz H'=>∀u s',Inv X Z U H' s'->RelV z u->Q u s'):Z0 (ZA X.1 X.w) X.A (f v) Q E s:=(dD (p Z s U H x v _ (I.bo E) j k) (λu s' ⟨_,_,m,r,q⟩=>q u s' m.bH r) λ_ _ z=>z)
def Xd(p:tu (X.bo E) r)(I:Inv X Z U H s)(m:RelV x v) (k:r x H λz H'=>∀s',Inv X Z U H' s'->Q z s'):Z0 (ZA X.1 X.w) X.A (truthy v) Q E s:=(dD (p Z s U H x v _ (I.bo E) m k) (λ_ s' ⟨_,j,q⟩=>q s' j.bH) λ_ _ z=>z)
def Vl(p:Xy (X.bo E) f r)(I:Inv X Z U H s)(j:Vals xs us) (k:r xs H λz H'=>∀u s',Inv X Z U H' s'->RelV z u->Q u s'):Z0 (ZA X.1 X.w) X.A (call f us) Q E s:=(dD (p Z s U H xs us _ (I.bo E) j k) (λu s' ⟨_,_,m,r,q⟩=>q u s' m.bH r) λ_ _ z=>z)
def Ox(i)(m:X.N[i]?=V x:=by rfl)(B:pM X.10.1 x:=by assumption)(hd:(x==("__debug__":Str))=Zo:=by decide) (j:(x==("__classdict__":Str))=Zo:=by decide):ai O X (.Name x pos) (Ja i):=by
 intro Z s U H Y C h Q E N K;unfold Ja at K;cases e:C[i]? with|none=>rw[e]at K;show(K).elim|some o=>cases o with|none=>rw[e]at K;show(K).elim|some v=>rw[e]at K;let#[u,G,q]:=N.3.2 i v e;show Yb (M4 m B hd j) N.1 #[u,G,λD I k F=>K D I H Y #[k,N.2,N.3] .refl #[u,F,q]]
def FC{i j pos}:ai O X (.Constant (.int i) j pos) (eC<|.int i):=(λ_ _ _ H Y _ _ _ E N K=>Yb (M5) N.1 λm B k u=>K m B H Y #[k,N.2,N.3] .refl #[_,u,07])
def tH{i j pos}:ai O X (.Constant (.bool i) j pos) (eC<|.bl i):=(λ_ _ _ H Y _ _ _ E N K=>Yb (M6) N.1 λm B k u=>K m B H Y #[k,N.2,N.3] .refl #[_,u,07])
def FD{j pos}:ai O X (.Constant .none j pos) (eC .ah):=(λ_ _ _ H Y _ _ _ E N K=>Yb (M7) N.1 λm B k u=>K m B H Y #[k,N.2,N.3] .refl #[_,u,07])
def FE{i j pos}:ai O X (.Constant (.str i) j pos) (eC<|.str i):=(λ_ _ _ H Y _ _ _ E N K=>Yb (M8) N.1 λm B k u=>K m B H Y #[k,N.2,N.3] .refl #[_,u,07])
def Oy(k:Gl X x)(hm:X.4 x=V u)(r:RelV v u)(q:∀Y H,RV X.K Y H iv v)(hd:(x==("__debug__":Str))=Zo:=by decide):ai O X (.Name x pos) (eC iv):=(λ_ _ _ H Y _ _ _ E N K=>Yb (M9 k hm r hd) N.1 λm C j B=>K m C H Y #[j,N.2,N.3] .refl #[_,B,q _ _])
def Oz(ho:dU O X (f7 op) f)(ha:ai O X a ma)(C:ai O X b mb):ai O X (.BinOp a op b pos) (Jc f ma mb):=(λZ s U H Y F h Q E N K=>wpAny_BinOp<|ha.run N K λx P u W S R I n1 L k=>C.run I k λy J w j D m B n2 M G=>ho Z j U D m F J x y u w Q E B (L.mono n2) M G)
def z8(ho:vY O X (unaryOp op) f)(ha:ai O X a ma):ai O X (.UnaryOp op a pos) (jT f ma):=(λZ s U H Y C h Q E N K=>UnaryOp_<|ha.run N K λx j u F B m D n1 G k=>ho Z F U B m C j x u Q E D G k)
def OA(ho:dU O X (fb op) f)(ha:ai O X a ma)(C:ai O X b mb)(hm:qW op b=Zo:=by assumption):ai O X (.Compare a [op] [b] pos) (Jc f ma mb):=(λZ s U H Y F h Q E N K=>wpAny_Compare1 (ha.run N K λx P u W S R I n1 L k=>C.run I k λy J w j D m B n2 M G=>ho Z j U D m F J x y u w Q E B (L.mono n2) M G) hm)
noncomputable def bg:IV->IH->Res Bool|.bl b,h=>.ok b h|_,_=>.stuck
def Kont.bg{r:Res IV}(K:Kont O X RB Z Y bD U H (r.bind bg) Q E):Kont O X RU Z Y bD U H r (λv s=>Z0 (ZA X.1 X.w) X.A (truthy v) Q E s) E:=by
 cases r with|exc n h=>show K|stuck=>show K|ok v h=>intro u B m j N n q;let#[x,k,q]:=q;cases v with|bl b=>let e:x=.bl b:=q;subst e;cases k;show ph<|K b B m j N n 07|_=>show Zf K
def Res.dm(r:Res α)(f)(g:β->IH->Res γ):(r.bind f).bind g=r.bind λx h=>(f x h).bind g:=by cases r<;>rfl
def OB(ho:dU O X (fb op) f)(ha:ai O X a ma)(B:ai O X b mb)(hm:qW op b=Zo:=by assumption):g7 O X (.Compare a [op] [b] pos) (Ji bg<|Jc f ma mb):=(λZ s U H Y j h Q E N K=>by
  let L:Kont O X RB Z Y j U H ((ma j h).bind λx k=>(mb j k).bind λy J=>(f x y J).bind bg) Q E:=by unfold Ji Jc at K;simp![Res.dm]at K;show K
  show wpAny_isTrue_Compare1 (ha.run N L λx k u s1 W S C n1 D G=>B.run C G λy J w F M m I n2 R P=>ho Z F U M m j J x y u w _ E I (D.mono n2) R<|Kont.bg P) hm)
def FF(B:tG O X tr)(ha:ai O X a ma)(D:∀j,isTrue a X.10 j=(do let v<-j;mV a.pos;iE [v] (truthy v)):=by intro _;rfl):g7 O X a (Ji tr ma):=(λZ s U H Y G h Q E N K=>isTrue_plain (ha.run N K λx k u J F C I n1 L m=>B Z J U F C G k x u Q E I L m)<|D _)
variable{rest:Td}{ta tb:T1}
def OC(ha:g7 O X a ta):mC O X (.BoolOp .And [a] pos) ta:=(λI Z s U H Y B h Q E N K=>by
 calc isTrue_and<|ha Z s U H Y B h _ E N ?_;cases e:ta B h with
 |ok v F=>rw[e]at K;intro u D k j m C r;let G:=r;subst G;cases u with|true=>show isTrue_and_nil<|K Zl D k j m C 07|false=>show K Zo D k j m C 07
 |exc n F=>rw[e]at K;show K
 |stuck=>rw[e]at K;show K)
def OD(ha:g7 O X a ta):mC O X (.BoolOp .Or [a] pos) ta:=(λI Z s U H Y B h Q E N K=>by
 calc isTrue_or<|ha Z s U H Y B h _ E N ?_;cases e:ta B h with
 |ok v F=>rw[e]at K;intro u D k j m C r;let G:=r;subst G;cases u with|false=>show isTrue_or_nil<|K Zo D k j m C 07|true=>show K Zl D k j m C 07
 |exc n F=>rw[e]at K;show K
 |stuck=>rw[e]at K;show K)
def OE(ha:g7 O X a ta)(G:mC O X (.BoolOp .And (b::rest) pos) tb):mC O X (.BoolOp .And (a::b::rest) pos) (QO ta tb):=(λF Z s U H Y I h Q E N K=>
 isTrue_and (ha.run N K λc D u C m k B n1 L j=>by let J:=L;subst J;cases u with|true=>show G F Z C U m k I D Q E B j|false=>show j Zo C m k B .refl 07))
def OF(ha:g7 O X a ta)(G:mC O X (.BoolOp .Or (b::rest) pos) tb):mC O X (.BoolOp .Or (a::b::rest) pos) (fB ta tb):=(λF Z s U H Y I h Q E N K=>
 isTrue_or (ha.run N K λc D u C m k B n1 L j=>by let J:=L;subst J;cases u with|false=>show G F Z C U m k I D Q E B j|true=>show j Zl C m k B .refl 07))
def mC.t(h:mC O X a ta):g7 O X a ta:=(h _)
def OG(ha:g7 O X a ta):g7 O X (.UnaryOp .Not a pos) (JJ ta):=(λZ s U H Y I h Q E N K=>
 isTrue_not (ha.run N K λc G u D m k C n1 F j=>by let B:=F;subst B;show j (!u) D m k C .refl 07))
def FG{op}(h:ai O X a ma):ai O X (.BoolOp op [a] pos) ma:=(λZ s U H Y k j Q E N K=>BoolOp_one<|h Z s U H Y k j Q E N K)
def OH(R:tG O X tr)(ha:ai O X a ma)(M:ai O X (.BoolOp .And (b::rest) pos) mb):ai O X (.BoolOp .And (a::b::rest) pos) (eX ma mb tr):=(λZ s U H Y I h Q E N K=>
 BoolOp_and (ha.run N K λx k u s1 S L P n1 B j=>by
  calc R Z s1 U S L I k x u _ E P B ?_;cases e:tr x k with
  |ok c J=>rw[e]at j;intro d C F m D n2 r2;let W:=r2;subst W;let G:=Kont.mono j n2;cases d with|true=>show M Z C U F m I J Q E D G|false=>show G u C F m D .refl<|B.mono n2
  |exc n h'=>rw[e]at j;show j
  |stuck=>rw[e]at j;show j))
def z9(R:tG O X tr)(ha:ai O X a ma)(M:ai O X (.BoolOp .Or (b::rest) pos) mb):ai O X (.BoolOp .Or (a::b::rest) pos) (rN ma mb tr):=(λZ s U H Y I h Q E N K=>
 BoolOp_or (ha.run N K λx k u s1 S L P n1 B j=>by
  calc R Z s1 U S L I k x u _ E P B ?_;cases e:tr x k with
  |ok c J=>rw[e]at j;intro d C F m D n2 r2;let W:=r2;subst W;let G:=Kont.mono j n2;cases d with|false=>show M Z C U F m I J Q E D G|true=>show G u C F m D .refl<|B.mono n2
  |exc n h'=>rw[e]at j;show j
  |stuck=>rw[e]at j;show j))
def vZ(tr:IV->IH->Res Bool):IV->IH->Res IV:=λx h=>(tr x h).bind λc h1=>.ok (.bl (!c)) h1
def OI(u:tG O X tr):vY O X (unaryOp .Not) (vZ tr):=(λZ s U H Y C h x v Q E N r K=>by calc not_of<|u Z s U H Y C h x v _ E N r ?_;unfold vZ at K;cases e:tr x h with|ok c J=>rw[e]at K;intro d F B k m n2 j;let D:=j;subst D;show K _ F B k m n2 #[.bl (!d),07,07]|exc n G=>rw[e]at K;show K|stuck=>rw[e]at K;show K)
def OJ{j:T1}(I:g7 O X t j)(ha:ai O X a ma)(J:ai O X b mb):ai O X (.IfExp t a b pos) (k9 j ma mb):=(λZ s U H Y D h Q E N K=>
 wpAny_IfExp (I.run N K λc k u G C B F n1 M m=>by let L:=M;subst L;cases u with|true=>show ha Z G U C B D k Q E F m|false=>show J Z G U C B D k Q E F m))
def OL(ho:dU O X (fb op) f)(m:dU O X (fb op') g)(ha:ai O X a ma)(W:ai O X b mb)(hc:ai O X c mc) (hm:qZ [op,op'] [b,c]=Zo:=by with_unfolding_all rfl):ai O X (.Compare a [op,op'] [b,c] pos) (JS f g ma mb mc):=(λZ s U H Y F h Q E N K=>
 Compare_chain (ha.run N K λx h1 u s1 H1 U1 N1 n1 r1 K1=>chain_link (W.run N1 K1 λy J w s2 H2 S N2 n2 G j=>by
  calc ho Z s2 U H2 S F J x y u w _ E N2 (r1.mono n2) G ?_;cases e:f x y J with|exc n h'=>rw[e]at j;show j|stuck=>rw[e]at j;show j|ok k h3=>
   rw[e]at j;intro d L H3 R B C r3;let#[z,M,q]:=r3;cases k with
   |bl k=>let e':=q;subst e';cases M;calc ph ?_;let D:=Kont.mono j C;cases k with|false=>show ite_ff<|D _ L H3 R B .refl #[.bl Zo,07,07]|true=>show ite_tt<|chain_last<|hc.run B D λz h4 w' s4 H4 U4 N4 P I K4=>m Z s4 U H4 U4 F h4 y z w w' Q E N4 ((G.mono C).mono P) I K4
   |_=>show(j).elim)) hm)
def OM(ho:dU O X (fb op) f)(F:dU O X (fb op') g)(ha:ai O X a ma)(hb:ai O X b mb)(hc:ai O X c mc) (hm:qZ [op,op'] [b,c]=Zo:=by with_unfolding_all rfl):g7 O X (.Compare a [op,op'] [b,c] pos) (Ji bg<|JS f g ma mb mc):=(λZ s U H Y j h Q E N K=>by
 let K':Kont O X RB Z Y j U H ((ma j h).bind λx G=>(mb j G).bind λy J=>(f x y J).bind λk C=>(match k with|.bl Zl=>(mc j C).bind λz m=>g y z m|.bl Zo=>.ok (.bl Zo) C|_=>.stuck:Res IV).bind bg) Q E:=by unfold Ji JS at K;simp![Res.dm]at K;show K
 calc isTrue_chain (ha.run N K' λx G u s1 H1 U1 N1 n1 r1 K1=>test_link<|hb.run N1 K1 λy J w s2 H2 W2 N2 n2 S B=>?_) hm;calc ho Z s2 U H2 W2 j J x y u w _ E N2 (r1.mono n2) S ?_;cases e:f x y J with|exc n h'=>rw[e]at B;show B|stuck=>rw[e]at B;show B|ok k C=>
  rw[e]at B;intro d s3 R I L M r3;let#[z,rz,q]:=r3;cases k with
  |bl k=>
   let e':=q;subst e';cases rz;calc ph ?_;let P:=Kont.mono (r:=(match IV.bl k with|.bl Zl=>(mc j C).bind λz m=>g y z m|.bl Zo=>.ok (.bl Zo) C|_=>.stuck:Res IV).bind bg) B M;cases k with|false=>show ite_ff<|P _ s3 R I L .refl 07|true=>
    let D:Kont O X RB Z I j U R ((mc j C).bind λz m=>(g y z m).bind bg) Q E:=by let:=P;rw[Res.dm]at this;show this
    show ite_tt<|test_last<|hc.run L D λz m w' s4 H4 U4 N4 n4 W K4=>F Z s4 U H4 U4 j m y z w w' _ E N4 ((S.mono M).mono n4) W<|Kont.bg K4
  |_=>show(B).elim)
variable{es:Td}{mr:A1}
def jy.nil{K:W.Frag}:jy K Y H [] []:=(#[[],.nil,07])
def jy.cons{K:W.Frag}{Y:Tt}{H:Hp}{x:IV}{u:Zv}{xs:Tv}{us:Tu}(a:RU K Y H x u)(b:jy K Y H xs us):jy K Y H (x::xs) (u::us):=(let ⟨v,r,q⟩:=a;let ⟨j,m,k⟩:=b;#[v::j,.cons r m,v,j,07,q,k])
def QS:dR O X [] Je:=(λ_ Z s U H Y j h Q E N K=>Calls.spliced_nil<|K [] s H Y N .refl .nil)
def QG(ha:ai O X a ma)(k:dR O X es mr)(hs:ZT (a::es) X.10=(Zo,bj a X.10)::ZT es X.10:=by rfl):dR O X (a::es) (Jb ma mr):=by intro j Z s U H Y bD h Q E N K;rw[hs];show zo<|ha.run N K λx P u s1 W R B n1 C F=>(k j).run B F λxs J S D I m G n2 M L=>L _ D I m G .refl<|.cons (C.mono n2) M
end
noncomputable def Js:IV->IV->IH->Res IV
 |.int i,.int j,h=>.ok (.int<|i+j) h
 |.str x,.str y,h=>if x.length+y.length<=sizeLine then .ok (.str<|x++y) h else .stuck
 |.ref i,.ref j,h=>match h[i]?,h[j]? with
  |some (.lst xs),V (.lst ys)=>if (WP xs)+WP ys<=sizeLine then .ok (.ref (WP h)) (h++[.lst<|xs++ys])else .stuck
  |_,_=>.stuck
 |.tup xs,.tup ys,h=>if xs≠[]/\ys≠[]/\WP xs+WP ys<=sizeLine then .ok (.tup<|xs++ys) h else .stuck
 |_,_,_=>.stuck
noncomputable def JQ:IV->IV->IH->Res IV|.int i,.int j,h=>.ok (.int<|i-j) h|_,_,_=>.stuck
def Vq(i j:Int):Prop:=i.natAbs<2^64\/j.natAbs<2^64\/(i.natAbs.log2<1048576/\j.natAbs.log2<1048576)
instance (i j:Int):Decidable (Vq i j):=by unfold Vq;show inferInstance
noncomputable def XL:IV->IV->IH->Res IV
 |.int i,.int j,h=>if Vq i j then .ok (.int<|i*j) h else .stuck
 |.ref i,.int k,h=>match h[i]? with
  |some (.lst xs)=>if -(2^63)<=k/\k<2^63/\WP xs*k.toNat<=sizeLine then .ok (.ref (WP h)) (h++[.lst (d8 k.toNat xs).flatten])else .stuck
  |_=>.stuck
 |_,_,_=>.stuck
noncomputable def Qa:IV->IV->IH->Res IV|.int i,.int j,h=>if 0<j/\j.natAbs.log2<9000 then .ok (.int<|i/j) h else .stuck|_,_,_=>.stuck
noncomputable def J8:IV->IV->IH->Res IV|.int i,.int j,h=>if 0<j then .ok (.int<|i%j) h else .stuck|_,_,_=>.stuck
noncomputable def Qb:IV->IV->IH->Res IV|.int i,.int j,h=>if 0<=j/\j<=1000000/\i.natAbs<2^64 then .ok (.int<|i^j.toNat) h else .stuck|_,_,_=>.stuck
noncomputable def v5:IV->IH->Res IV|.int i,h=>.ok (.int (-i)) h|_,_=>.stuck
section
variable{O:aN}{X:Cx}
def aL(N:aB O X Z Y bD h U H s)(K:Kont O X RU Z Y bD U H (.ok v h) Q E) (q:RV X.K Y H v w):∀u s',Inv X Z U H s'->RelV w u->Q u s':=(λu s' I r=>K u s' H Y #[I,N.2,N.3] .refl #[w,r,q])
def fE(N:aB O X Z Y bD h U H s) (K:Kont O X RU Z Y bD U H (.ok (.ref (WP h))<|h++[io]) Q E)(l)(e:H l=Zg)(r:RO O X.K (Y++[l]) (upd H l o) l io):∀u s',Inv X Z U (upd H l o) s'->RelV (.ref l) u->Q u s':=(λu s' I j=>by let#[R,n]:=N.2.alloc e r;calc K u s' _ _ #[I,R,N.3.mono n] n #[.ref l,j,l,07,?_];rw[<-N.2.1];simp)
def m8(N:aB O X Z Y bD h U H s) (K:Kont O X RU Z Y bD U H (.ok (.tup xs) h) Q E)(l)(e:H l=Zg)(r:aA X.K Y H xs vs):∀u s',Inv X Z U (upd H l<|.tup vs) s'->RelV (.ref l) u->Q u s':=(λu s' I j=>by let#[R,n]:=N.2.grow e;show K u s' _ _ #[I,R,N.3.mono n] n #[.ref l,j,l,vs,07,eL.of Jz,aA.mono n _ _ r])
def aA.new{K:W.Frag}(e:H l=Zg)(r:aA K Y H xs vs):aA K (Y++[l]) (upd H l o) xs vs:=(aA.mono #[#[[l],07],Ext.gZ e] _ _ r)
def aB.at(N:aB O X Z Y bD h U H s){i:Nat}(e:h[i]?=V o)(ha:Y[i]?=V a):RO O X.K Y H a o:=by let#[b,j,r]:=N.2.3 i o e;rw[ha]at j;cases j;show r
def ON:dU O X (f7 .Add) Js:=by
 intro Z s U H Y bD h x y v u Q E N B C K;let#[xv,B,M]:=B;let#[yv,C,P]:=C;cases x with
 |int i=>cases y with|int j=>let k:=M;let m:=P;subst k m;show Ql (Nj) N.1 B C #[i,j,07,07,aL N K 07]|_=>show(K).elim
 |str i=>
  cases y with
  |str j=>
   let k:=M;let m:=P;subst k m;dsimp only[Js]at K;split at K
   .rename_i D;show Ql (NC) N.1 B C #[i,j,07,07,D,aL N K 07]
   .show(K).elim
  |_=>show(K).elim
 |tup xs=>
  cases y with
  |tup ys=>
   let#[a,I,k,sa,S]:=M;let#[b,L,m,sb,W]:=P;subst k m;dsimp only[Js]at K;split at K
   .rename_i D;let#[h1,J,h3]:=D;let n1:I≠[]:=λz=>h1 (by let:=S.length;rw[z]at this;show uA this.symm)
    let n2:L≠[]:=λz=>J (by let:=W.length;rw[z]at this;show uA this.symm)
    show Ql (NT) N.1 B C #[a,b,I,L,07,07,sa,sb,n1,by rw[S.length,W.length];show h3,λz=>absurd z n2,λ_ p G=>m8 N K p G<|S.append W]
   .show(K).elim
  |_=>show(K).elim
 |ref i=>
  cases y with
  |ref j=>
   let#[a,k,ha]:=M;let#[b,m,hb]:=P;subst k m;dsimp only[Js]at K;cases F:h[i]? with|none=>rw[F]at K;show(K).elim|some oi=>
    cases R:h[j]? with|none=>rw[F,R]at K;cases oi<;>show(K).elim|some oj=>
     rw[F,R]at K;cases oi with
     |lst xs=>
      cases oj with
      |lst ys=>
       dsimp only at K;split at K
       .rename_i D;let#[I,k,r1]:=N.at F ha;let#[L,m,r2]:=N.at R hb;show Ql (Oh) N.1 B C #[a,b,I,L,07,07,k,m,by rw[r1.length,r2.length];show D,λp G=>fE N K p G #[_,Jz,aA.new G<|r1.append r2]]
       .show(K).elim
      |_=>show(K).elim
     |_=>show(K).elim
  |_=>show(K).elim
 |_=>cases y<;>show(K).elim
def OO:dU O X (f7 .Sub) JQ:=by
 intro Z s U H Y J h x y v u Q E N k m K;let#[I,k,B]:=k;let#[G,m,C]:=m;cases x with
 |int i=>cases y with|int j=>let D:=B;let F:=C;subst D F;show Ql (Nk) N.1 k m #[i,j,07,07,aL N K 07]|_=>show(K).elim
 |_=>cases y<;>show(K).elim
def Vq.ok(h:Vq i j):IntMulOk i j:=by
 rcases h with h|h|⟨h1,J⟩
 .show .of_left<|intBits_le_64 00 00
 .show .of_right<|intBits_le_64 00 00
 .refine .of_bits ?_ ?_
  .unfold Builtin.Int.intBits;split
   .show ZX _
   .assumption
  .unfold Builtin.Int.intBits;split
   .show ZX _
   .assumption
def OP:fW X (f7 .Mult) (rI Vq λi j=>.int<|i*j):=(vQ λ_ _ _ _ _ _ _ k q=>mul_int q k.ok)
def OQ:dU O X (f7 .Mult) XL:=by
 intro Z s U H Y bD h x y v u Q E N C D K;let#[xv,C,M]:=C;let#[yv,D,P]:=D;cases x with
 |int i=>
  cases y with
  |int j=>
   let B:=M;let G:=P;subst B G;dsimp only[XL]at K;split at K
   .rename_i m;show Ql (OP) N.1 C D #[i,j,07,07,m,aL N K 07]
   .show(K).elim
  |_=>show(K).elim
 |ref i=>
  cases y with
  |int k=>
   let#[a,B,ha]:=M;let G:=P;subst B G;dsimp only[XL]at K;cases F:h[i]? with|none=>rw[F]at K;show(K).elim|some R=>
    rw[F]at K;cases R with
    |lst xs=>
     dsimp only at K;split at K
     .rename_i m;let#[J,B,L]:=N.at F ha;let S:∀n:Nat,aA X.K Y H (d8 n xs).flatten (d8 n J).flatten:=λn=>by induction n with|zero=>show 07|succ n W=>show L.append W
      show Ql (Oj) N.1 C D #[a,k,J,07,07,B,m.1,m.2.1,by rw[L.length];show m.2.2,λp I=>fE N K p I #[_,Jz,aA.new I<|S _]]
     .show(K).elim
    |_=>show(K).elim
  |_=>show(K).elim
 |_=>cases y<;>show(K).elim
def OR:fW X (f7 .FloorDiv) (rI (λ_ j=>0<j/\j.natAbs.log2<9000) λi j=>.int<|i/j):=(vQ λi j _ _ _ _ _ k q=>by show floordiv_int (i4 k.1) (by rw[Int.fdiv_eq_ediv_of_nonneg i<|ZJ k.1];show q)<|.inl<|PyProof.noPylong_of_log2 k.2)
def OS:dU O X (f7 .FloorDiv) Qa:=by
 intro Z s U H Y L h x y v u Q E N k m K;let#[J,k,B]:=k;let#[I,m,D]:=m;cases x with
 |int i=>
  cases y with
  |int j=>
   let F:=B;let G:=D;subst F G;dsimp only[Qa]at K;split at K
   .rename_i C;show Ql (OR) N.1 k m #[i,j,07,07,C,aL N K 07]
   .show(K).elim
  |_=>show(K).elim
 |_=>cases y<;>show(K).elim
def OT:dU O X (f7 .Mod) J8:=by
 intro Z s U H Y L h x y v u Q E N k m K;let#[J,k,B]:=k;let#[I,m,D]:=m;cases x with
 |int i=>
  cases y with
  |int j=>
   let F:=B;let G:=D;subst F G;dsimp only[J8]at K;split at K
   .rename_i C;show Ql (Nl) N.1 k m #[i,j,07,07,C,aL N K 07]
   .show(K).elim
  |_=>show(K).elim
 |_=>cases y<;>show(K).elim
def OU:dU O X (f7 .Pow) Qb:=by
 intro Z s U H Y L h x y v u Q E N k m K;let#[J,k,B]:=k;let#[I,m,D]:=m;cases x with
 |int i=>
  cases y with
  |int j=>
   let F:=B;let G:=D;subst F G;dsimp only[Qb]at K;split at K
   .rename_i C;show Ql (Nn) N.1 k m #[i,j,07,07,C,aL N K 07]
   .show(K).elim
  |_=>show(K).elim
 |_=>cases y<;>show(K).elim
def OV:vY O X (unaryOp .USub) v5:=by intro Z s U H Y B h x v Q E N j K;let#[u,j,k]:=j;cases x with|int i=>let m:=k;subst m;show Ow (Np) N.1 j #[i,07,aL N K 07]|_=>show(K).elim
noncomputable def jU:IV->IV->IH->Res IV|.int i,.int j,h=>.ok (.bl<|decide (i<j)) h|.str x,.str y,h=>.ok (.bl<|decide (x.1.1<y.1.1)) h|_,_,_=>.stuck
noncomputable def eM:IV->IV->IH->Res IV|.int i,.int j,h=>.ok (.bl<|decide (i<=j)) h|.str x,.str y,h=>.ok (.bl (!decide (y.1.1<x.1.1))) h|_,_,_=>.stuck
noncomputable def g9:IV->IV->IH->Res IV|.int i,.int j,h=>.ok (.bl<|decide (j<i)) h|_,_,_=>.stuck
noncomputable def rO:IV->IV->IH->Res IV|.int i,.int j,h=>.ok (.bl<|decide (j<=i)) h|_,_,_=>.stuck
def Aa:dU O X (fb .Lt) jU:=by
 intro Z s U H Y J h x y v u Q E N k m K;let#[I,k,D]:=k;let#[G,m,F]:=m;cases x with
 |int i=>cases y with|int j=>let B:=D;let C:=F;subst B C;show Ql (Nv) N.1 k m #[i,j,07,07,aL N K 07]|_=>show Zf K
 |str i=>cases y with|str j=>let B:=D;let C:=F;subst B C;show Ql (NA) N.1 k m #[i,j,07,07,aL N K 07]|_=>show(K).elim
 |_=>cases y<;>show(K).elim
def Ab:dU O X (fb .LtE) eM:=by
 intro Z s U H Y L h x y v u Q E N k m K;let#[J,k,D]:=k;let#[I,m,F]:=m;cases x with
 |int i=>cases y with|int j=>let B:=D;let C:=F;subst B C;show Ql (Nw) N.1 k m #[i,j,07,07,aL N K 07]|_=>show(K).elim
 |str i=>cases y with|str j=>let B:=D;let C:=F;subst B C;let#[t,rfl]:=k;let#[G,rfl]:=m;show PySem.P.le_str<|aL N K 07 _ s N.1 07|_=>show(K).elim
 |_=>cases y<;>show(K).elim
def Ac:dU O X (fb .Gt) g9:=by
 intro Z s U H Y J h x y v u Q E N k m K;let#[I,k,B]:=k;let#[G,m,C]:=m;cases x with
 |int i=>cases y with|int j=>let D:=B;let F:=C;subst D F;show Ql (Ny) N.1 k m #[i,j,07,07,aL N K 07]|_=>show(K).elim
 |_=>cases y<;>show(K).elim
def Ad:dU O X (fb .GtE) rO:=by
 intro Z s U H Y J h x y v u Q E N k m K;let#[I,k,B]:=k;let#[G,m,C]:=m;cases x with
 |int i=>cases y with|int j=>let D:=B;let F:=C;subst D F;show Ql (Nz) N.1 k m #[i,j,07,07,aL N K 07]|_=>show(K).elim
 |_=>cases y<;>show(K).elim
noncomputable def cF:IV->IH->Res Bool|.ah,h=>.ok Zo h|.bl b,h=>.ok b h|.int i,h=>.ok (i != 0) h|.str x,h=>if x.length<=sizeLine then .ok ((x.length:Int) != 0) h else .stuck|.tup xs,h=>.ok (!xs.isEmpty) h|.cG xs,h=>.ok (!xs.isEmpty) h|.ref i,h=>match h[i]? with|some (.lst xs)=>.ok (!xs.isEmpty) h|some (.aV kvs)=>.ok (!kvs.isEmpty) h|_=>.stuck
def aA.empty{K:W.Frag}(r:aA K Y H xs vs):vs.isEmpty=xs.isEmpty:=by let:=r.length;cases xs<;>cases vs<;>simp_all
def cg.empty{K:W.Frag}(r:cg K Y H xs vs):vs.isEmpty=xs.isEmpty:=by let:=r.length;cases xs<;>cases vs<;>simp_all
def iM(N:aB O X Z Y bD h U H s)(K:Kont O X RB Z Y bD U H (.ok c h) Q E):∀s',Inv X Z U H s'->Q c s':=(λs' I=>K c s' H Y #[I,N.2,N.3] .refl 07)
def YS:tG O X cF:=by
 intro Z s U H Y L h x v Q E N k K;let#[J,k,m]:=k;cases x with
 |ah=>let j:=m;subst j;show Xd (Xa) N.1 k #[_,07,iM N K]
 |bl b=>let j:=m;subst j;show Xd (Xa) N.1 k #[_,07,iM N K]
 |int i=>let j:=m;subst j;show Xd (Xa) N.1 k #[_,07,iM N K]
 |str y=>
  let j:=m;subst j;dsimp only[cF]at K;split at K
  .rename_i G;show Xd (Xa) N.1 k #[_,#[G,07],iM N K]
  .show(K).elim
 |tup xs=>let#[a,u,j,sa,C]:=m;subst j;show Xd (Xa) N.1 k #[!xs.isEmpty,.inr (.inl #[u,sa,by rw[C.empty]]),iM N K]
 |cG xs=>let#[a,u,j,sa,C]:=m;subst j;show Xd (Xa) N.1 k #[!xs.isEmpty,.inl #[u,sa.sq,by rw[C.empty]],iM N K]
 |ref i=>
  let#[a,j,ha]:=m;subst j;dsimp only[cF]at K;cases B:h[i]? with|none=>rw[B]at K;show(K).elim|some I=>rw[B]at K;cases I with|lst xs=>let#[u,j,F]:=N.at B ha;show Xd (Xa) N.1 k #[!xs.isEmpty,.inl #[u,bZ.of j,by rw[F.empty]],iM N K]|aV D=>let#[u,j,F]:=N.at B ha;show Xd (Xa) N.1 k #[!D.isEmpty,.inr (.inr #[u,j,by rw[F.empty]]),iM N K]|_=>show(K).elim
def cT(a:A1):E1:=λU h=>(a U h).bind λxs h1=>if (WP xs)<=sizeLine then .ok (.tup xs) h1 else .stuck
def JA(a:A1):E1:=λU h=>(a U h).bind λxs h1=>if (WP xs)<=sizeLine then .ok (.ref (WP h1)) (h1++[.lst xs])else .stuck
variable{es:Td}{mr:A1}{pos:Pos}
def OW{x1}(F:dR O X es mr):ai O X (.Tuple es x1 pos) (cT mr):=(λZ s U H Y bD h Q E N K=>by
 refine wpAny_Tuple_spliced<|(F pos).run N K λxs P M I W R k n1 J B=>?_
 split at B
 .rename_i C;let#[S,m,D]:=J;let L:=m.length;let j:=D.length;let G:=k.1.aw.fresh<|Zm _;calc#[by rw[<-L,j];show C,?_];show m8 k B I.1.1.size G D _ _ (k.1.laid (λb u e=>Zj _ e) (Zm _) #[by rw[j];show C,M,m,#[_,Zw _ 07,07,_,07]]) 07
 .trivial)
def OX(G:dR O X es mr):ai O X (.List es pos) (JA mr):=(λZ s U H Y bD h Q E N K=>by
 refine wpAny_List_spliced<|(G pos).run N K λxs P M I W R k n1 J B=>?_
 split at B
 .rename_i D;let#[S,m,F]:=J;let L:=m.length;let j:=F.length;let C:=k.1.aw.fresh<|Zm _;calc#[by rw[<-L,j];show D,?_];show fE k B I.1.1.size C #[_,Jz,aA.new C F] _ _ (k.1.laid (λb u e=>Zj _ e) (Zm _) #[by rw[j];show D,M,0,m,Zw _ 07]) 07
 .trivial)
end
section
variable{prog:cy}{w:bV}{A:cz}{E:aQ}{s:Z5}
theorem FH(k:t≠it):∀(n i:Nat)(s:Z5)(Q:Tu->Z5->Prop),s.1.IsListIter it t i->s.1.IsList t items->i+n<=items.size ->(∀h',h'.IsListIter it t (i+n)->mX it s.1 h'->Q ((items.1.drop i).take n) {s with heap:=h'})->Z0 (ZA prog w) A (draw (.ref it) n) Q E s
 |0,i,s,Q,j,_,_,hQ=>by show Zs<|by simpa using hQ s.1 j<|Heap.SameBut.refl ..
 |n+1,i,s,Q,j,ht,hle,hQ=>by
  let m:i<items.size:=kN (Zi _ _) 06;refine Ze<|yI j ht (x:=items[i]) 03 λh₁ hit₁ hs₁=>?_
  refine Ze<|d4<|FH k n (i+1) _ _ hit₁ (ht.extBut hs₁.extBut k) 05 λh₂ hit₂ hs₂=>Zs ?_
  let hd:items.1.drop i=items[i]::items.1.drop (i+1):=by simp[nV,m]
  let:=hQ h₂ 05<|hs₁.trans hs₂;rw[hd]at this;show this
def OY(B:aI A s.1)(m:s.1.IsList t items)
  (C:∀h',gB s.1.1.size s.1 h'->Q items.1 {s with heap:=h'}):Z0 (ZA prog w) A (u4 (.ref t) items.size Zg) Q E s:=by
 let k:t≠s.1.1.size:=by let#[o,ho,_]:=m;show Zu<|Z9 ho
 unfold u4;refine Ze ?_
 .unfold notIterableAtAll;calc Ze<|wpAny_specialOf m.typeIs slot_list_iter.1 ?_;calc Zs ?_;simp![l9,if_false];calc Ze<|d4<|og m ?_;calc Ze (d4<|FH k items.size 0 _ _ #[_,Zw _ 07,07,07] (m.push _) (by(rw[nS];show Zm _)) λh₁ hit₁ hs₁=>?_);let j:List.take items.size (List.drop 0 items.1)=items.1:=by rw[List.drop_zero];show nW 03
  rw[j];rw[if_neg 03];let ht₁:h₁.IsList t items:=(m.push _).extBut hs₁.extBut k;refine Ze<|d4<|zz ((B.mono λb o e=>Zj _ e).but hs₁.extBut (Zw _ 07) 07 03) hit₁ ht₁ 03 λh₂ he₂=>?_
  simp![Option.isSome_none,l9,if_false];calc Zs<|C h₂ λb o u e=>he₂ b o u<|hs₁.extBut b o u<|Zj _ e
def OZ{x1}(j:aI A s.1)(k:s.1.IsList t items) (hn:(gA elts env).length=items.size)(hstar:(gA elts env).findIdx? (·.1)=Zg) (h:∀h',gB s.1.1.size s.1 h'->Z0 (ZA prog w) A (uY ((gA elts env).map (·.2)) items.1) Q E {s with heap:=h'}):Z0 (ZA prog w) A (kW (.Tuple elts x1 pos) env<|.ref t) Q E s:=by rw[assign_Tuple];calc Ze<|jO ?_;unfold unpack;rw[hn,hstar];show Ze<|d4<|OY j k h
end
abbrev S1:=aD->IH->bS
structure eQ(L:ZF)(fs:Tt)(e:ZF)(h h3:bu):Prop where
 ex:∃oe vs T ts,h.get? e=V oe/\oe.3=.fields vs/\1<vs.size/\h3.get? e=V (ij (·.setIfInBounds 1 (.ref T)) oe)/\T≠e/\h.get? T=Zg/\h3.get? T=V {cls:=.type "traceback",dict:=Zg,data:=.fields ts}/\ts[3]?=V (dN L)
 slot:∀b o,h.get? b=V o->b≠e->∃sl,h3.get? b=V {o with slots:=sl}
 keep:∀b o,h.get? b=V o->b≠e->b∉fs->h3.get? b=V o
def Ae(L:ZF)(fs:Tt)(e:ZF)(s s1:Z5):Prop:=s1=s\/∃h',s1={s with heap:=h'}/\eQ L fs e s.1 h'
def JD(O:aN)(X:Cx)(Z:aZ)(Y:Tt)(H:Hp)(r:bS)(Q:Flow->Z5->Prop)(E:aQ):Prop:=match r with|.next Ui' h'=>∀s' U' H' Y',aB O X Z Y' Ui' h' U' H' s'->bc Y H Y' H'->Q .next s'|.brk Ui' h'=>∀s' U' H' Y',aB O X Z Y' Ui' h' U' H' s'->bc Y H Y' H'->Q .brk s'|.cont Ui' h'=>∀s' U' H' Y',aB O X Z Y' Ui' h' U' H' s'->bc Y H Y' H'->Q .cont s'|.ret v h'=>∀u s' Ui' U' H' Y',aB O X Z Y' Ui' h' U' H' s'->bc Y H Y' H'->RU X.K Y' H' v u->Q (.ret u) s'|.exc n Ui' h'=>∀pl a s' U' H' Y',aB O X (Z++pl) Y' Ui' h' U' H' s'->bc Y H Y' H'->Y'[n]?=V a->∀s1,Ae X.10.2 (eK X.12) a s' s1->E (.ref a) s1|.stuck=>False
def JD.mono(k:JD O X Z Y H r Q E)(n:bc Y H Y' H'):JD O X Z Y' H' r Q E:=by cases r with|next U h=>show λD C j B N n2=>k D C j B N<|n.trans n2|brk U h=>show λD C j B N n2=>k D C j B N<|n.trans n2|cont U h=>show λD C j B N n2=>k D C j B N<|n.trans n2|ret v h=>show λu D F C j B N n2=>k u D F C j B N<|n.trans n2|exc m U h=>show λpl a D C j B N n2=>k pl a D C j B N<|n.trans n2|stuck=>show k
def Af(O:aN)(X:Cx)(t:Sem Flow)(m:S1):Prop:=∀(Z:aZ)(s:Z5)(U:L2.St)(H:Hp)(Y:Tt)(bD:aD)(h:IH)(Q:Flow->Z5->Prop)(E:aQ),aB O X Z Y bD h U H s->JD O X Z Y H (m bD h) Q E->Z0 (ZA X.1 X.w) X.A t Q E s
abbrev cJ(O:aN)(X:Cx)(st:fu)(m:S1):Prop:=Af O X (exec st X.10) m
abbrev jV(O:aN)(X:Cx)(sts:Tl)(m:S1):Prop:=Af O X (execs sts X.10) m
noncomputable def Jx:S1:=λU h=>.next U h
def Jg(a b:S1):S1:=λU h=>match a U h with|.next U' h'=>b U' h'|r=>r
noncomputable def FI:S1:=λU h=>.next U h
def FJ:S1:=λU h=>.brk U h
def FK:S1:=λU h=>.cont U h
noncomputable def rS {α:Type}(U:aD)(r:Res α)(k:α->IH->bS):bS:=match r with|.ok a h=>k a h|.exc n h=>.exc n U h|.stuck=>.stuck
def JH(e:E1):S1:=λU h=>rS U (e U h) λ_ h'=>.next U h'
def Jk(e:E1):S1:=λU h=>rS U (e U h) λv h'=>.ret v h'
noncomputable def FL:S1:=λ_ h=>.ret .ah h
def bU(t:T1)(a b:S1):S1:=λU h=>rS U (t U h) λc h'=>if c then a U h' else b U h'
def Jj(i:Nat)(e:E1):S1:=λU h=>rS U (e U h) λv h'=>.next (U.set i<|V v) h'
section
variable{O:aN}{X:Cx}{st:fu}{rest:Tl}{m m1 m2:S1}{e:Expr}{me:E1}{pos:Pos}
def cP(p:PX O X R t mm)(N:aB O X Z Y bD h U H s) (K:JD O X Z Y H (rS bD (mm bD h) g) Q E) (step:∀x h1 u s1 H1 k,aB O X Z k bD h1 U H1 s1->bc Y H k H1->R X.K k H1 x u->JD O X Z k H1 (g x h1) Q E->Q1 u s1):Z0 (ZA X.1 X.w) X.A t Q1 E s:=by calc p Z s U H Y bD h Q1 E N ?_;cases e:mm bD h with|ok v F=>rw[e]at K;show λu m D B C j r=>step v F u m D B C j r<|JD.mono K j|exc n F=>rw[e]at K;show λpl a m D B C j q=>K pl a m U D B C j q m<|.inl 07|stuck=>rw[e]at K;show K
def O0:jV O X [] Jx:=(λ_ s U H Y _ _ _ _ N K=>sG<|K s U H Y N .refl)
def O2(h1:cJ O X st m1)(J:jV O X rest m2):jV O X (st::rest) (Jg m1 m2):=by intro Z s U H Y m h Q E N K;calc wpAny_execs_cons<|h1 Z s U H Y m h _ E N ?_;unfold Jg at K;cases e:m1 m h with|next k j=>rw[e]at K;show λG C B u D F=>J Z G C B u k j Q E D<|JD.mono K F|brk k j=>rw[e]at K;show K|cont k j=>rw[e]at K;show K|ret v j=>rw[e]at K;show K|exc n k j=>rw[e]at K;show K|stuck=>rw[e]at K;show K
def O3(h1:cJ O X st m1):jV O X [st] m1:=by intro Z s U H Y m h Q E N K;calc wpAny_execs_cons<|h1 Z s U H Y m h _ E N ?_;cases e:m1 m h with|next k j=>rw[e]at K;show λG C B u D F=>sG<|K G C B u D F|brk k j=>rw[e]at K;show K|cont k j=>rw[e]at K;show K|ret v j=>rw[e]at K;show K|exc n k j=>rw[e]at K;show K|stuck=>rw[e]at K;show K
def O4:cJ O X (.Pass pos) FI:=(λ_ s U H Y _ _ _ _ N K=>wpAny_Pass<|K s U H Y N .refl)
def O5:cJ O X (.Break pos) FJ:=(λ_ s U H Y _ _ _ _ N K=>wpAny_Break<|K s U H Y N .refl)
def O6:cJ O X (.Continue pos) FK:=(λ_ s U H Y _ _ _ _ N K=>wpAny_Continue<|K s U H Y N .refl)
def O7(m:ai O X e me)(hs:ow e Zg pos.1 X.10=pure Zo:=by rfl):cJ O X (.Expr e pos) (JH me):=(λZ s U H Y G h Q E N K=>
 wpAny_Expr_any (cP m N K λx F u D B k C n1 I j=>j D U B k C .refl) N.1.quiet hs)
def O8(m:ai O X e me):cJ O X (.Return (V e) pos) (Jk me):=(λZ s U H Y C h Q E N K=>
 wpAny_Return_some (cP m N K λx I u F B k D n1 G j=>j u F C U B k D .refl G))
def O9:cJ O X (.Return Zg pos) FL:=(λZ s U H Y j h Q E N K=>wpAny_Return_none<|K .none s j U H Y N .refl #[.ah,07,07])
def Ag{j:T1}(M:g7 O X c j)(ha:jV O X a m1)(I:jV O X b m2):cJ O X (.If c a b pos) (bU j m1 m2):=(λZ s U H Y D h Q E N K=>
 wpAny_If (cP M N K λx k u G C B F n1 L m=>by let J:=L;subst J;cases u with|true=>show ha Z G U C B D k Q E F m|false=>show I Z G U C B D k Q E F m))
def Ah(B:X.N.Nodup)(G:ai O X e me)(hi:X.N[i]?=V x:=by rfl)(m:Loc X.10.1 x:=by assumption)(hs:ow e (V<|.Name x pos') pos.1 X.10=pure Zo:=by rfl) (F:X.fn x=Zl\/X.10.1.2.lookup x=V .local:=by assumption):cJ O X (.Assign [.Name x pos'] e pos) (Jj i me):=(λZ s U H Y R h Q E N K=>
 wpAny_Assign_Name (cP G N K λv P u S I D k n1 J C=>by let#[w,j,q]:=J;show YO k.1 B hi m j (λM L=>C M _ I D #[L,k.2,k.3.set i q] .refl) F) hs)
abbrev G1:=IV->aD->IH->bS
def jb(O:aN)(X:Cx)(tg:Expr)(g:G1):Prop:=∀(Z:aZ)(s:Z5)(U:L2.St)(H:Hp)(Y:Tt)(bD:aD)(h:IH)(v:IV)(u:Zv)(Q:Flow->Z5->Prop)(E:aQ),aB O X Z Y bD h U H s->RU X.K Y H v u->JD O X Z Y H (g v bD h) Q E ->Z0 (ZA X.1 X.w) X.A (kW tg X.10 u) (λ_ s'=>Q .next s') E s
noncomputable def bw (i:Nat):G1:=λv U h=>.next (U.set i<|V v) h
def Ai(m:X.N.Nodup)(hi:X.N[i]?=V x:=by rfl)(k:Loc X.10.1 x:=by assumption)(B:X.fn x=Zl\/X.10.1.2.lookup x=V .local:=by assumption):jb O X (.Name x pos) (bw i):=by intro Z s U H Y F h v u Q E N r K;let#[w,j,q]:=r;show wpAny_assign_Name<|YO N.1 m hi k j (λD C=>K D _ H Y #[C,N.2,N.3.set i q] .refl) B
def lg(O:aN)(X:Cx)(ts:Td)(g:Tv->aD->IH->bS):Prop:=∀(Z:aZ)(s:Z5)(U:L2.St)(H:Hp)(Y:Tt)(bD:aD)(h:IH)(vs:Tv)(us:Tu)(Q:Flow->Z5->Prop)(E:aQ),aB O X Z Y bD h U H s->jy X.K Y H vs us->JD O X Z Y H (g vs bD h) Q E ->Z0 (ZA X.1 X.w) X.A (uY ((gA ts X.10).map (·.2)) us) (λ_ s'=>Q .next s') E s
noncomputable def gN:Tv->aD->IH->bS|[],U,h=>.next U h|_::_,_,_=>.stuck
def gC(g:G1)(r:Tv->aD->IH->bS):Tv->aD->IH->bS
 |v::vs,U,h=>match g v U h with
  |.next U' h'=>r vs U' h'
  |.exc n U' h'=>.exc n U' h'
  |_=>.stuck
 |[],_,_=>.stuck
def Pa:lg O X [] gN:=by intro Z s U H Y u h j B Q E N r K;cases j with|nil=>let#[xs,k,q]:=r;let m:=q;subst m;cases k;show assignInOrder_nil<|K s U H Y N .refl|cons v j=>show(K).elim
def Pb(h1:jb O X tg g)(J:lg O X ts r) (hs:(gA (tg::ts) X.10).map (·.2)=kW tg X.10::(gA ts X.10).map (·.2):=by rfl):lg O X (tg::ts) (gC g r):=by
 intro Z s U H Y C h B us Q E N G K;cases B with|nil=>show(K).elim|cons v B=>
  let#[xs,S,x,F,L,q,M]:=G;subst L;cases S with|cons P r2=>rw[hs];calc assignInOrder_cons (h1 Z s U H Y C h v _ (λf u=>Z0 (ZA X.1 X.w) X.A (uY ((gA ts X.10).map (·.2)) _) (λ_ u=>Q .next u) E u) E N #[x,P,q] ?_);let m:JD O X Z Y H (match g v C h with|.next k j=>r B k j|.exc n k j=>.exc n k j|_=>.stuck) Q E:=K;cases e:g v C h with|next k j=>rw[e]at m;show λu U2 W R I D=>J Z u U2 W R k j B _ Q E I #[F,r2,aA.mono D _ _ M]<|JD.mono m D|exc n k j=>rw[e]at m;show m|_=>rw[e]at m;show(m).elim
noncomputable def mE (n:Nat)(g:Tv->aD->IH->bS):G1:=λv U h=>match v with|.tup xs=>if (WP xs)=n then g xs U h else .stuck|.ref i=>(match h[i]? with|some (.lst xs)=>if (WP xs)=n then g xs U h else .stuck|_=>.stuck)|_=>.stuck
def Pc(S:X.15=Zl)(P:lg O X es g)(hn:(gA es X.10).length=n:=by rfl)(C:(gA es X.10).findIdx? (·.1)=Zg:=by rfl):jb O X (.Tuple es k pos) (mE n g):=by
 intro Z s U H Y R h v u Q E N r K;let#[w,B,q]:=r;cases v with
 |tup xs=>
  let#[a,G,I,sa,j]:=q;subst I;cases B;unfold mE at K;dsimp only at K;split at K
  .rename_i hl;let#[J,m,M,W]:=N.1.tuple sa;let l1:=j.length;let l2:=m.length;refine MK (N.1.cA S) M (by simp![ZV];lia) C λD L=>?_
   let I1:Inv X Z U H {s with heap:=D}:=N.1.kept (t':=s.4) λb o e=>L b o (Zu<|Z9 e) e
   show P Z _ U H Y R h xs _ Q E #[I1,N.2,N.3] #[G,by simpa using m,j] K
  .show Zf K
 |ref i=>
  let#[a,I,ha]:=q;subst I;cases B;unfold mE at K;dsimp only at K;cases F:h[i]? with|none=>rw[F]at K;show Zf K|some ob=>
   rw[F]at K;cases ob with
   |lst xs=>
    dsimp only at K;split at K
    .rename_i hl;let#[G,g1,j]:=N.at F ha;let#[J,m,M,W]:=N.1.list<|bZ.of g1;let l1:=j.length;let l2:=m.length;refine OZ (N.1.cA S) M.isList (by simp![ZV];lia) C λD L=>?_
     let I1:Inv X Z U H {s with heap:=D}:=N.1.kept (t':=s.4) λb o e=>L b o (Zu<|Z9 e) e
     show P Z _ U H Y R h xs _ Q E #[I1,N.2,N.3] #[G,by simpa using m,j] K
    .show Zf K
   |_=>show Zf K
 |_=>show Zf K
def fG(e:E1)(g:G1):S1:=λU h=>rS U (e U h) λv h'=>g v U h'
def Pd(C:ai O X e me)(B:jb O X tg g)(hs:swapsWithSole [tg] e pos.1 X.10=pure Zo:=by rfl)(m:swappedStores [tg] e X.10=pure Zg:=by rfl) (h1:(gA [tg] X.10).map (·.2)=[kW tg X.10]:=by rfl):cJ O X (.Assign [tg] e pos) (fG me g):=(λZ s U H Y F h Q E N K=>
 wpAny_Assign_stores (cP C N K λv J u I D k G n1 L j=>by rw[h1];show B Z I U D k F J v u Q E G L j) hs m)
end
def cB.ok(e:h.get? a=V oe)(c:oe.1=.ref C)(d:oe.3=.fields vs)(v:vs[1]?=V tv)(B:vs[2]?=V .none)(m:oe.2=dd):JX P w H h a (cB a C tv dd):=(#[#[oe,vs,e,c,d,v,B,m],#[oe,e],λ_ _ ⟨o,u,j,r⟩ k=>#[o,u,k _ j,r]])
theorem cB.get(x:c8 P w H h)(e:H a=V (cB a C tv d)):∃oe vs,h.get? a=V oe/\oe.1=.ref C/\oe.3=.fields vs/\vs[1]?=V tv/\vs[2]?=V .none/\oe.2=d:=(x a _ e).1
def FN(o:Obj)(f):(o.mapFields f).2=o.2:=by unfold ij;split<;>rfl
def Pe(x:c8 P w H h)(e1:H a=V (cB a C tv d))(k:H a=V (cB a C' tv' d')):d=d':=by let#[o,_,g,_,_,_,_,q]:=cB.get x e1;let#[u,_,j,_,_,_,_,m]:=cB.get x k;cases g.symm.trans j;show q.symm.trans m
def FO:∀{o:HO},JX P w H h a o->∃u,h.get? a=V u:=(λ{o} q=>by cases o with|lst _=>let#[_,_,_,_,e]:=q;show#[_,e]|tup _=>let#[_,_,_,#[_,e,_]]:=q;show#[_,e]|dK _=>let#[_,_,_,_,o,_,_,e,_]:=q;show#[o,e]|dT _=>let#[_,_,_,_,o,_,_,e,_]:=q;show#[o,e]|set _ _=>let#[o,_,_,_,e,_]:=q;show#[o,e]|ins _ _ _=>let#[_,_,_,e,_]:=q;show#[_,e]|own _=>let#[_,e]:=q;show#[_,e]|xd _=>let#[_,#[_,_,_,e,_],_]:=q;show#[_,e]|vN _ _=>let#[_,_,_,e]:=q;show#[_,e]|bK _ _=>let#[e,_]:=q;show#[_,e]|iF _=>show#[_,(q)]|met _ _=>show#[_,(q)]|ext _=>let#[_,#[_,e],_]:=q;show#[_,e])
def Aj{h:bu}(e:h.get? T=V oT)(d:oT.3=.fields ts)(q:ts[3]?=V v):(h.update T (ij (·.setIfInBounds 3 v))).get? T=V oT:=by
 let k:ts.setIfInBounds 3 v=ts:=by
  refine Array.ext 03 λi B J=>?_
  rw[Array.getElem_setIfInBounds];split
  .simp_all
  .rfl
 let j:ij (·.setIfInBounds 3 v) oT=oT:=by let#[c,C,m,u]:=oT;subst d;simp![ij,k]
 rw[l8 _ e (by rw[j];show rF d),j]
section
variable{X:Cx}{Z:aZ}{U:L2.St}{H:Hp}{s:Z5}{M:Model}{E:aQ}{Q:Unit->Z5->Prop}{a C:ZF}{tv:Zv}{d:Tc}{h3:bu}{s1:Z5}
structure m9(X:Cx)(H:Hp)(h:bu)(a C:ZF)(d:Tc)(T:ZF)(oT:Obj)(h':bu):Prop where
 new:H T=Zg
 ne:T≠a
 fld:∃ts,oT.3=.fields ts/\ts[3]?=V .none
 un:Un (eK X.12) [] H (upd (upd H T<|.bK oT<|.own 0) a<|cB a C (.ref T) d) h h'
 aw:c8 X.1 X.w (upd (upd H T<|.bK oT<|.own 0) a<|cB a C (.ref T) d) h'
def Ak(I:Inv X Z U H s)(hs:X.12=X.10::X.11)(hf:X.10.8=V X.10.2)(ha:H a=V (cB a C tv d))(ht:iK H tv)
  (k:∀h3,eQ X.10.2 (eK X.12) a s.1 h3->Q () {s with heap:=h3}):Z0 M X.A (sL (.ref a) X.10) Q E s:=by
 let#[oe,vs,e1,e2,P,e4,e5,e6]:=cB.get I.aw ha;let L:a∉eK X.12:=λz=>by rw[I.dP a z]at ha;cases ha
 let fr:=I.1.10;let ff:=I.stack;let lh:=(rG.1 e4).1;let go:∀(h:bu){j:Zv}{hn:Bool},(∀b,h.get? b=s.1.get? b)->Z0 M X.A (do let f<-frameOf X.10;let pl<-entryPlaceOf X.10.2 hn;let b<-EntryCells.newEntry j f .none (dN X.10.2) .none pl;setField (.ref a) 1 b) Q E {s with heap:=h}:=by
  intro h j hn J;let G:=ff.of_keeps λb o q _=>#[o,(J b).trans q,07]
  rw[hs]at fr G;refine Ze<|wpAny_frameOf_fun fr G hf λB R=>?_
  let D:=(R.2.1 a<|by rw[hs]at L;show L).trans<|(J a).trans e1;refine Ze<|wpAny_entryPlaceOf λpl Y=>?_
  calc Ze<|nZ ?_<|Y.sizeOk5 _ _ _ _ _;let t3:([j,gF X.10.2,dO,dN X.10.2,dO]++(if pl.isEmpty then d8 6 dO else pl)).toArray[3]?=V (dN X.10.2):=03;generalize ([j,gF X.10.2,dO,dN X.10.2,dO]++(if pl.isEmpty then d8 6 dO else pl)).toArray=O at t3 ⊢;let F:∀b o,B.get? b=V o->b≠B.1.size:=λb o q=>Zu<|Z9 q
  let nT:=bP<|F a _ D;let u:∀b o,B.get? b=V o->(B.push {cls:=.type "traceback",dict:=Zg,data:=.fields O}).get? b=V o:=λb o q=>Zj _ q
  let W:(B.push {cls:=.type "traceback",dict:=Zg,data:=.fields O}).get? B.1.size=V {cls:=.type "traceback",dict:=Zg,data:=.fields O}:=Zw B 07;refine lY (u _ _ D) P lh<|k _ #[#[oe,vs,B.1.size,O,e1,P,lh,l8 _ (u _ _ D)<|rF<|kH P _,nT,?_,(ZI _ _<|bP nT).trans W,t3],λb o q n=>?_,λb o q n m=>?_]
  .cases q:s.1.get? B.1.size with|none=>rfl|some o=>let#[sl,z]:=R.2.2 _ _<|(J _).trans q;show absurd 07 (F _ _ z)
  .let#[sl,z]:=R.2.2 _ _<|(J b).trans q;show#[sl,(ZI _ _<|bP n).trans<|u _ _ z]
  .show(ZI _ _<|bP n).trans (u _ _<|(R.2.1 b<|by rw[hs]at m;show m).trans<|(J b).trans q)
 unfold sL;rw[hf];calc Ze<|ft e1 P e4 ?_;rcases ht with rfl|⟨T,oT,O,rfl,q1,q2,q3⟩
 .rw[if_neg 01];show go s.1 λ_=>07
 .let S:s.1.get? T=V oT:=(I.aw T _ q1).1;calc Ze<|ft S q2 q3 ?_;calc Ze<|lY S q2 (rG.1 q3).1 ?_;refine go _ λb=>?_
  by_cases z:b=T
  .subst z;show(Aj S q2 q3).trans S.symm
  .show ZI _ _<|bP z
def Al(m:env.8=V env.2)(n:eQ env.2 fs a h h3)(q:Q () {s with heap:=h3}):Z0 M A (sL (.ref a) env) Q E {s with heap:=h3}:=by let#[#[C,H,T,G,g1,g2,j,B,D,F,u,k],_,_]:=n;unfold sL;rw[m];calc Ze (ft (x:=.ref T) B (kH g2 _) (by simp[j]) ?_);calc Ze<|ft u 07 k ?_;rw[if_pos 03];show Zs q
def FP(P:env.8=V env.2)(n:eQ env.2 fs a h h3)(k:∀F,eQ env.2 fs a h F->E (.ref a) {s with heap:=F}):cameBackBy M A env E (.ref a) {s with heap:=h3}:=by
 let#[#[H,O,T,L,g1,g2,D,C,I,J,j,B],G,kp]:=n;calc Ze (ft (x:=.ref T) C (kH g2 _) (by simp[D]) ?_);rw[P];calc Ze (ft (x:=.ref T) C (kH g2 _) (by simp[D]) ?_);calc lY j 07 (rG.1 B).1 ?_;let u:∀b o,h3.get? b=V o->(h3.update T (ij (·.setIfInBounds 3 (dN env.2)))).get? b=V o:=λb o q=>by
  by_cases z:b=T
  .subst z;rw[j]at q;cases q;show Aj j 07 B
  .show(ZI _ _<|bP z).trans q
 show k _ #[#[H,O,T,L,g1,g2,D,u _ _ C,I,J,u _ _ j,B],λb o q n=>let ⟨Q,z⟩:=G b o q n;#[Q,u _ _ z],λb o q n m=>u _ _<|kp b o q n m]
def FQ(I:Inv X Z U H s)(ha:H a=V (cB a C tv d))(n:eQ L (eK X.12) a s.1 h3)(k:∀T F h',m9 X H s.1 a C d T F h'->Q () {s with heap:=h'}):Z0 M X.A (sM (.ref a) Zg) Q E {s with heap:=h3}:=by
 let#[#[oe,vs,T,ts,g1,g2,g3,g4,g5,O,Y,g8],J,kp]:=n;let#[oe',vs',W,x2,x3,x4,x5,x6]:=cB.get I.aw ha;rw[g1]at W;cases W;rw[g2]at x3;cases x3;let aw:=I.aw;let B:=I.dP;let hT:H T=Zg:=by cases q:H T with|none=>rfl|some u=>let#[o,z]:=FO<|aw T u q;rw[O]at z;cases z
 let tz:=(rG.1 g8).1;calc Ze (ft (x:=.ref T) g4 (kH g2 _) (by simp[g3]) ?_);rw[if_pos 03];calc lY Y 07 tz ?_;let R:=(ZI h3 (ij (·.setIfInBounds 3 ((Zg:Tc).elim dO λf=>dN f))) g5).trans g4;let G:=l8 (ij (·.setIfInBounds 3 ((Zg:Tc).elim dO λf=>dN f))) Y<|rF<|kH 07 _;let d7:=kH (o:={cls:=.type "traceback",dict:=Zg,data:=.fields ts}) 07 (·.setIfInBounds 3 ((Zg:Tc).elim dO λf=>dN f));let lt:∀b o,s.1.get? b=V o->T≠b:=λb o q z=>by rw[z,q]at O;cases O
 let keep:∀b o,s.1.get? b=V o->b≠a->b∉eK X.12->(h3.update T (ij (·.setIfInBounds 3 ((Zg:Tc).elim dO λf=>dN f)))).get? b=V o:=λb o q n1 n2=>(ZI _ _<|lt b o q).trans<|kp b o q n1 n2
 let slot:∀b o,s.1.get? b=V o->b≠a->∃J,(h3.update T (ij (·.setIfInBounds 3 ((Zg:Tc).elim dO λf=>dN f)))).get? b=V {o with slots:=J}:=λb o q n1=>let ⟨s',z⟩:=J b o q n1;#[s',(ZI _ _<|lt b o q).trans z]
 generalize h3.update T (ij (·.setIfInBounds 3 ((Zg:Tc).elim dO λf=>dN f)))=h' at R G keep slot;generalize ij (·.setIfInBounds 3 ((Zg:Tc).elim dO λf=>dN f)) {cls:=.type "traceback",dict:=Zg,data:=.fields ts}=F at G d7;let na:∀{b:ZF}{u:HO},H b=V u->(∀φ,u≠.ext φ)->b≠a:=λ{b u} q n z=>by subst z;rw[ha]at q;cases q;show n _ 07
 let S:∀{b:ZF}{u:HO},H b=V u->b≠T:=λ{b u} q z=>by subst z;rw[hT]at q;cases q
 let D:∀{b:ZF}{u:HO},H b=V u->(∀φ,u≠.ext φ)->upd (upd H T<|.bK F<|.own 0) a (cB a C (.ref T) d) b=V u:=λ{b u} q n=>by rw[Jq<|na q n,Jq<|S q];show q
 let fa:a∉eK X.12:=λz=>by rw[B a z]at ha;cases ha
 refine k T F h' #[hT,g5,#[_,d7,by simp[tz]],#[λb o q n P _=>keep b o q (λz=>by subst z;rw[ha]at n;cases n) P,λb o q _ P _=>slot b o q λz=>fa<|z▸P,λb o q n _=>?_,λb o q _=>?_,λb xs q=>D q nofun,λb o u q=>D q nofun,λb ps q=>#[#[],by rw[D q nofun];simp]],λb u q=>?_]
 .rw[Jq (λz=>by subst z;rw[ha]at n;cases n),Jq λz=>by subst z;rw[O]at q;cases q];show n
 .by_cases z:b=a
  .subst z;show#[_,R]
  .let#[J,w]:=slot b o q z;show#[_,w]
 .by_cases z:b=a
  .subst z;rw[Jz]at q;cases q;show cB.ok R ((vv _ _).trans x2) (kH g2 _) (by simp[g3]) (by simp_all)<|(FN _ _).trans x6
  .rw[Jq z]at q;by_cases y:b=T
   .subst y;rw[Jz]at q;cases q;show#[G,#[F,G]]
   .rw[Jq y]at q;refine(aw b u q).fw (λc v j p=>?_) (λc p=>D p nofun) λc xs p=>D p nofun
    refine keep c v p ?_ ?_
    .rcases j with rfl|j
     .show z
     .show na j nofun
    .intro m;rcases j with rfl|j
     .rw[B _ m]at q;cases q
     .rw[B _ m]at j;cases j
def FR(I:Inv X Z U H s)(fl:Ae X.10.2 (eK X.12) a s s1)(hs:X.12=X.10::X.11)(j:X.10.8=V X.10.2)(ha:H a=V (cB a C tv d))(m:iK H tv) (k:∀T u h',m9 X H s.1 a C d T u h'->Q () {s with heap:=h'}):Z0 M X.A (sL (.ref a) X.10) (λ_ s'=>Z0 M X.A (sM (.ref a) Zg) Q E s') E s1:=by
 rcases fl with rfl|⟨h',rfl,n⟩
 .show Ak I hs j ha m λB n=>FQ I ha n k
 .show Al j n<|FQ I ha n k
def Pf(I:Inv X Z U H s)(fl:Ae X.10.2 (eK X.12) a s s1)(hs:X.12=X.10::X.11)(u:X.10.8=V X.10.2)(ha:H a=V (cB a C tv d))(m:iK H tv) (k:∀T j h',m9 X H s.1 a C d T j h'->Q () {s with heap:=h'}):Z0 M X.A (leaving X.10<|.ref a) Q E s1:=by show Ze<|FR I fl hs u ha m k
end
def eR(P:cy)(w:bV):tB:=λouter H s E e s'=>∃H',s'.5=s.5/\mq s'.2/\Un (eK outer) [] H H' s.1 s'.1/\c8 P w H' s'.1/\E e Zg H'
theorem Un.tail(a:Un fs [] H H1 h h1)(b:Un (L::fs) [] H1 H2 h1 J)(n:h.get? L=Zg):Un fs [] H H2 h J where
 keep:=λc o q m k _=>b.1 c o (a.1 c o q m k 03) (a.3 c o q m 03) (λz=>(ZG.1 z).elim (λy=>by subst y;rw[n]at q;cases q) k) 03
 slot:=λc o q m k _=>by let#[G,j]:=a.2 c o q m k 03;let#[B,C]:=b.any j (a.3 c o q m 03) 03;show#[B,C]
 free:=λc o q m _=>by let#[D,j]:=a.4 c o q 03;show b.3 c D j (a.3 c o q m 03) 03
 there:=λc o q _=>by let#[D,j]:=a.4 c o q 03;show b.4 c D j 03
 cI:=λc xs q=>b.5 c xs<|a.5 c xs q
 bz:=λc o u q=>b.6 c o u<|a.6 c o u q
 cX:=λc ps q=>by let#[F,j]:=a.7 c ps q;let#[E,C]:=b.7 c _ j;show#[F++E,by rw[C,Array.append_assoc]]
section
variable{X:Cx}{Z:aZ}{U:L2.St}{H:Hp}{s:Z5}{k:Nat}{f C:ZF}{fd:jm}{ps:Tj}{sp:Sp}{aS:Ub}{ds:Tu}{E:XK}{Q:VK}{us:Tu}{vs:Ub}{W:aQ}
def Am(I:Inv X Z U H s)(h:eR X.1 X.w X.12 H s E e s'):∃H',Inv X Z U H' s'/\E e Zg H':=by let#[H',os,bare,un,aw,q]:=h;show#[H',I.tm os un aw bare λb z=>absurd z 03,q]
structure Roo(κ:Bool)(k:Nat)(X:Cx):Prop where
 r:bJ κ k X.A
 c:X.15=Zl
def Roo.mono(r:Roo κ k X)(h:j<=k):Roo κ j X:=(#[r.r.mono h,r.c])
def Ph(F:bW X.1 X.w X.K X.4 X.5 (eR X.1 X.w) κ k f fd ps sp)(C:bJ κ k X.A)(D:Qv X.A H)(J:Qe X.K fd ps ds)(hd:Vals aS ds)(I:Inv X Z U H s)(r:Vals vs us)(h:sp (vs++aS) H Q E) (G:∀e s' H',Inv X Z U H' s'->E e Zg H'->W e s'):Z0 (ZA X.1 X.w) X.A (call (.ref f) us) (EP X Z U Q) W s:=by
 let m:Vals (vs++aS) (us++ds):=r.append hd;let L:=m.length;let M:=F.1 _ _ _ _ h;refine px<|pj (F.2 _ _ _ _ #[us,[]] _ _ _ _ C (I.pP D) (J s us I.cO 05) m h) λj s' q=>?_
 match j,q with|.error e,q=>let#[H',B,z]:=Am I q;show G e s' H' B z|.ok (.ret u),q=>show I.after q|.ok .next,q=>show i7 q|.ok .brk,q=>show i7 q|.ok .cont,q=>show i7 q
def Pj(M:Mk X.K C f)(F:bW X.1 X.w X.K X.4 X.5 (eR X.1 X.w) κ k f fd ps sp)(O:bJ κ (k+1) X.A)(hc:Qv X.A H)(Y:Qe X.K fd ps ds)(hd:Vals aS ds)(I:Inv X Z U H s)(r:Vals vs us) (h:∀x dx,H x=Zg->H dx=Zg->dx≠x->sp (.ref x::(vs++aS)) (upd (upd H dx<|.own x) x<|.ins C dx []) (λv H2=>v=.ah/\Q (.ref x) H2) E) (P:∀e s' H',Inv X Z U H' s'->E e Zg H'->W e s'):Z0 (ZA X.1 X.w) X.A (call (.ref C) us) (EP X Z U Q) W s:=by
 let z0:=s.1.1.size;let D:=h (s.1.1.size+1) s.1.1.size (I.aw.fresh<|fP _) (I.aw.fresh<|Zm _)<|Zu<|ZZ _;let j:=Inv.made (C:=C) I;let G:Vals (bA.ref (s.1.1.size+1)::(vs++aS)) (gF (s.1.1.size+1)::(us++ds)):=.cons 07 (r.append hd);let B:=G.length;let J:=F.1 _ _ _ _ D;let hl:(gF (s.1.1.size+1)::us++ds).length=WP ps:=by rw[fR];show ZW (Zb (Zh B.symm)<|Zh J)<|Zb (Zh J.symm)<|Zh B
 calc px (NK (f:=f) I.cO M.1 M.2 (beq_iff_eq.1 M.3)<|pj (F.2 _ _ _ _ #[.ref (s.1.1.size+1)::us,[]] _ _ _ _ (O.make C us []) ((j.pP<|hc.mono λb o u q=>by rw[Jq<|QX q<|I.aw.fresh<|fP _,Jq<|QX q<|I.aw.fresh<|Zm _];show q).make C us []) (Y _ (.ref (s.1.1.size+1)::us) j.cO hl) G D) λm s' q=>?_);match m,q with|.error e,q=>let#[H',L,z]:=Am j q;show P e s' H' L z|.ok (.ret u),q=>let#[v,H',S,R,ev,q3]:=j.after q;subst ev;show#[R,#[bA.ref<|s.1.1.size+1,H',S,07,q3]]|.ok .next,q=>show i7 q|.ok .brk,q=>show i7 q|.ok .cont,q=>show i7 q
end
structure jW where
 xs:Tv
 bf:IH->Prop
open Classical in
def Qc(bf:IH->Prop)(g:G1)(b:S1):Tv->aD->IH->bS|[],U,h=>if bf h then .next U h else .stuck|x::xs,U,h=>if bf h then(match g x U h with|.next W1 h1=>(match b W1 h1 with|.next U2 J=>Qc bf g b xs U2 J|.cont U2 J=>Qc bf g b xs U2 J|.brk U2 J=>.next U2 J|.ret v J=>.ret v J|.exc n U2 J=>(match J[n]? with|some (.exc _ _)=>.exc n U2 J|_=>.stuck)|_=>.stuck)|_=>.stuck)else .stuck
abbrev I1:=aD->IH->Res jW
def cD(it:I1)(g:G1)(b:S1):S1:=λU h=>rS U (it U h) λbB h'=>Qc bB.2 g b bB.1 U h'
structure gh(O:aN)(K:W.Frag)(Y:Tt)(H₀:Hp)(bB:It)(I:jW):Prop where
 go:∀(k:Nat)(x:IV)(h:IH)(H:Hp)(Y':Tt),bc Y H₀ Y' H->Rel O K Y' h H->I.2 h->I.1[k]?=V x ->bB.1 k H/\∀y H',bB.2 k H y H'->Rel O K Y' h H'/\bc Y' H Y' H'/\RV K Y' H' x y
 stop:∀(k:Nat)(h:IH)(H:Hp)(Y':Tt),bc Y H₀ Y' H->Rel O K Y' h H->I.2 h->WP I.xs<=k->bB.3 k H
def Rel.get{K:W.Frag}(R:Rel O K Y h H){i:Nat}(e:h[i]?=V o)(ha:Y[i]?=V a):RO O K Y H a o:=by let#[b,j,r]:=R.3 i o e;rw[ha]at j;cases j;show r
def FT(O:aN)(X:Cx)(tg:Expr)(Z:aZ)(Y':Tt)(I:jW)(itv:Zv)(s2:Z5)(H':Hp):Prop:=∃(it:ZF)(fp:Tt)(tn:Nat->bu->Prop)(bB:It),itv=.ref it/\Turn X.1 X.w X.K tg bB fp it tn/\tn 0 s2.1/\(∀b∈fp,aE X Z H' b)/\gh O X.K Y' H' bB I
def jc(O:aN)(X:Cx)(tg iter:Expr)(m:I1):Prop:=∀(Z:aZ)(s:Z5)(U:L2.St)(H:Hp)(Y:Tt)(bD:aD)(h:IH)(Q:aQ)(E:aQ),aB O X Z Y bD h U H s ->(match m bD h with|.ok I h'=>∀itv s' H' Y',aB O X Z Y' bD h' U H' s'->bc Y H Y' H'->FT O X tg Z Y' I itv s' H'->Q itv s'|.exc n h'=>∀pl a s' H' Y',aB O X (Z++pl) Y' bD h' U H' s'->bc Y H Y' H'->Y'[n]?=V a->E (.ref a) s'|.stuck=>False) ->
  Z0 (ZA X.1 X.w) X.A (bj iter X.10) (λv s1=>Z0 (ZA X.1 X.w) X.A (l4 v) Q E s1) E s
section
variable{O:aN}{X:Cx}
def jX(h:Z0 M A t Q (λ_ _=>False) s):Z0 M A t Q E s:=(dD h (λ_ _ x=>x) λ_ _ z=>z.elim)
def aB.pins{Z:aZ}(N:aB O X (Z++pl) Y bD h U H s):aB O X Z Y bD h U H s:=(#[N.1.iH,N.2,N.3])
def Pl(hc:X.15=Zl)(hst:X.12=X.10::X.11)(hf:X.10.8=V X.10.2)(hi:jc O X tg iter mi)(hg:jb O X tg g)(S:jV O X body mb)
  (hs:∀x,sD iter X.10 x=pure x:=by intro _;rfl):cJ O X (.For tg iter body [] pos) (cD mi g mb):=by
 intro Z s U H Y bD h Q E N K;calc wpAny_For (hi Z s U H Y bD h _ E N ?_) hs;unfold cD at K;cases e0:mi bD h with|exc n h'=>rw[e0]at K;show λpl a s' F Y' N' n' q=>K pl a s' U F Y' N' n' q s'<|.inl 07|stuck=>rw[e0]at K;show K|ok I h'=>
  rw[e0]at K;intro itv s2 H2 W2 N2 n2 R;let#[it,fp,tn,bB,e,T,st2,f2,OK]:=R;subst e;let stat:∀{F:Hp},(∀b∈fp,F b=Zg)->∀b∈fp,aE X Z F b:=λhn b S=>#[hn b S,(f2 b S).2]
  let K2:=JD.mono (r:=Qc I.2 g mb I.1 bD h') K n2;refine codeAny_forLoop_any (λn s'=>∃k D Uk hk U' F,aB O X Z D Uk hk U' F s'/\bc W2 H2 D F/\tn k s'.1/\(∀b∈fp,F b=Zg)/\n=WP I.xs-k/\k<=WP I.xs/\JD O X Z D F (Qc I.2 g mb (I.1.drop k) Uk hk) Q E) ?_ (WP I.xs)
   #[0,W2,bD,h',U,H2,N2,.refl,st2,λb S=>(f2 b S).1,03,ZX _,by simpa using K2]
  rintro n s3 ⟨k,D,Uk,hk,U3,H3,N3,n3,st3,fr3,rfl,hkl,j⟩;by_cases hlt:k<WP I.xs
  ·-- a turn
   let hd:=nV hlt;rw[hd]at j;unfold Qc at j;split at j
   .rename_i hck;let#[go,yl]:=OK.1 k I.1[k] hk H3 D n3 N3.2 hck<|Zd hlt;refine jX<|rM (T.4 X 07 07 07 hc k Z s3 U3 H3 (λ_ _=>False) N3.1 (stat fr3) st3 go) λr s4 ⟨u,hr,h4⟩=>?_
    subst hr;refine jX<|rM h4 λ_ s5 ⟨x,H5,I5,r5,y5,st5,fr5⟩=>?_
    let#[R5,n5,q5]:=yl x H5 y5;let I5':=I5.pinned (stat fr5)<|T.2 _ _ st5;let N5:aB O X (Z++QY fp s5.1) D Uk hk U3 H5 s5:=#[I5',R5,N3.3.mono n5];cases eg:g I.1[k] Uk hk with
    |next Ug hgg=>
     rw[eg]at j;dsimp only at j;calc jX<|hg _ s5 U3 H5 D Uk hk _ u (λ_ s6=>Z0 (ZA X.1 X.w) X.A (execs body X.10) _ _ s6) (λ_ _=>False) N5 #[x,r5,q5] ?_;rw[eg];intro s6 W6 H6 U6 N6 n6;calc S _ s6 W6 H6 U6 Ug hgg _ _ N6 ?_;let W:∀{U7:L2.St}{L:Hp}{J:Z5}{B:aD}{h7:IH}{M:Tt},aB O X (Z++QY fp s5.1) M B h7 U7 L J->bc U6 H6 M L->JD O X Z D H3 (Qc I.2 g mb (I.1.drop<|k+1) B h7) Q E ->
       ∃m,m<WP I.xs-k/\∃k D Uk hk U' F,aB O X Z D Uk hk U' F J/\bc W2 H2 D F/\tn k J.1/\(∀b∈fp,F b=Zg)/\m=WP I.xs-k/\k<=WP I.xs/\JD O X Z D F (Qc I.2 g mb (I.1.drop k) Uk hk) Q E:=
      λ{U7 L J B h7 M} G P K7=>by let nn:=(n5.trans n6).trans P;calc#[WP I.xs-(k+1),si _ _ 06,k+1,M,B,h7,U7,L,G.pins,n3.trans nn,T.3 _ _ _ st5 λb S o e=>(G.1.9 (b,o)<|Zr _<|Zr _<|YC S e).1,λb S=>?_,07,hlt,K7.mono nn];let#[o,e,d]:=T.2 _ _ st5 b S;show(G.1.9 (b,o)<|Zr _<|Zr _<|YC S e).2.1
     cases eb:mb Ug hgg with
     |next B h7=>rw[eb]at j;show λJ U7 L M G P=>W G P j
     |cont B h7=>rw[eb]at j;show λJ U7 L M G P=>W G P j
     |brk B h7=>rw[eb]at j;show λJ U7 L M G P=>j J U7 L M G.pins<|(n5.trans n6).trans P
     |ret v h7=>rw[eb]at j;show λu J B U7 L M G P r=>j u J B U7 L M G.pins ((n5.trans n6).trans P) r
     |exc n B h7=>
      rw[eb]at j;dsimp only at j;cases hj:h7[n]? with|none=>rw[hj]at j;show(j).elim|some ob=>
       cases ob with
       |exc c fs=>
        rw[hj]at j;intro pl a J U7 L M G P q s8 fl;let#[C,tv,d,fe,hC,ha,ht]:=G.2.get hj q;let back:∀h8,eQ X.10.2 (eK X.12) a J.1 h8->cameBackBy (ZA X.1 X.w) X.A X.10 E (.ref a) {J with heap:=h8}:=λh8 n8=>
         FP hf n8 λh9 n9=>j (QY fp s5.1++pl) a J U7 L M (by simp_all) ((n5.trans n6).trans P) q _<|.inr #[h9,07,n9]
        rcases fl with rfl|⟨h8,rfl,n8⟩
        .show Ak G.1 hst hf ha ht back
        .show Al hf n8<|back h8 n8
       |_=>rw[hj]at j;show(j).elim
     |stuck=>rw[eb]at j;show(j).elim
    |_=>rw[eg]at j;show(j).elim
   .show(j).elim
  .let hke:I.1.drop k=[]:=yr<|ZM hlt;rw[hke]at j;unfold Qc at j;split at j
   .rename_i hck;let stop:=OK.2 k hk H3 D n3 N3.2 hck<|ZM hlt;refine jX<|rM (T.5 X 07 07 07 hc k Z s3 U3 H3 (λ_ _=>False) N3.1 (stat fr3) st3 stop) λr s4 ⟨hr,I4⟩=>?_
    subst hr;show sG<|j s4 U3 H3 D #[I4,N3.2,N3.3] .refl
   .show(j).elim
noncomputable def iN:IV->IH->Res jW
 |.ref i,h=>match h[i]? with
  |some (.lst xs)=>.ok #[xs,λh'=>h'[i]?=V (.lst xs)] h
  |_=>.stuck
 |.cG xs,h=>.ok #[xs,λ_=>True] h
 |.tup xs,h=>.ok #[xs,λ_=>True] h
 |_,_=>.stuck
def lj(e:E1):I1:=λU h=>(e U h).bind iN
variable{tg:Expr}
def Pm{i:Nat}(ha:Y[i]?=V a):gh O X.K Y H₀ (tq X.K a) #[xs,λh'=>h'[i]?=V (.lst xs)]:=by
 refine#[λk x h H G C R j B=>?_,λk h H G C R j B=>?_]
 .let#[m,u,E]:=R.get j<|C.at ha;let#[v,F,I]:=E.get B;calc#[#[m,v,bZ.of u,F],λy J D=>?_];let#[rfl,D]:=D;let:=D m<|bZ.of u;rw[F]at this;cases this;show#[R,.refl,I]
 .let#[m,u,E]:=R.get j<|C.at ha;show#[m,bZ.of u,by rw[E.length];show B]
def Po(sa:pT X.K H₀ a vs)(D:aA X.K Y H₀ xs vs):gh O X.K Y H₀ (tq X.K a) #[xs,λ_=>True]:=by
 refine#[λk x h H E j R B m=>?_,λk h H E j R B m=>?_]
 .let#[v,C,F]:=D.get m;let sq:=(j.2.z7 sa).sq;calc#[#[vs,v,sq,C],λy G u=>?_];let#[rfl,u]:=u;let:=u vs sq;rw[C]at this;cases this;show#[R,.refl,RV.mono j _ _ F]
 .show#[vs,(j.2.z7 sa).sq,by rw[D.length];show m]
def Pp(sa:eL X.K H₀ a vs)(D:aA X.K Y H₀ xs vs):gh O X.K Y H₀ (zL X.K a) #[xs,λ_=>True]:=by
 refine#[λk x h H E j R B m=>?_,λk h H E j R B m=>?_]
 .let#[v,C,F]:=D.get m;let sq:=j.2.tF sa;calc#[#[vs,v,sq,C],λy G u=>?_];let#[rfl,u]:=u;let:=u vs sq;rw[C]at this;cases this;show#[R,.refl,RV.mono j _ _ F]
 .show#[vs,j.2.tF sa,by rw[D.length];show m]
def Ao(hl:ai O X l ml):jc O X tg l (lj ml):=by
 intro Z s U H Y W h Q E N K;calc hl Z s U H Y W h _ E N ?_;unfold lj at K;cases J:ml W h with|exc n L=>rw[J]at K;show K|stuck=>rw[J]at K;show K|ok v L=>
  rw[J]at K;intro u k F G j n1 R;let#[w,B,q]:=R;let kX:∀b∈[k.1.1.size],aE X Z F b:=λb hb=>by
   let e:b=k.1.1.size:=by simpa using hb
   subst e;show j.1.c9 (Zm _)<|j.1.aw.fresh<|Zm _
  cases v with
  |ref i=>
   let#[a,m,ha]:=q;subst m;cases B;cases D:L[i]? with|none=>simp![Res.bind,iN,D]at K|some o=>cases o with|lst xs=>simp![Res.bind,iN,D]at K;let#[M,m,R]:=j.at D ha;let#[C,S,p,P]:=j.1.list<|bZ.of m;calc og p.isList<|K _ _ F G #[j.1.kept λb o e=>Zj _ e,j.2,j.3] n1 ?_;show#[k.1.1.size,[k.1.1.size],_,tq X.K a,07,EU a _,#[_,Zw _ 07,07,07],kX,Pm ha]|_=>simp![Res.bind,iN,D]at K
  |cG xs=>let#[a,M,m,sa,I]:=q;subst m;cases B;let#[C,S,p,P]:=j.1.list sa.sq;calc og p.isList<|K _ _ F G #[j.1.kept λb o e=>Zj _ e,j.2,j.3] n1 ?_;show#[k.1.1.size,[k.1.1.size],_,tq X.K a,07,EU a _,#[_,Zw _ 07,07,07],kX,Po sa I]
  |tup xs=>let#[a,M,m,sa,I]:=q;subst m;cases B;let#[C,S,p,P]:=j.1.tuple sa;calc uT (p)<|K _ _ F G #[j.1.kept λb o e=>Zj _ e,j.2,j.3] n1 ?_;show#[k.1.1.size,[k.1.1.size],_,zL X.K a,07,Nf a _,#[_,Zw _ 07,07,07],kX,Pp sa I]
  |_=>simp![Res.bind,iN]at K
noncomputable def aR (lo hi:Int):Tv:=(Z6 (hi-lo).toNat).map λk=>.int<|lo+(k:Nat)
def Qi:Tv->IH->Res jW|[.int j],h=>if -(2^62)<=j/\j<2^62 then .ok #[aR 0 j,λ_=>True] h else .stuck|_,_=>.stuck
def VP:Tv->IH->Res jW|[.int i,.int j],h=>if -(2^62)<=i/\i<2^62/\ -(2^62)<=j/\j<2^62 then .ok #[aR i j,λ_=>True] h else .stuck|_,_=>.stuck
def Pq(k:¬ ∃i j,vs=[.int i,.int j]):VP vs h=.stuck:=by
 unfold VP;split
 .show absurd #[_,_,07] k
 .rfl
def cR(f:Tv->IH->Res jW)(a:A1):I1:=λU h=>(a U h).bind f
def Pr{lo hi:Int}:gh O X.K Y H₀ (vP lo (hi-lo).toNat) #[aR lo hi,λ_=>True]:=by
 refine#[λk x h H B D R m j=>?_,λk h H B D R m j=>?_]
 .let u:k<(hi-lo).toNat:=by let:=(Zp.1 j).1;simpa[aR]using this
  calc#[u,λy E C=>?_];let#[rfl,rfl]:=C;simp![aR,Zz,uJ u]at j;cases j;show#[R,.refl,07]
 .let:(aR lo hi).length=(hi-lo).toNat:=by simp[aR]
  rw[<-this];show j
def FU{lo hi:Int}(N:aB O X Z Y bD h U H s)
  (h1: -(2^62)<=lo)(J:lo<2^62)(h3: -(2^62)<=hi)(D:hi<2^62)
  (K:∀j s' H' Y',aB O X Z Y' bD h U H' s'->bc Y H Y' H'->FT O X tg Z Y' #[aR lo hi,λ_=>True] j s' H'->Q j s'):
  Z0 (ZA X.1 X.w) X.A (l4<|.ref s.1.1.size) Q E {s with heap:=s.1.push {cls:=.type "range",data:=.fields (bT [.int lo t,.int hi u,.int 1 v])},toks:=tk}:=by
 let:=Nh (X:=X) (tg:=tg) (E:=E) (R:=λk H'=>k=vP lo (hi-lo).toNat/\H'=H) (t:=t) (u:=u) (v:=v) (tk:=tk) N.1 h1 J h3 D #[07,07];refine dD this (λj s' C=>?_) λ_ _ z=>z
 let#[it,B,tn,k,H',e,m,T,st,f,rfl,rfl]:=C;show K j s' _ Y #[m,N.2,N.3] .refl #[it,B,tn,_,e,T,st,f,Pr]
def Pt(hg:Gl X "range")(hm:X.4 "range"=Zg)(ha:dR O X [a] ma)(hs:ZT [a] X.10=[(Zo,bj a X.10)]:=by rfl):jc O X tg (.Call (.Name "range" p) [a] [] pos) (cR Qi ma):=by
 intro Z s U H Y B h Q E N K;calc Call_<|Qk N.1 hg hm vt<|mn ?_ hs 07;calc ha pos Z s U H Y B h _ E N ?_;unfold cR at K;cases u:ma B h with|exc n C=>rw[u]at K;show K|stuck=>rw[u]at K;show K|ok D C=>
  rw[u]at K;intro us s1 H1 U1 I n1 M;let#[xs,rv,L]:=M;match D,K with
  |[.int j],K=>
   let#[w,r,P,q,q2]:=L;let e2:r=[]:=q2;subst P e2;let W:w=.int j:=q;subst W;cases rv with|cons r F=>
    cases F;let#[t,rfl]:=r;simp![Res.bind,Qi]at K;by_cases k: -(2^62)<=j/\j<2^62
    .rw[if_pos k]at K;show yQ<|FU I (jn _) (jn _) k.1 k.2 λm s' H' S G J R=>K m s' H' S G (n1.trans J) R
    .lia
  |[],K=>show Zf K
  |.ah::_,K=>show Zf K
  |.bl _::_,K=>show Zf K
  |.str _::_,K=>show Zf K
  |.tup _::_,K=>show Zf K
  |.cG _::_,K=>show Zf K
  |.ref _::_,K=>show Zf K
  |.int _::_::_,K=>show Zf K
def Pu(hg:Gl X "range")(hm:X.4 "range"=Zg)(ha:dR O X [a,b] ma)(hs:ZT [a,b] X.10=[(Zo,bj a X.10),(Zo,bj b X.10)]:=by rfl)(m:ZT [b] X.10=[(Zo,bj b X.10)]:=by rfl):jc O X tg (.Call (.Name "range" p) [a,b] [] pos) (cR VP ma):=by
 intro Z s U H Y I h Q E N K;calc Call_ (Qk N.1 hg hm vt<|mn ?_ (by rw[hs,m])<|by rw[m];rfl);calc ha pos Z s U H Y I h _ E N ?_;unfold cR at K;cases D:ma I h with|exc n J=>rw[D]at K;show K|stuck=>rw[D]at K;show K|ok M J=>
  rw[D]at K;intro us s1 H1 U1 W n1 r1;let#[xs,rv,qs]:=r1;by_cases G:∃i j,M=[.int i,.int j]
  .let#[i,j,rfl]:=G;let#[w,r,e1,q,P,F,C,q',q2]:=qs;let e2:F=[]:=q2;subst e1 C e2;let e3:w=.int i:=q;let L:P=.int j:=q';subst e3 L;cases rv with|cons r u=>
    cases u with|cons F u=>
     cases u;let#[t,rfl]:=r;let#[t',rfl]:=F;simp![Res.bind,VP]at K;by_cases k: -(2^62)<=i/\i<2^62/\ -(2^62)<=j/\j<2^62
     .rw[if_pos k]at K;show call_range_2<|FU W k.1 k.2.1 k.2.2.1 k.2.2.2 λB s' H' Y' S n' R=>K B s' H' Y' S (n1.trans n') R
     .rw[if_neg k]at K;show K.elim
  .simp only[Res.bind,Pq G]at K
end
end L3
namespace L3
open PySem PySem.Spec PySem.Calls PyProof.Rows L2
section
variable{prog:cy}{w:bV}{A:cz}{E:aQ}{s:Z5}{K:W.Frag}{x D:ZF}{ox:Obj}
open PySem.W PySem.Builtin PySem.Builtin.ObjectAttr PySem.Builtin.Getset_descriptor in
def Pw{tp:Zv}(X:K.In s.1)(hx:s.1.get? x=V ox)(hcl:ox.1=.ref D)(hm:mroIn K D (.type "object")=V Zl)(k:R (.ok<|.ret<|.ref D) s):i1 (ZA prog w) A (.call (.builtin "getset_descriptor.__get__") #[[.builtin "object.__class__",.ref x,tp],[]]) R s:=by
 let#[hh,g,d,t,os]:=s;let L0:Looks (ZA prog w) hh (l5<|.ref x) (.ref D):=hcl▸(Looks.ld hx).andThen .now;let L5:=looks_mroIn (M:=ZA prog w) X hm;let sl:=KF.slot_gs;calc qT sl.4 KF.entry_gs<|sl.3 _ _ _ _ _ _ _ _ KF.type_class (KF.args_gs _ _ _) ?_;unfold eU.«getset_descriptor.__get__»;unfold descrGet;rw[dga_obj];apply Ze;apply Zs;unfold descrGetter descrCheckInstance;unfold descrNameAndClass isInstance;simp![KF.owner_class];repeat lk
 let quiet:=vG (id:="object.__class__") #[[.ref x],[]]<|by decide +kernel
 calc#[quiet,jN KF.entry_class ?_];unfold eU.«object.__class__»;unfold shownTypeOf;repeat lk
 show k
def Px(X:K.In s.1)(k:s.1.get? x=V ox)(j:ox.1=.ref D)(m:W.findIn K (.ref D) "__class__"=V (V<|.builtin "object.__class__"))(hm:W.mroIn K D (.type "object")=V Zl) (H:Q (.done<|.ret<|.ref D) s):Z0 (ZA prog w) A (eU.«object.__getattribute__» #[[.ref x,.str "__class__" tk],[]]) Q E s:=by
 let#[C,g,d,t,os]:=s;let B:W.Looks (ZA prog w) C (l5<|.ref x) (.ref D):=j▸(W.Looks.ld k).andThen .now;let u:=W.looks_findIn (M:=ZA prog w) X m;let G:=F.typeOf_object_class;let J:=F.slot_gs_get.1;let I:=F.slot_gs_set.1;repeat (any_goals (first|assumption|with_reducible calc B.at ?_|with_reducible calc u.at ?_|wp_step))
 calc Pw X k j hm ?_;repeat (any_goals (first|assumption|wp_step))
def FV(X:K.In s.1)(u:s.1.get? x=V ox)(j:ox.1=.ref D)(H:W.mroIn K D (.type "BaseException")=V Zl)(B:Q () s):Z0 M A (checkBuiltinCall "BaseException.__getattribute__" #[[.ref x,v],[]]) Q E s:=by
 let#[G,g,d,t,os]:=s;let m:W.Looks M G (l5<|.ref x) (.ref D):=j▸(W.Looks.ld u).andThen .now;let C:=W.looks_mroIn (M:=M) X H;let J:builtinKind "BaseException.__getattribute__"=V .slot:=by decide +kernel
 let k:splitId "BaseException.__getattribute__"=V ("BaseException","__getattribute__"):=by decide +kernel
 let I:=F.args_bexc_ga (.ref x) v;simp![checkBuiltinCall,k];calc Ze ?_;unfold isInstance;repeat (first|with_reducible calc m.at ?_|with_reducible calc C.at ?_|wp_step)
 show B
def Py(X:K.In s.1)(k:s.1.get? x=V ox)(j:ox.1=.ref D)(u:W.findIn K (.ref D) "__getattribute__"=V (V<|.builtin "BaseException.__getattribute__"))(H:W.mroIn K D (.type "BaseException")=V Zl)(hn:W.findIn K (.ref D) "__getattr__"=V Zg) (J:W.findIn K (.ref D) "__class__"=V (V<|.builtin "object.__class__"))(hm:W.mroIn K D (.type "object")=V Zl)(O:Q (.ref D) s):Z0 (ZA prog w) A (getAttrBy (.ref x) (.str "__class__" tk) Zo) Q E s:=by
 let#[G,g,d,t,os]:=s;let C:W.Looks (ZA prog w) G (l5<|.ref x) (.ref D):=j▸(W.Looks.ld k).andThen .now;let I:=W.looks_findIn (M:=ZA prog w) X u;let B:=W.looks_findIn (M:=ZA prog w) X hn;let L:=F.attr_ValueError.1.2<|.ref x;let m:(sW "BaseException.__getattribute__"==sW "object.__getattribute__")=Zo:=by decide +kernel
 repeat (any_goals (first|assumption|with_reducible calc C.at ?_|with_reducible calc I.at ?_|with_reducible calc B.at ?_|wp_step))
 calc qT F.attr_ValueError.1.4 F.entry_bexc_ga<|FV X k j H<|Px X k j J hm ?_;repeat (any_goals (first|assumption|wp_step))
def Pz(X:K.In s.1)(m:s.1.get? x=V ox)(j:ox.1=.ref D)(k:W.findIn K (.ref D) "__getattribute__"=V (V<|.builtin "BaseException.__getattribute__"))(B:W.mroIn K D (.type "BaseException")=V Zl)(hn:W.findIn K (.ref D) "__getattr__"=V Zg) (C:W.findIn K (.ref D) "__class__"=V (V<|.builtin "object.__class__"))(hm:W.mroIn K D (.type "object")=V Zl)(u:Q (V<|.ref D) {s with toks:=s.4+1}):Z0 (ZA prog w) A (getAttr? (.ref x) "__class__") Q E s:=by let#[F,g,d,t,os]:=s;unfold getAttr? getAttrBy?;calc Ze<|wpAny_mkText<|Ze<|uX<|Py X m j k B hn C hm ?_;show Zs u
end
structure hE(K:W.Frag)(C:ZF):Prop where
 ga:W.findIn K (.ref C) "__getattribute__"=V (V<|.builtin "BaseException.__getattribute__")
 mb:W.mroIn K C (.type "BaseException")=V Zl
 gn:W.findIn K (.ref C) "__getattr__"=V Zg
 ca:W.findIn K (.ref C) "__class__"=V (V<|.builtin "object.__class__")
 mo:W.mroIn K C (.type "object")=V Zl
 hd:W.hasDictIn K C=Zl
def hE.at_{K:W.Frag}(e:hE K C):∃c d cd sl,K.lookup C=V #[c,d,.cls cd,sl]:=by
 let#[cd,k,_]:=W.any_some e.6;unfold W.clsIn at k;split at k;case h_2=>cases k
 rename_i c d j sl ho;show#[c,d,j,sl,ho]
theorem FW{K:W.Frag}{x D:ZF}(e:hE K D):W.KitX K (.ref x) (.ref D) (λh=>∃ox,h.get? x=V ox/\ox.1=.ref D) where
 ty:=λ_ _ _ ⟨ox,j,u⟩=>u▸(W.Looks.ld j).andThen .now
 it:=λ_ _ X _=>by let#[c,d,cd,B,ho]:=e.at_;intro F H G L kp q;unfold isType;unfold loadHead;show Ze<|yM (kp _ _<|X D _ ho)<|Zs q
 ne:=λh J I E n B X m=>by let#[c,d,cd,C,ho]:=e.at_;rw[rm];intro q;cases (Value.ref.inj<|beq_iff_eq.1 q);let z:=(X D _ ho).symm.trans m;cases z
 ca:=λX ⟨ox,j,u⟩ k=>Pz X j u e.1 e.2 e.3 e.4 e.5 k
end L3
namespace L3
open PySem PySem.Spec PyProof.Rows L2
noncomputable def XZ (n:Nat)(vs:Tv):aD:=vs.map V++d8 (n-WP vs) Zg
noncomputable def bS.fin (r:bS):Res IV:=match r with|.next _ h'=>.ok .ah h'|.ret v h'=>.ok v h'|.exc n _ h'=>(match h'[n]? with|some (.exc _ _)=>.exc n h'|_=>.stuck)|_=>.stuck
noncomputable def Ap (n:Nat)(m:S1):Tv->IH->Res IV:=λvs h=>(m (XZ n vs) h).fin
def jd(O:aN)(K:W.Frag)(ps:Tj)(f:Tv->IH->Res IV):Sp:=λvs H Q E=>
 (WP vs)=WP ps/\∃Y h ivs,Rel O K Y h H/\aA K Y H ivs vs /\ match f ivs h with|.ok v h'=>∀x H' Y',Rel O K Y' h' H'->bc Y H Y' H'->RV K Y' H' v x->Q x H'|.exc n h'=>∀a H' Y',Rel O K Y' h' H'->bc Y H Y' H'->Y'[n]?=V a->E (.ref a) Zg H'|.stuck=>False
def aA.start{K:W.Frag}(r:aA K Y H ivs vs):j7 K Y H (XZ (WP N) ivs) (L2.start N vs):=by
 let B:=r.length;calc#[by simp[XZ,L2.start,B],λj v e=>?_];unfold XZ at e;unfold L2.start;by_cases k:j<WP ivs
 .rw[ZN (by simpa using k),Zz]at e;rw[ZN (by simp;show Zb k<|Zh B.symm),Zz];cases m:ivs[j]? with|none=>rw[m]at e;cases e|some w=>rw[m]at e;cases e;let#[u,C,q]:=r.get m;show#[u,by rw[C];rfl,q]
 .rw[ZL (by simpa using k),uE]at e;split at e<;>cases e
theorem Aq:∀{l:List α}{i:Nat}{x:α},l[i]?=V x->l.set i x=l|[],_,_,e=>by simp at e|a::l,0,x,e=>by cases e;rfl|a::l,i+1,x,e=>by change a::l.set i x=a::l;rw[Aq (l:=l) e]
def Vj{K:W.Frag}{i:Nat}(R:Rel O K Y h H)(e:h[i]?=V o)(q:Y[i]?=V a):RO O K Y H a o:=by let#[b,j,r]:=R.3 i o e;rw[q]at j;cases j;show r
structure pW(K:W.Frag)(x qual:Str)(st:fu)(f:ZF)(fd:jm)(dV:Zv):Prop where
 ex:∃(oc:Zv)(od:Tc)(kV doc pm:Zv)(an:Tc)(cdv ct:Zv)(osl:Wb),fd=W.fnOf x qual (VI st) (Vf st) (Qq st) dV kV doc pm an cdv ct/\K.lookup f=V #[oc,od,.func fd,osl]/\W.codeIn K cdv qual=Zl
 kp:W.keepIn K (.ref f)=Zl
section
variable{P:cy}{w:bV}{K:W.Frag}{mg:Str->Tb}{base:bu}{O:aN}
def pW.fn{st:fu}(F:pW K x qual st f fd dV)(S:dQ N ps<|Qq st)
  (hbody:∀(M:Zv)(A:cz)(outer:Tk)(s:Z5)(H:Hp)(E:XK),W.codeIn K M qual=Zl->bJ κ k (A.deeper<|mZ qual (Qq st) s.1.1.size f M)->jV O (j4 (eR P w) P w K mg base N qual (Qq st) f M A outer s H E).Nc (Vf st) m)(hn:WP N=n:=by rfl):
  bW P w K mg base (eR P w) κ (k+1) f fd ps (jd O K ps<|Ap n m):=by
 subst hn;let#[oc,od,kV,doc,pm,an,M,ct,osl,rfl,lk,hcd]:=F.1;refine NP lk hcd S (λvs H Q E h=>h.1) λA outer s H vs Q E hr hsp=>?_
 let#[hl,Y,h,ivs,R,rv,B]:=hsp;refine#[λD U H=>∃Y bD h,Rel O K Y h H/\j7 K Y H bD U/\match m bD h with|.next Ui' h'=>∀U' G L,Rel O K L h' G->j7 K L G Ui' U'->bc Y H L G->D.1 U' G|.ret v h'=>∀x G L,Rel O K L h' G->bc Y H L G->RV K L G v x->D.2 x G|.exc n _ h'=>(∃c fs,h'[n]?=V (.exc c fs))/\∀a G L,Rel O K L h' G->bc Y H L G->L[n]?=V a->E (.ref a) Zg G|_=>False,λZ s' U' G D I ht=>?_,Y,XZ (WP N) ivs,h,R,rv.start,?_]
 .let#[Y,bD,h,R,rs,hm]:=ht;refine dD (hbody M A outer s H E hcd hr Z s' U' G Y bD h (SP _ Z D) _ #[I.bo _,R,rs] ?_) (λ_ _ z=>z) λ_ _ z=>z
  cases e:m bD h with
  |next U2 J=>rw[e]at hm;show λs3 U3 H3 W3 X n3=>#[U3,H3,X.1.bH,hm U3 H3 W3 X.2 X.3 n3]
  |ret v J=>rw[e]at hm;show λu s3 U3i U3 H3 W3 X n3 ⟨z,rz,q⟩=>#[z,U3,H3,X.1.bH,rz,hm z H3 W3 X.2 n3 q]
  |exc j U2 J=>
   rw[e]at hm;let#[#[c,fs,hj],hm]:=hm;intro pl a s3 U3 H3 W3 X n3 hi s4 fl;let I3:=X.1.bH;let#[C,tv,d,fe,hC,ha,ht]:=Vj X.2 hj hi;refine Pf I3 fl 07 07 ha ht λT oT h' p=>?_
   let nl:s.1.get? s.1.1.size=Zg:=vc<|Zm _;let#[R4,n4]:=X.2.grow (o:=.bK oT<|.own 0) p.1;let ha4:upd H3 T (.bK oT<|.own 0) a=V (cB a C tv d):=by rw[Jq<|bP p.2];show ha
   let#[R5,n5]:=R4.write hi ha4 (by rw[ha4];trivial) (o:=cB a C (.ref T) d) (io:=.exc c fs) #[C,.ref T,d,fe.mono p.4.6,hC,Jz,.inr #[T,oT,_,07,by rw[Jq p.2,Jz],p.3.choose_spec]];rw[Aq hj]at R5;show#[_,I3.2,I3.3,Un.tail I3.4 p.4 nl,p.5,hm a _ W3 R5 ((n3.trans n4).trans n5) hi]
  |_=>rw[e]at hm;show hm.elim
 .unfold Ap bS.fin at B;cases e:m (XZ (WP N) ivs) h with
  |next U2 J=>rw[e]at B;show λU3 H3 W3 R3 _ n3=>B .ah H3 W3 R3 n3 07
  |ret v J=>rw[e]at B;show B
  |exc j U2 J=>
   rw[e]at B;dsimp only at B;cases q:J[j]? with|none=>rw[q]at B;show B.elim|some o=>cases o with|exc c fs=>rw[q]at B;show#[#[c,fs,q],B]|_=>rw[q]at B;show B.elim
  |_=>rw[e]at B;show B.elim
end
noncomputable def Res.nx {α:Type}:Res α->Res α|.ok a h=>.ok a h|_=>.stuck
def Jl(f:Tv->IH->Res IV)(aS:Tv)(a:A1):E1:=λU h=>(a U h).bind λvs h1=>f (vs++aS) h1
def JI(c:Str)(f:Tv->IH->Res IV)(aS:Tv)(a:A1):E1:=λU h=>(a U h).bind λvs h1=>(f (.ref (WP h1)::(vs++aS))<|h1++[.ins c []]).bind λr J=>match r with|.ah=>.ok (.ref (WP h1)) J|_=>.stuck
def v7(m:Str)(disp:Str->Option ((Tv->IH->Res IV)×Tv))(o:E1)(a:A1):E1:=λU h=>(o U h).bind λv h1=>match v with|.ref i=>(match h1[i]? with|some (.ins c fs)=>(match disp c,fs.lookup m with|some (f,aS),Zg=>(a U h1).bind λvs J=>f (.ref i::(vs++aS)) J|_,_=>.stuck)|_=>.stuck)|_=>.stuck
section
variable{O:aN}{X:Cx}{k:Nat}{fa C:ZF}{fd:jm}{ps:Tj}{f:Tv->IH->Res IV}{aS:Tv}{ds:Tu}{x m:Str}{p pos apos:Pos}{e o:Expr}{es:Td}{mo:E1}{ma:A1}
def YL(F:bW X.1 X.w X.K X.4 X.5 (eR X.1 X.w) κ k fa fd ps<|jd O X.K ps f)(M:bJ κ k X.A)(hc:Qv X.A H)(W:Qe X.K fd ps ds) (hd:∃vs,Vals vs ds/\∀Y H,aA X.K Y H aS vs)(J:WP us+WP ds=WP ps)(N:aB O X Z Y bD h U H s)(r:jy X.K Y H xs us)(K:Kont O X RU Z Y bD U H (f (xs++aS) h) Q E):Z0 (ZA X.1 X.w) X.A (call (.ref fa) us) Q E s:=by
 let#[vs,I,q]:=r;let#[dv,rd,L]:=hd;let hl1:=I.length;let hl2:=rd.length;refine dD (Ph (Q:=λz m=>∀u j,Inv X Z U m j->RelV z u->Q u j) (E:=λv _ m=>∀j,Inv X Z U m j->E v j) F M hc W rd N.1 I #[by rw[Z1];lia,Y,h,xs++aS,N.2,q.append<|L Y H,?_] λ_ j _ B z=>z j B) (λu j ⟨z,m,B,r',S⟩=>S u j B r') λ_ _ z=>z
 cases e:f (xs++aS) h with|ok v P=>rw[e]at K;show λz m D G C qz u j B ru=>K u j m D #[B,G,N.3.mono C] C #[z,ru,qz]|exc n P=>rw[e]at K;show λa m D G C R j B=>K [] a j m D #[by simpa using B,G,N.3.mono C] C R|stuck=>rw[e]at K;show K
def PA(F:bW X.1 X.w X.K X.4 X.5 (eR X.1 X.w) κ k fa fd ps<|jd O X.K ps f)(I:Roo κ k X)(S:Gl X x)(hm:X.4 x=V (.ref fa))(P:W.keepIn X.K (.ref fa)=Zl)(L:Qe X.K fd ps ds)(hd:∃vs,Vals vs ds/\∀Y H,aA X.K Y H aS vs) (ha:dR O X (e::es) ma)(m:∀U h xs h',ma U h=.ok xs h'->WP xs+WP ds=WP ps)(D:(x==("__debug__":Str))=Zo:=by decide)(M:ZT (e::es) X.10=(Zo,bj e X.10)::ZT es X.10:=by rfl)(B:(eJ pos<|ZT es X.10).any (·.1)=Zo:=by rfl):ai O X (.Call (.Name x p) (e::es) [] pos) (Jl f aS ma):=by
 intro Z s U H Y G h Q E N K;calc iD<|VC N.1 S hm ?_ D;calc W.callWith_K (h₀:=X.5) N.1.1.1.1 P ?_ M B;let j:=K;unfold Jl at j;calc ha pos Z s U H Y G h _ E N ?_;cases u:ma G h with|exc n h'=>rw[u]at j;show j|stuck=>rw[u]at j;show j|ok xs h'=>
  rw[u]at j;intro us s1 H1 U1 C n1 J;let hl:WP xs=WP us:=by let#[vs,R,q]:=J;rw[<-R.length,q.length]
  show#[C.1.cO,YL (us:=us) F I.r (C.1.cV I.c) L hd (by let:=m G h xs h' u;lia) C J<|Kont.mono (r:=(f (xs++aS) h')) j n1]
def PB(F:bW X.1 X.w X.K X.4 X.5 (eR X.1 X.w) κ k fa fd ps<|jd O X.K ps f)(u:Roo κ k X)(C:Gl X x)(hm:X.4 x=V (.ref fa))(D:W.keepIn X.K (.ref fa)=Zl)(B:Qe X.K fd ps ds)(hd:∃vs,Vals vs ds/\∀Y H,aA X.K Y H aS vs) (j:WP ds=WP ps)(m:(x==("__debug__":Str))=Zo:=by decide):ai O X (.Call (.Name x p) [] [] pos) (Jl f aS Je):=by intro Z s U H Y G h Q E N K;calc iD<|VC N.1 C hm ?_ m;show W.callWith_K0 N.1.cO D (YL (xs:=[]) F u.r (N.1.cV u.c) B hd (by simpa using j) N .nil K)
def FX(M:Mk X.K C fa)(F:bW X.1 X.w X.K X.4 X.5 (eR X.1 X.w) κ k fa fd ps<|jd O X.K ps f)(hC:O c=V C)(hr:bJ κ (k+1) X.A)(hc:Qv X.A H)(hb:Qe X.K fd ps ds) (hd:∃vs,Vals vs ds/\∀Y H,aA X.K Y H aS vs)(hlen:WP us+WP ds+1=WP ps)(N:aB O X Z Y bD h U H s)(r:jy X.K Y H xs us) (K:Kont O X RU Z Y bD U H ((f (.ref (WP h)::(xs++aS))<|h++[.ins c []]).bind λr J=>match r with|.ah=>.ok (.ref (WP h)) J|_=>.stuck) Q E):Z0 (ZA X.1 X.w) X.A (call (.ref C) us) Q E s:=by
 let#[vs,rv,q]:=r;let#[dv,rd,qd]:=hd;let hl1:=rv.length;let hl2:=rd.length;refine dD (Pj (Q:=λz B=>∀u j,Inv X Z U B j->RelV z u->Q u j) (E:=λv _ B=>∀j,Inv X Z U B j->E v j) M F hr hc hb rd N.1 rv (λx S hx L W=>#[by rw[jj,Z1];lia,?_]) λ_ j _ D z=>z j D) (λu j ⟨z,B,D,r',k'⟩=>k' u j D r') λ_ _ z=>z
 -- the new instance in the reading's heap
 let#[R1,n1]:=N.2.grow (o:=.own x) L;let P:upd H S (.own x) x=Zg:=by rw[Jq<|bP W];show hx
 let#[R2,n2]:=R1.alloc (o:=.ins C S []) (io:=.ins c []) P #[C,S,[],hC,Jz,07];let m:=n1.trans n2;let I:(Y++[x])[WP h]?=V x:=by rw[<-N.2.1,ZL<|Zm _];simp
 calc#[Y++[x],h++[.ins c []],.ref (WP h)::(xs++aS),R2,#[_,_,07,#[x,07,I],(aA.mono m _ _ q).append<|qd _ _],?_];cases e:f (.ref (WP h)::(xs++aS)) (h++[.ins c []])with
 |ok v h'=>rw[e]at K;intro z B R R' G qz;cases v with|ah=>let ez:z=.ah:=qz;subst ez;show#[07,λu j D ru=>K u j B R #[D,R',N.3.mono<|m.trans G] (m.trans G) #[.ref x,ru,x,07,G.at I]]|_=>show Zf K
 |exc n h'=>rw[e]at K;show λa B R R' G hi j D=>K [] a j B R #[by simpa using D,R',N.3.mono<|m.trans G] (m.trans G) hi
 |stuck=>rw[e]at K;show Zf K
def PC(M:Mk X.K C fa)(F:bW X.1 X.w X.K X.4 X.5 (eR X.1 X.w) κ k fa fd ps<|jd O X.K ps f)(hC:O c=V C)(L:Roo κ (k+1) X)(hg:Gl X x)(hm:X.4 x=V (.ref C))(R:Qe X.K fd ps ds)(hd:∃vs,Vals vs ds/\∀Y H,aA X.K Y H aS vs) (ha:dR O X (e::es) ma)(m:∀U h xs h',ma U h=.ok xs h'->WP xs+WP ds+1=WP ps)(G:(x==("__debug__":Str))=Zo:=by decide)(S:ZT (e::es) X.10=(Zo,bj e X.10)::ZT es X.10:=by rfl)(B:(eJ pos<|ZT es X.10).any (·.1)=Zo:=by rfl):ai O X (.Call (.Name x p) (e::es) [] pos) (JI c f aS ma):=by
 intro Z s U H Y I h Q E N K;calc iD<|VC N.1 hg hm ?_ G;calc W.callWith_K (h₀:=X.5) N.1.1.1.1 M.4 ?_ S B;let j:=K;unfold JI at j;calc ha pos Z s U H Y I h _ E N ?_;cases u:ma I h with|exc n h'=>rw[u]at j;show j|stuck=>rw[u]at j;show j|ok xs h'=>
  rw[u]at j;intro us s1 H1 U1 D n1 P;let hl:WP xs=WP us:=by let#[vs,rv,q]:=P;rw[<-rv.length,q.length]
  show#[D.1.cO,FX (us:=us) M F hC L.r (D.1.cV L.c) R hd (by let:=m I h xs h' u;lia) D P<|Kont.mono (r:=(f (IV.ref (WP h')::(xs++aS))<|h'++[.ins c []]).bind λr J=>match r with|IV.ah=>Res.ok (IV.ref (WP h')) J|_=>Res.stuck) j n1]
def PD(M:Mk X.K C fa)(F:bW X.1 X.w X.K X.4 X.5 (eR X.1 X.w) κ k fa fd ps<|jd O X.K ps f)(B:O c=V C)(u:Roo κ (k+1) X)(G:Gl X x)(hm:X.4 x=V (.ref C))(D:Qe X.K fd ps ds)(hd:∃vs,Vals vs ds/\∀Y H,aA X.K Y H aS vs) (j:WP ds+1=WP ps)(m:(x==("__debug__":Str))=Zo:=by decide):ai O X (.Call (.Name x p) [] [] pos) (JI c f aS Je):=by intro Z s U H Y I h Q E N K;calc iD<|VC N.1 G hm ?_ m;show W.callWith_K0 N.1.cO M.4 (FX (xs:=[]) M F B u.r (N.1.cV u.c) D hd (by simpa using j) N .nil K)
def Ar(O:aN)(X:Cx)(m:Str)(n:Nat)(disp:Str->Option ((Tv->IH->Res IV)×Tv)):Prop:=∀c f aS,disp c=V (f,aS)->∃(C fa:ZF)(fd:jm)(κ:Bool)(k:Nat)(ps:Tj)(ds:Tu),O c=V C/\mB X.K C/\Meth X.K C m fa/\bW X.1 X.w X.K X.4 X.5 (eR X.1 X.w) κ k fa fd ps (jd O X.K ps f)/\Roo κ k X/\Qe X.K fd ps ds/\(∃vs,Vals vs ds/\∀Y H,aA X.K Y H aS vs)/\n+WP ds+1=WP ps
def PF(ho:ai O X o mo)(hd:Ar O X m n disp)(ha:dR O X (e::es) ma)(G:∀U h xs h',ma U h=.ok xs h'->WP xs=n) (hst:ZT (e::es) X.10=(Zo,bj e X.10)::ZT es X.10:=by rfl)(hpl:(eJ pos<|ZT es X.10).any (·.1)=Zo:=by rfl) (ht:bj (.Call (.Attribute o m apos) (e::es) [] pos) X.10=(do
   let ov<-bj o X.10
   mV apos.atName
   let (f,first)<-iE [ov] (pA ov m pl)
   sO pos f first (eJ pos<|ZT (e::es) X.10) (oz pos<|oo [] X.10)):=by rfl):
  ai O X (.Call (.Attribute o m apos) (e::es) [] pos) (v7 m disp mo ma):=by
 intro Z s U H Y bD h Q E N K;calc W.methodCall_KW (pl:=pl) (ho.run N K λv J u s1 H1 U1 L n1 r1 j=>?_) ht;cases v with
 |ref i=>
  let#[w,rw',a,e1,hi]:=r1;subst e1;cases rw';dsimp only at j;cases M:J[i]? with|none=>rw[M]at j;show Zf j|some ob=>
   cases ob with
   |ins c fs=>
    rw[M]at j;dsimp only at j;cases B:disp c with|none=>rw[B]at j;show Zf j|some S=>
     let#[f,aS]:=S;cases I:fs.lookup m with|some z=>rw[B,I]at j;show Zf j|none=>
      rw[B,I]at j;dsimp only at j;let#[C,fa,fd,κ,k,ps,ds,hC,cl,hm,F,hr,hb,R,hn]:=hd c f aS B;let#[C',dx,vs,D,hH,rp]:=L.at M hi;rw[hC]at D;cases D;calc E5 L.1 hH cl hm ((cg.lookup rp).2 I) ?_;calc W.callWith_K (first:=[.ref a]) (h₀:=X.5) L.1.1.1.1 hm.3 ?_ hst hpl;calc ha pos Z s1 U H1 U1 bD J _ E L ?_;cases P:ma bD J with|exc n h'=>rw[P]at j;show j|stuck=>rw[P]at j;show j|ok xs h'=>
       rw[P]at j;intro us s2 H2 W2 N2 n2 r2;let I:WP xs=WP us:=by let#[vs,rv,q]:=r2;rw[<-rv.length,q.length]
       let hl2:=G bD J xs h' P;calc#[N2.1.cO,YL (us:=.ref a::us) (xs:=.ref i::xs) F hr.r (N2.1.cV hr.c) hb R (by rw[jj];lia) N2 (.cons #[.ref a,07,a,07,n2.at hi] r2) ?_];show Kont.mono (r:=(f (.ref i::(xs++aS)) h')) j n2
   |_=>rw[M]at j;show Zf j
 |_=>show Zf j
def PG(ho:ai O X o mo)(hd:Ar O X m 0 disp) (ht:bj (.Call (.Attribute o m apos) [] [] pos) X.10=(do
   let ov<-bj o X.10
   mV apos.atName
   let (f,first)<-iE [ov] (pA ov m pl)
   sO pos f first (eJ pos<|ZT [] X.10) (oz pos<|oo [] X.10)):=by rfl):
  ai O X (.Call (.Attribute o m apos) [] [] pos) (v7 m disp mo Je):=by
 intro Z s U H Y bD h Q E N K;calc W.methodCall_KW (pl:=pl) (ho.run N K λv h1 u s1 H1 U1 G n1 r1 j=>?_) ht;cases v with
 |ref i=>
  let#[w,P,a,e1,S]:=r1;subst e1;cases P;dsimp only at j;cases I:h1[i]? with|none=>rw[I]at j;show Zf j|some ob=>
   cases ob with
   |ins c fs=>
    rw[I]at j;dsimp only at j;cases B:disp c with|none=>rw[B]at j;show Zf j|some L=>let#[f,aS]:=L;cases M:fs.lookup m with|some z=>rw[B,M]at j;show Zf j|none=>rw[B,M]at j;dsimp only at j;let#[C,fa,fd,κ,k,ps,ds,hC,cl,hm,F,R,hb,J,hn]:=hd c f aS B;let#[C',dx,vs,D,hH,rp]:=G.at I S;rw[hC]at D;cases D;calc E5 G.1 hH cl hm ((cg.lookup rp).2 M) ?_;show W.callWith_K0 (first:=[.ref a]) G.1.cO hm.3 (YL (us:=[.ref a]) (xs:=[.ref i]) F R.r (G.1.cV R.c) hb J (by rw[jj,uO];(rw[qJ];show ZW (Zh hn)<|Zh hn.symm)) G (.cons #[.ref a,07,a,07,S] .nil) j)
   |_=>rw[I]at j;show Zf j
 |_=>show Zf j
def Jp(f:Str)(o:E1):E1:=λU h=>(o U h).bind λv h1=>match v with|.ref i=>(match h1[i]? with|some (.ins _ fs)=>(match fs.lookup f with|some x=>.ok x h1|none=>.stuck)|_=>.stuck)|_=>.stuck
def Yn(O:aN)(K:W.Frag)(f:Str):Prop:=∀c C,O c=V C->mB K C/\Vr K C f
def PH(ho:ai O X o mo)(M:Yn O X.K fl)(L:qV o fl X.10 (bj o X.10)=bj o X.10:=by rfl):ai O X (.Attribute o fl pos) (Jp fl mo):=by
 intro Z s U H Y bD h Q E N K;refine E7 L<|ho.run N K λv F u s1 H1 I k n1 r1 j=>?_
 cases v with
 |ref i=>
  let#[w,D,a,W,G]:=r1;subst W;cases D;dsimp only at j;cases m:F[i]? with|none=>rw[m]at j;show(j).elim|some ob=>
   cases ob with
   |ins c fs=>rw[m]at j;dsimp only at j;cases B:fs.lookup fl with|none=>rw[B]at j;show(j).elim|some z=>rw[B]at j;let#[C,dx,vs,hC,P,rp]:=k.at m G;let#[cl,na]:=M c C hC;let#[y,R,q]:=(cg.lookup rp).1 z B;show E4 k.1 P cl na R λS s2 I2 J=>j S s2 H1 I #[I2,k.2,k.3] .refl #[y,J,q]
   |_=>rw[m]at j;show(j).elim
 |_=>show(j).elim
noncomputable def bL (f:Str)(v:IV):Wo->Wo|[]=>[(f,v)]|(g,x)::r=>if g=f then(g,v)::r else(g,x)::bL f v r
theorem cg.put{K:W.Frag}(q:RV K Y H v y):∀{fs:Wo}{vs:Wu},cg K Y H fs vs->cg K Y H (bL fl v fs) (cS fl y vs)
 |[],_,h=>by let e:=h;subst e;show#[y,[],07,q,07]
 |(g,x)::r,_,h=>by
  let#[w,k,e,m,t]:=h;subst e;change cg K Y H (if g=fl then(g,v)::r else(g,x)::bL fl v r) (if g=fl then(g,y)::k else(g,w)::cS fl y k);by_cases j:g=fl
  .rw[if_pos j,if_pos j];show#[y,k,07,q,t]
  .rw[if_neg j,if_neg j];show#[w,_,07,m,cg.put q t]
def JL(f:Str)(o e:E1):S1:=λU h=>rS U (e U h) λv h1=>rS U (o U h1) λov J=>match ov with
 |.ref i=>(match J[i]? with
  |some (.ins c fs)=>if (WP fs)<1000 then .next U (J.set i<|.ins c<|bL f v fs)else .stuck
  |_=>.stuck)
 |_=>.stuck
def PJ(ho:ai O X o mo)(hv:ai O X value mv)(hf:Yn O X.K fl)(hs:ow value (V<|.Attribute o fl pos') pos.1 X.10=pure Zo:=by rfl):cJ O X (.Assign [.Attribute o fl pos'] value pos) (JL fl mo mv):=by
 intro Z s U H Y bD h Q E N K;calc Es (cP hv N K λv h1 u s1 H1 U1 N1 n1 r1 K1=>cP ho N1 K1 λR J w s2 P F B n2 r2 j=>?_) hs;cases R with
 |ref i=>
  let#[w,G,a,e1,I]:=r2;subst e1;cases G;dsimp only at j;cases m:J[i]? with|none=>rw[m]at j;show(j).elim|some ob=>
   cases ob with
   |ins c fs=>
    rw[m]at j;dsimp only at j;split at j
    .rename_i hz;let#[C,M,vs,L,k,rp]:=B.at m I;let#[cl,na]:=hf c C L;let#[y,ry,q]:=r1;refine E6 B.1 k cl na (by rw[rp.length];show hz) ry λS W=>?_
     let D:bc F P F (upd P a<|.ins C M<|cS fl y vs):=#[#[[],03],Ext.cw k<|by rw[k];show eW];let#[R3,_]:=B.2.write (io:=.ins c<|bL fl v fs) I k (by rw[k];show eW) #[C,M,_,L,Jz,cg.put (RV.mono (n2.trans D) _ _ q)<|cg.mono D _ _ rp];show j S U _ F #[W,R3,B.3.mono D] D
    .show(j).elim
   |_=>rw[m]at j;show(j).elim
 |_=>show(j).elim
end
section
variable{O:aN}{X:Cx}{a b c:Expr}{ma mb mc:E1}{pos:Pos}
def Jh:IV->IV->IH->Res IV
 |.ref i,.int k,h=>match h[i]? with
  |some (.lst xs)=>(match bI xs k with
   |some v=>.ok v h
   |none=>.stuck)
  |_=>.stuck
 |.cG xs,.int k,h=>match bI xs k with
  |some v=>.ok v h
  |none=>.stuck
 |.tup xs,.int k,h=>match bI xs k with
  |some v=>.ok v h
  |none=>.stuck
 |.str x,.int k,h=>if x.length<=sizeLine then(match bI x.1.1 k with
  |some c=>.ok (.str ⟨#[c]⟩) h
  |none=>.stuck)else .stuck
 |_,_,_=>.stuck
def v8{K:W.Frag}(r:aA K Y H xs vs)(e:bI xs k=V v):∃u,bI vs k=V u/\RV K Y H v u:=by unfold bI at e ⊢;rw[r.length];cases q:ik (WP xs) k with|none=>rw[q]at e;cases e|some j=>rw[q]at e;show r.get e
def v9(O:aN)(X:Cx)(g:IV->IV->IH->Res IV):Prop:=∀(value slice:Expr)(Z:aZ)(s:Z5)(U:L2.St)(H:Hp)(Y:Tt)(bD:aD)(h:IH)(x y:IV)(v u:Zv)(Q:aQ)(E:aQ),aB O X Z Y bD h U H s->RU X.K Y H x v->RU X.K Y H y u ->Kont O X RU Z Y bD U H (g x y h) Q E->u5 slice Zo v u=operate [v,u] (lZ v u)->Z0 (ZA X.1 X.w) X.A (zf value slice v u) Q E s
def wb(p:vV (X.bo E) r)(I:Inv X Z U H s)(j:RelV x v)(B:RelV y u) (k:r x y H λz H'=>∀u s',Inv X Z U H' s'->RelV z u->Q u s')(hs:u5 slice Zo v u=operate [v,u] (lZ v u)):Z0 (ZA X.1 X.w) X.A (zf value slice v u) Q E s:=(dD (p value slice Z s U H x y v u _ (I.bo E) j B k hs) (λu s' ⟨_,_,m,r,q⟩=>q u s' m.bH r) λ_ _ z=>z)
def As:v9 O X Jh:=by
 intro R M Z s U H Y bD h x y v u Q E N B C K J;let#[xv,B,I]:=B;let#[yv,C,qy]:=C;cases y with
 |int k=>
  let e2:=qy;subst e2;cases x with
  |ref i=>
   let#[a,m,ha]:=I;subst m;dsimp only[Jh]at K;cases L:h[i]? with|none=>rw[L]at K;show(K).elim|some ob=>
    rw[L]at K;cases ob with
    |lst xs=>dsimp only at K;cases j:bI xs k with|none=>rw[j]at K;show(K).elim|some z=>rw[j]at K;let#[F,m,W]:=N.at L ha;let#[w,D,G]:=v8 W j;show wb (Fl) N.1 B C #[a,F,k,w,07,07,bZ.of m,D,aL N K G] J
    |_=>show(K).elim
  |cG xs=>let#[a,F,m,sa,P]:=I;subst m;dsimp only[Jh]at K;cases j:bI xs k with|none=>rw[j]at K;show(K).elim|some z=>rw[j]at K;let#[w,D,G]:=v8 P j;show wb (Fl) N.1 B C #[a,F,k,w,07,07,sa.sq,D,aL N K G] J
  |tup xs=>let#[a,F,m,sa,P]:=I;subst m;dsimp only[Jh]at K;cases j:bI xs k with|none=>rw[j]at K;show(K).elim|some z=>rw[j]at K;let#[w,D,G]:=v8 P j;show wb (NU) N.1 B C #[a,F,k,w,07,07,sa,D,aL N K G] J
  |str x=>
   let m:=I;subst m;dsimp only[Jh]at K;split at K
   .rename_i S;cases j:bI x.1.1 k with|none=>rw[j]at K;show(K).elim|some z=>rw[j]at K;show wb (NV) N.1 B C #[x,k,z,07,07,S,j,aL N K 07] J
   .show(K).elim
  |_=>show(K).elim
 |_=>cases x<;>show(K).elim
def Au(D:v9 O X g)(ha:ai O X a ma)(C:ai O X b mb)(hs:Fj b:=by intro _ _;rfl):ai O X (.Subscript a b pos) (Jc g ma mb):=(λZ s U H Y G h Q E N K=>
 Subscript_ (ha.run N K λx R u s1 W S L n1 M k=>C.run L k λy J w j F m B n2 P I=>D a b Z j U F m G J x y u w Q E B (M.mono n2) P I<|hs _ _))
abbrev O1:=aD->IH->Res (Wz)
def PK:pU (Wz) Zv:=λ_ _ _ o u=>kG u o
def tI(O:aN)(X:Cx)(e:Wv)(m:O1):Prop:=PX O X PK (evalPart e X.10) m
noncomputable def V0:O1:=λ_ h=>.ok Zg h
def Qz(e:E1):O1:=λU h=>(e U h).bind λv h1=>match v with|.int i=>.ok (V i) h1|_=>.stuck
def PL:tI O X Zg V0:=by intro Z s U H Y j h Q E N K;show Zs<|K _ s H Y N .refl .none
def PM(ha:ai O X a ma):tI O X (V a) (Qz ma):=by
 intro Z s U H Y I h Q E N K;refine ha.run N K λx G u D B m C n1 F k=>?_
 cases x with|int i=>let#[w,j,q]:=F;let e:=q;subst e;let#[t,rfl]:=j;show k _ D B m C .refl<|.int i t|_=>show(k).elim
def dt{α:Type}(xs:List α)(lo hi:Wz):List α:=(xs.drop<|HT.b8 (WP xs) 0 lo).take<|HT.b8 (WP xs) (WP xs) hi-HT.b8 (WP xs) 0 lo
def j8:IV->Wz->Wz->IH->Res IV
 |.ref i,lo,hi,h=>match h[i]? with
  |some (.lst xs)=>.ok (.ref (WP h))<|h++[.lst<|dt xs lo hi]
  |_=>.stuck
 |.cG xs,lo,hi,h=>.ok (.ref (WP h))<|h++[.lst<|dt xs lo hi]
 |.tup xs,lo,hi,h=>.ok (.tup<|dt xs lo hi) h
 |_,_,_,_=>.stuck
def aA.cut{K:W.Frag}(r:aA K Y H xs vs)(lo hi):aA K Y H (dt xs lo hi) (j5 vs lo hi):=by unfold dt j5;rw[r.length];show(r.drop _).take _
def jY(f:IV->Wz->Wz->IH->Res IV)(e:E1)(lo hi:O1):E1:=λU h=>(e U h).bind λx h1=>(lo U h1).bind λl J=>(hi U J).bind λu h3=>f x l u h3
def wc(O:aN)(X:Cx)(g:IV->Wz->Wz->IH->Res IV):Prop:=∀(Z:aZ)(s:Z5)(U:L2.St)(H:Hp)(Y:Tt)(bD:aD)(h:IH)(x:IV)(v vl vu:Zv)(lo hi:Wz)(sl:ZF)(Q:aQ)(E:aQ),aB O X Z Y bD h U H s->RU X.K Y H x v->s.1.IsSliceOf sl vl vu .none->kG vl lo->kG vu hi ->Kont O X RU Z Y bD U H (g x lo hi h) Q E->∃T id,typeLookup (.type T) "__getitem__"=pure (V<|.builtin id)/\s.TypeIs v T/\Z0 (ZA X.1 X.w) X.A (lZ v<|.ref sl) Q E s
def FY{lo hi:Wz}(p:Fg (X.bo E) r)(I:Inv X Z U H s)(m:RelV x v) (hs:s.1.IsSliceOf sl vl vu .none)(pl:kG vl lo)(D:kG vu hi)(k:r x lo hi H λz H'=>∀u s',Inv X Z U H' s'->RelV z u->Q u s'):∃T id,typeLookup (.type T) "__getitem__"=pure (V<|.builtin id)/\s.TypeIs v T/\Z0 (ZA X.1 X.w) X.A (lZ v<|.ref sl) Q E s:=by let#[T,id,C,J,B]:=p Z s U H x v vl vu lo hi sl _ (I.bo E) m hs pl D k;show#[T,id,C,J,dD B (λu s' ⟨_,_,j,r,q⟩=>q u s' j.bH r) λ_ _ z=>z]
def PN{lo hi:Wv}(D:wc O X g)(G:ai O X a ma)(S:tI O X lo ml)(hu:tI O X hi mh):ai O X (.Subscript a (.Slice lo hi Zg p2) pos) (jY g ma ml mh):=by
 intro Z s U H Y bD h Q E N K;refine Subscript_<|G.run N K λx h1 v s1 H1 U1 M n1 P W=>?_
 refine wpAny_Slice<|PX.run S M W λl J m s2 H2 W2 N2 n2 pl K2=>PX.run hu N2 K2 λu L B j C F k n3 R K3=>?_
 calc Zs ?_;let I4:Inv X Z U C {j with heap:=j.1.push {cls:=.type "slice",data:=.fields (bT [m,B,.none])} }:=k.1.kept λb ob q=>Zj _ q
 let#[T,id,I,ht,hg]:=D Z {j with heap:=j.1.push {cls:=.type "slice",data:=.fields (bT [m,B,.none])} } U C F bD L x v m B l u j.1.1.size Q E #[I4,k.2,k.3] ((P.mono n2).mono n3) (Heap.IsSliceOf.new ..) pl R K3;show tail_any ht I hg<|07
def bp(f:Tv->IH->Res IV)(a:A1):E1:=λU h=>(a U h).bind f
variable{es:Td}{mr:A1}{x:Str}{p:Pos}{id T:String}{g:Tv->IH->Res IV}
def VO(G:QE O X (.builtin id) g)(D:Gl X x)(hm:X.4 x=Zg)(B:kE x=V (.builtin id))(ha:dR O X (a::es) mr)(hn:x≠"__name__":=by decide)(j:(x==("__debug__":Str))=Zo:=by decide) (F:ZT (a::es) X.10=(Zo,bj a X.10)::ZT es X.10:=by rfl)(k:(eJ pos<|ZT es X.10).any (·.1)=Zo:=by rfl):ai O X (.Call (.Name x p) (a::es) [] pos) (bp g mr):=(λZ s U H Y J h Q E N K=>
 iD (Qk N.1 D hm B (vo ((ha pos).run N K λxs m R M I C L n1 P u=>G Z M U I C J m xs R Q E L P u) F k) hn j))
def FZ(G:QE O X (.type T) g)(D:Gl X x)(hm:X.4 x=Zg)(B:kE x=V (.type T))(ha:dR O X (a::es) mr)(hn:x≠"__name__":=by decide)(j:(x==("__debug__":Str))=Zo:=by decide) (F:ZT (a::es) X.10=(Zo,bj a X.10)::ZT es X.10:=by rfl)(k:(eJ pos<|ZT es X.10).any (·.1)=Zo:=by rfl):ai O X (.Call (.Name x p) (a::es) [] pos) (bp g mr):=(λZ s U H Y J h Q E N K=>
 iD (Qk N.1 D hm B (mn ((ha pos).run N K λxs m R M I C L n1 P u=>G Z M U I C J m xs R Q E L P u) F k) hn j))
def bx(f:IV->IH->Res IV):Tv->IH->Res IV|[x],h=>f x h|_,_=>.stuck
def j9(f:IV->IV->IH->Res IV):Tv->IH->Res IV|[x,y],h=>f x y h|_,_=>.stuck
def aA.bM{K:W.Frag}{x:IV}(r:aA K Y H [x] vs):∃v,vs=[v]/\RV K Y H x v:=by let#[v,k,e,q,q2]:=r;let j:=q2;subst j;show#[v,e,q]
def aA.hI{K:W.Frag}{x y:IV}(r:aA K Y H [x,y] vs):∃v w,vs=[v,w]/\RV K Y H x v/\RV K Y H y w:=by let#[v,m,e,q,k]:=r;let#[w,j,q2]:=k.bM;subst j;show#[v,w,e,q,q2]
def VH(C:∀(Z:aZ)(s:Z5)(U:L2.St)(H:Hp)(Y:Tt)(bD:aD)(h:IH)(x:IV)(j:bA)(u:Zv)(Q E:aQ),aB O X Z Y bD h U H s->RelV j u->RV X.K Y H x j ->Kont O X RU Z Y bD U H (f x h) Q E->Z0 (ZA X.1 X.w) X.A (call fv [u]) Q E s):QE O X fv (bx f):=by intro Z s U H Y bD h xs F Q E N r K;let#[D,k,q]:=r;match xs,K with|[x],K=>let#[v,e,m]:=q.bM;subst e;let#[u,rfl,B]:=QC k;show C Z s U H Y bD h x v u Q E N B m K|[],K=>show(K).elim|_::_::_,K=>show(K).elim
noncomputable def bq:IV->IH->Res IV
 |.str x,h=>if x.length<=sizeLine then .ok (.int x.length) h else .stuck
 |.tup xs,h=>.ok (.int (WP xs)) h
 |.cG xs,h=>.ok (.int (WP xs)) h
 |.ref i,h=>match h[i]? with
  |some (.lst xs)=>.ok (.int (WP xs)) h
  |_=>.stuck
 |_,_=>.stuck
def PO:QE O X (.builtin "len") (bx bq):=(VH λZ s U H Y J h x I u Q E N B m K=>by
 cases x with
 |str y=>
  let e:=m;subst e;dsimp only[bq]at K;split at K
  .rename_i F;show Vl (vS) N.1 (.cons B .nil) #[_,_,07,#[F,07],aL N K 07]
  .show(K).elim
 |tup xs=>let#[a,k,j,sa,D]:=m;subst j;show Vl (vS) N.1 (.cons B .nil) #[_,WP xs,07,.inr #[k,sa,D.length.symm],aL N K 07]
 |cG xs=>let#[a,k,j,sa,D]:=m;subst j;show Vl (vS) N.1 (.cons B .nil) #[_,WP xs,07,.inl #[k,sa.sq,D.length.symm],aL N K 07]
 |ref i=>
  let#[a,j,ha]:=m;subst j;dsimp only[bq]at K;cases C:h[i]? with|none=>rw[C]at K;show(K).elim|some ob=>rw[C]at K;cases ob with|lst xs=>let#[k,j,G]:=N.at C ha;show Vl (vS) N.1 (.cons B .nil) #[_,WP xs,07,.inl #[k,bZ.of j,G.length.symm],aL N K 07]|_=>show(K).elim
 |_=>show(K).elim)
end
def nc(n:Nat)(m:A1):Prop:=∀U h xs h',m U h=.ok xs h'->WP xs=n
def PQ:nc 0 Je:=(λ_ _ xs _ e=>by cases e;rfl)
def PR(u:nc n r):nc (n+1) (Jb e r):=(λU h xs C q=>by
 unfold Jb at q;cases m:e U h with
 |ok x j=>rw[m]at q;change (r U j).bind (λxs J=>.ok (x::xs) J)=_ at q;cases k:r U j with|ok B J=>rw[k]at q;cases q;rw[jj,u U j B _ k]|exc n J=>rw[k]at q;cases q|stuck=>rw[k]at q;cases q
 |exc n j=>rw[m]at q;cases q
 |stuck=>rw[m]at q;cases q)
def XY(K:W.Frag)(x:Str)(f:Tv->IH->Res IV):Sp:=λvs H Q E=>∀O,jd O K [x] f vs H Q E
def PS{K:W.Frag}(F:bW P w K mg base (eR P w) κ k fa fd [x]<|jd O K [x] f):bW P w K mg base (eR P w) κ k fa fd [x] (XY K x f):=(F.imp λ_ _ _ _ h=>h O)
noncomputable def toD (h:IH):Nat->IV->Option l7
 |0=>λv=>match v with
  |.ah=>V .none
  |.bl b=>V<|.bool b
  |.int i=>V<|.int i
  |.str x=>V<|.str x
  |_=>Zg
 |n+1=>λv=>match v with
  |.ah=>V .none
  |.bl b=>V<|.bool b
  |.int i=>V<|.int i
  |.str x=>V<|.str x
  |.tup xs=>(xs.mapM<|toD h n).map .tuple
  |.cG xs=>(xs.mapM<|toD h n).map .list
  |.ref i=>match h[i]? with
   |some (.lst xs)=>(xs.mapM<|toD h n).map .list
   |_=>Zg
section
variable{O:aN}{X:Cx}
theorem we(N:aB O X Z Y bD h U H s) (B:∀(v:IV)(d:l7)(x:bA)(u:Zv),toD h n v=V d->RV X.K Y H v x->RelV x u->∃as,Reads s.1 u d as):∀(xs:Tv)(ds:List l7)(vs:Ub)(us:Tu),xs.mapM (toD h n)=V ds->aA X.K Y H xs vs->Vals vs us->∃as,ReadsAll s.1 us ds as
 |[],ds,vs,us,e,q,r=>by let k:=q;subst k;cases r;simp at e;subst e;show#[_,.nil]
 |x::xs,ds,vs,us,e,q,r=>by
  let#[v,F,k,q1,q2]:=q;subst k;cases r with
  |cons E G=>
   rw[yH]at e;cases m:toD h n x with
   |none=>rw[m]at e;cases e
   |some d=>
    rw[m]at e;cases j:xs.mapM (toD h n)with
    |none=>rw[j]at e;cases e
    |some C=>rw[j]at e;cases e;let#[as,D]:=B x d v _ m q1 E;let#[bs,J]:=we N B xs C F _ j q2 G;show#[_,.cons D J]
def wg(N:aB O X Z Y bD h U H s):∀(n:Nat)(v:IV)(d:l7)(x:bA)(u:Zv),toD h n v=V d->RV X.K Y H v x->RelV x u->∃as,Reads s.1 u d as:=by
 let j:∀(v:IV)(d:l7)(x:bA)(u:Zv),toD h 0 v=V d->RV X.K Y H v x->RelV x u->∃as,Reads s.1 u d as:=by
  intro v d x u e q r;cases v with
  |ah=>cases e;let k:x=.ah:=q;subst k;cases r;show#[_,.none]
  |bl b=>cases e;let k:x=.bl b:=q;subst k;cases r;show#[_,.bool b]
  |int i=>cases e;let k:x=.int i:=q;subst k;let#[t,rfl]:=r;show#[_,.int i t]
  |str z=>cases e;let k:x=.str z:=q;subst k;let#[t,rfl]:=r;show#[_,.str z t]
  |_=>cases e
 intro n;induction n with
 |zero=>show j
 |succ n M=>
  intro v d x u e q r;cases v with
  |ah=>show j .ah d x u e q r
  |bl b=>show j (.bl b) d x u e q r
  |int i=>show j (.int i) d x u e q r
  |str z=>show j (.str z) d x u e q r
  |tup xs=>let#[a,D,k,sa,L]:=q;subst k;cases r;let#[ds,G,rfl]:=ZK.1<|e;let#[B,F,#[o,ho,I,m,hd],P]:=N.1.tuple sa;let#[as,C]:=we N M xs ds D B G L F;show#[_,.tuple ho I hd C]
  |cG xs=>let#[a,D,k,sa,L]:=q;subst k;cases r;let#[ds,G,rfl]:=ZK.1<|e;let#[B,F,#[o,m,ho,I,_,hd],P]:=N.1.list sa.sq;let#[as,C]:=we N M xs ds D B G L F;show#[_,.list ho I hd C]
  |ref i=>
   let#[a,k,ha]:=q;subst k;cases r;let E:(match h[i]? with|some (.lst xs)=>(xs.mapM<|toD h n).map vC|_=>Zg)=V d:=e;cases J:h[i]? with
   |none=>rw[J]at E;cases E
   |some ob=>
    rw[J]at E;cases ob with
    |lst xs=>let#[ds,G,rfl]:=ZK.1 E;let#[D,k,Q]:=N.at J ha;let#[B,F,#[o,m,ho,I,_,hd],P]:=N.1.list<|bZ.of k;let#[as,C]:=we N M xs ds D B G Q F;show#[_,.list ho I hd C]
    |_=>cases E
theorem wh(u:∀v d,f v=V d->d.depth<=n):∀(xs:Tv)(ds:List l7),xs.mapM f=V ds->PyData.depthAll ds<=n
 |[],ds,e=>by simp at e;subst e;show ZX _
 |x::xs,ds,e=>by
  rw[yH]at e;cases j:f x with
  |none=>rw[j]at e;cases e
  |some d=>
   rw[j]at e;cases k:xs.mapM f with
   |none=>rw[k]at e;cases e
   |some m=>rw[k]at e;cases e;let B:=u x d j;let J:=wh u xs m k;change max d.depth (PyData.depthAll m)<=n;show Nat.max_le.2 #[B,J]
def F0:∀(n:Nat)(v:IV)(d:l7),toD h n v=V d->d.depth<=n:=by
 intro n;induction n with
 |zero=>intro v d e;cases v<;>cases e<;>show Zm _
 |succ n m=>
  intro v d e;cases v with
  |ah=>cases e;show ZX _
  |bl b=>cases e;show ZX _
  |int i=>cases e;show ZX _
  |str z=>cases e;show ZX _
  |tup xs=>let#[ds,k,rfl]:=ZK.1<|e;show uo<|wh m xs ds k
  |cG xs=>let#[ds,k,rfl]:=ZK.1<|e;show uo<|wh m xs ds k
  |ref i=>
   let j:(match h[i]? with|some (.lst xs)=>(xs.mapM<|toD h n).map vC|_=>Zg)=V d:=e;cases u:h[i]? with
   |none=>rw[u]at j;cases j
   |some ob=>
    rw[u]at j;cases ob with
    |lst xs=>let#[ds,k,rfl]:=ZK.1 j;show uo<|wh m xs ds k
    |_=>cases j
noncomputable def VU:IV->IV->Ww|.ah,.ah=>V Zl|.int i,.int j=>V<|decide (i=j)|.str i,.str j=>V<|decide (i=j)|.bl i,.bl j=>V<|decide (i=j)|_,_=>Zg
noncomputable def Vu (x y:IV)(h:IH):Ww:=match toD h 6 x,toD h 6 y with|some a,V b=>if a.canLay0=Zl/\b.canLay0=Zl then V (my a b)else Zg|_,_=>Zg
noncomputable def il (x y:IV)(h:IH):Res IV:=match VU x y with|some b=>.ok (.bl b) h|none=>match Vu x y h with|some b=>.ok (.bl b) h|none=>.stuck
noncomputable def jz (x y:IV)(h:IH):Res IV:=match VU x y with|some b=>.ok (.bl (!b)) h|none=>match Vu x y h with|some b=>.ok (.bl (!b)) h|none=>.stuck
def F2(e:Vu x y h=V b):∃k j,toD h 6 x=V k/\toD h 6 y=V j/\k.canLay0=Zl/\j.canLay0=Zl/\b=my k j:=by
 unfold Vu at e;cases m:toD h 6 x with|none=>rw[m]at e;cases e|some k=>
  cases u:toD h 6 y with|none=>rw[m,u]at e;cases e|some j=>
   rw[m,u]at e;dsimp only at e;split at e
   .lia
   .cases e
def F3{K:W.Frag}(e:VU x y=V b)(m:RV K Y H x xv)(k:RV K Y H y yv):pO xv yv=Zl/\decide (xv=yv)=b:=by
 cases x with
 |ah=>cases y with|ah=>cases e;cases (m);cases (k);show#[07,07]|_=>cases e
 |int i=>cases y with|int j=>cases e;cases (m);cases (k);show#[07,03]|_=>cases e
 |str i=>cases y with|str j=>cases e;cases (m);cases (k);show#[07,03]|_=>cases e
 |bl i=>cases y with|bl j=>cases e;cases (m);cases (k);show#[07,03]|_=>cases e
 |_=>cases y<;>cases e
def Av(hu:X.A.5+64<cLine):dU O X (fb .Eq) il:=by
 intro Z s U H Y bD h x y v u Q E N j k K;let#[S,j,F]:=j;let#[R,k,G]:=k;unfold il at K;cases m:VU x y with|some b=>rw[m]at K;let#[I,J]:=F3 m F G;show Ql (Nt) N.1 j k #[I,by rw[J];show aL N K 07]|none=>rw[m]at K;cases B:Vu x y h with|none=>rw[B]at K;show(K).elim|some b=>rw[B]at K;let#[C,W,D,e2,P,L,rfl]:=F2 B;let#[as,M]:=wg N 6 x C S v D F j;let#[bs,r2]:=wg N 6 y W R u e2 G k;let d1:=F0 6 x C D;show PySem.SeqAt.compareEq_reads M r2 P L 05<|aL N K 07 _ s N.1 07
def Aw(hu:X.A.5+64<cLine):dU O X (fb .NotEq) jz:=by
 intro Z s U H Y bD h x y v u Q E N j k K;let#[S,j,F]:=j;let#[R,k,G]:=k;unfold jz at K;cases m:VU x y with|some b=>rw[m]at K;let#[I,J]:=F3 m F G;show Ql (Nu) N.1 j k #[I,by rw[J];show aL N K 07]|none=>rw[m]at K;cases B:Vu x y h with|none=>rw[B]at K;show(K).elim|some b=>rw[B]at K;let#[C,W,D,e2,P,L,rfl]:=F2 B;let#[as,M]:=wg N 6 x C S v D F j;let#[bs,r2]:=wg N 6 y W R u e2 G k;let d1:=F0 6 x C D;show PySem.SeqAt.compareNe_reads M r2 P L 05<|aL N K 07 _ s N.1 07
noncomputable def tJ:IV->IV->Ww|.ah,.ah=>V Zl|.bl a,.bl b=>V<|a==b|.bl _,.ah=>V Zo|.int _,.ah=>V Zo|.str _,.ah=>V Zo|.tup _,.ah=>V Zo|.cG _,.ah=>V Zo|.ref _,.ah=>V Zo|.ah,.bl _=>V Zo|.int _,.bl _=>V Zo|.str _,.bl _=>V Zo|.tup _,.bl _=>V Zo|.cG _,.bl _=>V Zo|.ref _,.bl _=>V Zo|_,_=>Zg
noncomputable def lq (x y:IV)(h:IH):Res IV:=match tJ x y with|some b=>.ok (.bl b) h|none=>.stuck
noncomputable def Xj (x y:IV)(h:IH):Res IV:=match tJ x y with|some b=>.ok (.bl (!b)) h|none=>.stuck
def F4{K:W.Frag}(e:tJ x y=V b)(j:RU K Y H x v)(B:RU K Y H y u):plainIs v u=Zl/\(v==u)=b:=by
 let#[m,j,k]:=j;let#[D,B,E]:=B;cases y with
 |ah=>cases (show D=.ah from E);cases B;cases x with|ah=>cases e;cases (show m=.ah from k);cases j;show#[07,07]|bl c=>cases e;cases (show m=.bl c from k);cases j;show#[07,07]|int c=>cases e;cases (show m=.int c from k);let#[t,rfl]:=j;show#[07,07]|str c=>cases e;cases (show m=.str c from k);let#[t,rfl]:=j;show#[07,07]|tup c=>cases e;let#[a,C,rfl,_]:=k;cases j;show#[07,07]|cG c=>cases e;let#[a,C,rfl,_]:=k;cases j;show#[07,07]|ref c=>cases e;let#[a,rfl,_]:=k;cases j;show#[07,07]
 |bl d=>cases (show D=.bl d from E);cases B;cases x with|ah=>cases e;cases (show m=.ah from k);cases j;show#[07,07]|bl c=>cases e;cases (show m=.bl c from k);cases j;cases c<;>cases d<;>show#[07,07]|int c=>cases e;cases (show m=.int c from k);let#[t,rfl]:=j;show#[07,07]|str c=>cases e;cases (show m=.str c from k);let#[t,rfl]:=j;show#[07,07]|tup c=>cases e;let#[a,C,rfl,_]:=k;cases j;show#[07,07]|cG c=>cases e;let#[a,C,rfl,_]:=k;cases j;show#[07,07]|ref c=>cases e;let#[a,rfl,_]:=k;cases j;show#[07,07]
 |_=>cases x<;>cases e
def Ax:dU O X (fb .Is) lq:=by intro Z s U H Y C h x y v u Q E N k m K;unfold lq at K;cases j:tJ x y with|none=>rw[j]at K;show(K).elim|some b=>rw[j]at K;let#[B,J]:=F4 j k m;show wpAny_is_plain B<|by rw[J];show aL N K 07 _ s N.1 07
def PT:dU O X (fb .IsNot) Xj:=by intro Z s U H Y C h x y v u Q E N k m K;unfold Xj at K;cases j:tJ x y with|none=>rw[j]at K;show(K).elim|some b=>rw[j]at K;let#[B,J]:=F4 j k m;show wpAny_isNot_plain B<|by rw[J];show aL N K 07 _ s N.1 07
inductive Ty where|ah|bl|int|str|lst|tup|aV|ins (c:Str)|exc (c:Str)
noncomputable def iO:IV->IH->Option Ty|.ah,_=>V .ah|.bl _,_=>V .bl|.int _,_=>V .int|.str _,_=>V .str|.tup _,_=>V .tup|.cG _,_=>V .lst|.ref i,h=>match h[i]? with|some (.lst _)=>V .lst|some (.aV _)=>V .aV|some (.ins c _)=>V<|.ins c|some (.exc c _)=>V<|.exc c|some (.i9 c _)=>V<|.exc c|_=>Zg
structure lu(K:W.Frag)(C:ZF):Prop where
 cl:mB K C
 ha:W.findIn K (.ref C) "__class__"=V (V<|.builtin "object.__class__")
 hn:W.specialIn K (.builtin "object.__class__") "__get__"=V (V<|.builtin "getset_descriptor.__get__")
 PU:W.takesIn K (.builtin "object.__class__")=V Zl
 hm:W.mroIn K C (.type "object")=V Zl
structure gi(O:aN)(K:W.Frag)(c:Zv)(dG:Ty->Ww):Prop where
 ah:∀b,dG .ah=V b->W.kitOne K (.type "NoneType") c=V b
 bl:∀b,dG .bl=V b->W.kitOne K (.type "bool") c=V b
 int:∀b,dG .int=V b->W.kitOne K (.type "int") c=V b
 str:∀b,dG .str=V b->W.kitOne K (.type "str") c=V b
 lst:∀b,dG .lst=V b->W.kitOne K (.type "list") c=V b
 tup:∀b,dG .tup=V b->W.kitOne K (.type "tuple") c=V b
 aV:∀b,dG .aV=V b->W.kitOne K (.type "dict") c=V b
 ins:∀k C b,dG (.ins k)=V b->O k=V C->lu K C/\W.kitOne K (.ref C) c=V b
 exc:∀k C b,dG (.exc k)=V b->W.nsIn K Z4 k=V (V<|.ref C)->hE K C/\W.kitOne K (.ref C) c=V b
def dw(dG:Ty->Ww)(e:E1):E1:=λU h=>(e U h).bind λv h1=>match (iO v h1).bind dG with|some b=>.ok (.bl b) h1|none=>.stuck
def PV(N:aB O X Z Y bD h U H s)(B:RU X.K Y H x u)(bC:gi O X.K c dG) (e:(iO x h).bind dG=V b)(k:∀tk,Q (.bool b) {s with toks:=tk}):Z0 (ZA X.1 X.w) A (call (.builtin "isinstance") [u,c]) Q E s:=by
 let#[xv,B,D]:=B;cases x with|ah=>cases (D);cases B;show W.kia_one W.kitx_none N.1.cO eW (bC.1 b e) (λz=>nomatch z) k|bl i=>cases (D);cases B;show W.kia_one W.kitx_bool N.1.cO eW (bC.2 b e) (λz=>nomatch z) k|int i=>cases (D);let#[t,rfl]:=B;show W.kia_one W.kitx_int N.1.cO eW (bC.3 b e) (λz=>nomatch z) k|str i=>cases (D);let#[t,rfl]:=B;show W.kia_one W.kitx_str N.1.cO eW (bC.4 b e) (λz=>nomatch z) k|tup xs=>let#[a,F,rfl,sa,_]:=D;cases B;let#[R,rv,#[o,ho,G,m,hd],hz]:=N.1.tuple sa;show W.kia_one W.kitx_tuple N.1.cO #[o,ho,G] (bC.6 b e) (λz=>nomatch z) k|cG xs=>let#[a,F,rfl,sa,_]:=D;cases B;let#[R,rv,#[o,m,ho,G,_,hd],hz]:=N.1.list sa.sq;show W.kia_one W.kitx_list N.1.cO #[o,ho,G] (bC.5 b e) (λz=>nomatch z) k|ref i=>
  let#[a,rfl,ha]:=D;cases B;cases j:h[i]? with|none=>simp[iO,j]at e|some ob=>cases ob with|lst xs=>simp![iO,j]at e;let#[F,P,r1]:=N.at j ha;let#[R,rv,#[o,m,ho,G,_,hd],hz]:=N.1.list<|bZ.of P;show W.kia_one W.kitx_list N.1.cO #[o,ho,G] (bC.5 b e) (λz=>nomatch z) k|aV kvs=>simp![iO,j]at e;let#[F,P,r1]:=N.at j ha;let#[_,_,ws,_,p]:=(N.1.aw a _ P);let#[o,es,ep,h1,J,_]:=p;show W.kia_one W.kitx_dict N.1.cO #[o,h1,J.1] (bC.7 b e) (λz=>nomatch z) k|ins c fs=>simp![iO,j]at e;let#[C,dx,F,S,L,rp]:=N.at j ha;let#[I,M]:=bC.8 c C b e S;let#[mA,Ob,_]:=vT N.1.aw L;let#[od,bB,_]:=Ob.look;show W.kia_one (W.kitx_own (I.1.get _) I.1.2 I.2 I.3 I.4 I.5) N.1.cO bB M (λz=>nomatch z) k|exc c fs=>simp![iO,j]at e;let#[C,tv,d,_,S,L,_]:=N.at j ha;let#[I,M]:=bC.9 c C b e S;let#[oe,F,P,e2,_]:=cB.get N.1.aw L;show W.kia_one (FW I) N.1.cO #[oe,P,e2] M (λz=>nomatch z) k|i9 c fs=>simp![iO,j]at e;let#[C,oe,u,F,_,S,L,e2,_]:=N.at j ha;let#[I,M]:=bC.9 c C b e S;show W.kia_one (FW I) N.1.cO #[oe,(N.1.aw a _ L).1,e2] M (λz=>nomatch z) k|tab q=>simp[iO,j]at e
variable{a cx:Expr}{ma:E1}{pos p:Pos}
def lz(X:Cx)(cx:Expr)(c:Zv):Prop:=∀(Z:aZ)(U:L2.St)(H:Hp)(s:Z5)(Q E:aQ),Inv X Z U H s->Q c s->Z0 (ZA X.1 X.w) X.A (bj cx X.10) Q E s
def X7(k:Gl X x)(hm:X.4 x=Zg)(m:kE x=V c)(hn:x≠"__name__":=by decide)(j:(x==("__debug__":Str))=Zo:=by decide):lz X (.Name x p) c:=(λ_ _ _ _ _ _ I q=>Qk I k hm m q hn j)
def F5(k:Gl X x)(hm:X.4 x=V c)(j:(x==("__debug__":Str))=Zo:=by decide):lz X (.Name x p) c:=(λ_ _ _ _ _ _ I q=>VC I k hm q j)
def PW(R:lz X cx c)(bC:gi O X.K c dG)(ha:ai O X a ma)(L:Gl X "isinstance")(hm:X.4 "isinstance"=Zg)(G:kE "isinstance"=V (.builtin "isinstance"):=by rfl) (C:ZT [a,cx] X.10=(Zo,bj a X.10)::ZT [cx] X.10:=by rfl)(B:ZT [cx] X.10=(Zo,bj cx X.10)::ZT [] X.10:=by rfl)(m:(eJ pos<|ZT [cx] X.10).any (·.1)=Zo:=by rfl):ai O X (.Call (.Name "isinstance" p) [a,cx] [] pos) (dw dG ma):=by
 intro Z s U H Y S h Q E N K;calc iD<|Qk N.1 L hm G ?_ 01 01;calc vo ?_ C m;rw[C];refine zo<|ha.run N K λx F u M D I j n1 P k=>?_
 rw[B];calc zo<|R Z U D M _ E j.1 ?_;calc Calls.spliced_nil ?_;cases e:(iO x F).bind dG with|none=>rw[e]at k;show(k).elim|some b=>rw[e]at k;show PV j P bC e λJ=>k _ _ D I #[j.1.tok J,j.2,j.3] .refl #[.bl b,07,07]
def Ay:Ty->Ww|.int=>V Zl|.bl=>V Zl|.ins _=>Zg|.exc _=>Zg|_=>V Zo
def Az:Ty->Ww|.bl=>V Zl|.ins _=>Zg|.exc _=>Zg|_=>V Zo
def AA:Ty->Ww|.str=>V Zl|.ins _=>Zg|.exc _=>Zg|_=>V Zo
def Xg:Ty->Ww|.lst=>V Zl|.ins _=>Zg|.exc _=>Zg|_=>V Zo
def wi:Ty->Ww|.tup=>V Zl|.ins _=>Zg|.exc _=>Zg|_=>V Zo
def PY{K:W.Frag}:gi O K (.type "bool") Az:=by calc#[?_,?_,?_,?_,?_,?_,?_,(λk C b e=>by cases e),(λk C b e=>by cases e)]<;>(intro b e;cases e;first|rfl|with_unfolding_all rfl|kernel_rfl)
def PZ{K:W.Frag}:gi O K (.type "str") AA:=by calc#[?_,?_,?_,?_,?_,?_,?_,(λk C b e=>by cases e),(λk C b e=>by cases e)]<;>(intro b e;cases e;first|rfl|with_unfolding_all rfl|kernel_rfl)
def P0{K:W.Frag}:gi O K (.type "list") Xg:=by calc#[?_,?_,?_,?_,?_,?_,?_,(λk C b e=>by cases e),(λk C b e=>by cases e)]<;>(intro b e;cases e;first|rfl|with_unfolding_all rfl|kernel_rfl)
def P1{K:W.Frag}:gi O K (.type "tuple") wi:=by calc#[?_,?_,?_,?_,?_,?_,?_,(λk C b e=>by cases e),(λk C b e=>by cases e)]<;>(intro b e;cases e;first|rfl|with_unfolding_all rfl|kernel_rfl)
def P2{K:W.Frag}:gi O K (.type "int") Ay:=by calc#[?_,?_,?_,?_,?_,?_,?_,(λk C b e=>by cases e),(λk C b e=>by cases e)]<;>(intro b e;cases e;first|rfl|with_unfolding_all rfl|kernel_rfl)
end
noncomputable def cb (cells:Wq):Wh->Wq->Wq|[],acc=>acc|(n,k)::r,acc=>cb cells r (if (k==jQ)=Zl then(match cells.lookup n with|some c=>(n,c)::acc|none=>acc)else acc)
def P4(names)(acc)(h:∀x∈names,x.2=.free->∃c,env.4.lookup x.1=V c):
  (forIn names acc (λ(x:Str×oh)(r:Wq)=>if (x.2==jQ)=Zl then(do let c<-cellOf env x.1;pure (mu ((x.1,c)::r)))else pure (mu r)):Sem<|Wq)=pure (cb env.4 names acc):=by
 induction names generalizing acc with|nil=>rfl|cons x r C=>
  let#[n,k]:=x;let m:=λa=>C a λy D=>h y<|Zq _ D
  rw[List.forIn_cons];by_cases j:(k==jQ)=Zl
  .let u:k=.free:=by cases k<;>first|rfl|show absurd j 01
   let#[c,B]:=h (n,k) Z2 u;let E:cellOf env n=pure c:=by unfold cellOf;rw[B]
   simp![j,if_true,E,pure_bind];rw[m];simp![cb,j,if_true,B]
  .simp only[j,l9,if_false,pure_bind];rw[m];simp![cb,j,l9,if_false]
def wm(h:∀x∈scope.2,x.2=.free->∃c,env.4.lookup x.1=V c):pz scope env=pure (cb env.4 scope.2 []):=by let e:=P4 scope.2 [] h;let j:pz scope env=((forIn scope.2 [] (λ(x:Str×oh)(r:Wq)=>if (x.2==jQ)=Zl then(do let c<-cellOf env x.1;pure (mu ((x.1,c)::r)))else pure (mu r)):Sem<|Wq)>>=λs=>pure s):=07;rw[j,e];rfl
theorem AB:∀(names:Wh)(acc:Wq),(∀x c,acc.lookup x=V c->cells.lookup x=V c)->∀x c,(cb cells names acc).lookup x=V c->cells.lookup x=V c
 |[],_,h,x,c,e=>h x c e
 |(n,k)::r,acc,h,x,c,e=>by
  calc AB r _ ?_ x c e;intro y d q;split at q
  .cases m:cells.lookup n with
   |none=>rw[m]at q;show h y d q
   |some a=>
    rw[m]at q;simp![jk]at q;cases j:y==n with
    |true=>rw[j]at q;cases q;rw[beq_iff_eq.1 j];show m
    |false=>rw[j]at q;show h y d q
  .show h y d q
theorem F6:∀(names:Wh)(acc:Wq)(x:Str),(acc.lookup x).isSome=Zl->((cb cells names acc).lookup x).isSome=Zl
 |[],_,_,h=>h
 |(n,k)::r,acc,x,h=>by
  calc F6 r _ x ?_;split
  .cases m:cells.lookup n with
   |none=>show h
   |some a=>
    simp![jk];cases j:x==n with
    |true=>rfl
    |false=>show h
  .show h
theorem Ys:∀(names:Wh)(acc:Wq)(x:Str)(c:ZF),(x,jQ)∈names->cells.lookup x=V c->((cb cells names acc).lookup x).isSome=Zl
 |[],_,_,_,h,_=>by simp at h
 |(n,k)::r,acc,x,c,h,hc=>by
  rcases ZG.1 h with e|e
  .let#[rfl,rfl]:=Prod.mk.inj e;calc F6 r _ _ ?_;simp[hc]
  .show Ys r _ x c e hc
theorem AD{env:Env}:∀{names:Wh}{x:Str}{k:oh},(names.map λ(n,k)=>if (k==jQ&&env.1.1==.function&&env.kindOf n==V .cell)then(n,vy)else(n,k)).lookup x=V k ->∃k0,names.lookup x=V k0/\(k,k0)∈([(k0,k0),(.cell,.free)]:List<|oh×oh)
 |[],_,_,h=>by simp at h
 |(n,k1)::r,x,k,h=>by
  let C:=@AD env r x k;let j:qS x ((if (k1==jQ&&env.1.1==.function&&env.kindOf n==V .cell)=Zl then(n,vy)else(n,k1))::_)=V k:=h;cases u:x==n with
  |true=>
   calc#[k1,by simp[jk,u],?_];by_cases B:(k1==jQ&&env.1.1==.function&&env.kindOf n==V .cell)=Zl
   .simp_all
   .rw[if_neg B]at j;simp![jk,u]at j;cases j;simp
  |false=>
   let J:qS x (r.map λ(n,k)=>if (k==jQ&&env.1.1==.function&&env.kindOf n==V .cell)then(n,vy)else(n,k))=V k:=by
    by_cases B:(k1==jQ&&env.1.1==.function&&env.kindOf n==V .cell)=Zl
    .rw[if_pos B]at j;simpa only[jk,u]using j
    .rw[if_neg B]at j;simpa only[jk,u]using j
   let#[k0,e,m]:=C J;show#[k0,by simp![jk,u];show e,m]
theorem F7{env:Env}:∀{names:Wh}{x:Str},names.lookup x=V .free ->∃k,(names.map λ(n,k)=>if (k==jQ&&env.1.1==.function&&env.kindOf n==V .cell)then(n,vy)else(n,k)).lookup x=V k/\(k=.cell\/k=.free)
 |[],_,h=>by simp at h
 |(n,k1)::r,x,h=>by
  let u:=@F7 env r x;cases j:x==n with
  |true=>
   simp![jk,j]at h;cases h;by_cases m:(jQ==jQ&&env.1.1==.function&&env.kindOf n==V .cell)=Zl
   .show#[.cell,by rw[ZS];dsimp only;rw[if_pos m];simp![jk,j],.inl 07]
   .show#[.free,by rw[ZS];dsimp only;rw[if_neg m];simp![jk,j],.inr 07]
  |false=>
   simp![jk,j]at h;let#[k,e,q]:=u h;calc#[k,?_,q];rw[ZS];dsimp only;by_cases m:(k1==jQ&&env.1.1==.function&&env.kindOf n==V .cell)=Zl
   .rw[if_pos m];simp![jk,j];show e
   .rw[if_neg m];simp![jk,j];show e
def fX(X:Cx)(N':Tj)(scope:fg)(C:ZF)(s:Z5)(H:Hp)(fp:Tt):Cx:={X with N:=N',s₀:=s,H₀:=H,env:=compEnvC scope (cb X.10.4 scope.2 []) C X.10,outer:=X.12,ex:=fp,fn:=λ_=>Zo,pn:=[]}
noncomputable def QT (N0 loc caps:Tj)(js:Tp)(sc₀ scope:fg):Bool:=decide (scope.1=.function)&&decide (sc₀.1=.function)&&scope.2.all (λx=>!(x.2==.cell))&&scope.2.all (λx=>!(x.2==.local)||decide (scope.2.lookup x.1=V .local)) && scope.2.all (λx=>!(x.2==.free)||decide (sc₀.2.lookup x.1=V .cell)||decide (sc₀.2.lookup x.1=V .free)) && scope.2.all (λx=>!(decide (scope.2.lookup x.1=V .free))||(x.2==.free)) && (js.zip caps).all (λp=>decide (N0[p.1]?=V p.2)&&decide (scope.2.lookup p.2=V .free))&&decide (WP js=WP caps)&&decide (loc++caps).Nodup && loc.all (λn=>decide (scope.2.lookup n=V .local))
open Classical in
def JV(bf:IH->Prop)(g:G1)(t:T1)(e:E1)(i0:Nat):Tv->aD->IH->Res IV|[],_,h=>if bf h then .ok (.ref i0) h else .stuck|x::xs,U,h=>if bf h then(match g x U h with|.next W1 h1=>(match t W1 h1 with|.ok Zl J=>(match e W1 J with|.ok v h3=>(match h3[i0]? with|some (.lst acc)=>if (WP acc)<sizeLine then JV bf g t e i0 xs W1 (h3.set i0<|.lst<|acc++[v])else .stuck|_=>.stuck)|_=>.stuck)|.ok Zo J=>JV bf g t e i0 xs W1 J|_=>.stuck)|_=>.stuck)else .stuck
noncomputable def stC (nloc:Nat)(js:Tp)(U:aD):aD:=d8 nloc Zg++js.map λj=>(U[j]?).join
def Jy(it:I1)(nloc:Nat)(js:Tp)(g:G1)(t:T1)(e:E1):E1:=λU h=>(it U h).bind λbB h1=>JV bB.2 g t e (WP h1) bB.1 (stC nloc js U)<|h1++[.lst []]
def P5(I:Nat->Z5->Prop) (k:∀n s,I n s->Z0 (ZA prog w) A (f9 it) (λr s₁=>match r with
   |none=>R (.ok .next) s₁
   |some v=>Z0 (ZA prog w) A (uV target it v) (λ_ s₁'=>Z0 (ZA prog w) A (kW target env v) (λ_ s₂=>
     Z0 (ZA prog w) A (forIn ifs Zl λc r=>if r=Zl then do let ok<-isTrue c env (bj c env);pure (mu ok)else pure (mu r)) (λok s₃=>
      if ok=Zl then Z0 (ZA prog w) A (bj elt env) (λx s₄=>
       Z0 (ZA prog w) A (call (.builtin "list.append") [acc,x]) (λ_ s₅=>∃m,m<n/\I m s₅) (λ_ _=>False) s₄) (λ_ _=>False) s₃
      else ∃m,m<n/\I m s₃) (λ_ _=>False) s₂) (λ_ _=>False) s₁') (λ_ _=>False) s₁) (λ_ _=>False) s)
  (n) (h:I n s):i1 (ZA prog w) A (.compLoop (.ListComp elt [#[target,iter,ifs,0]] scope pos) 0 it acc env) R s:=by
 calc codeAny_loop 07 I (λn s u=>?_) n h;calc wpAny_noted<|jX ?_;rw[compTurn_list];refine Ze<|jO<|Ze<|dD (k n s u) (λr s₁ h₁=>?_) λ_ _ j=>j
 cases r with
 |none=>show Zs h₁
 |some v=>
  refine Ze<|dD h₁ (λ_ s₁' h₁'=>?_) λ_ _ j=>j
  refine Ze<|dD h₁' (λ_ s₂ h₂=>Ze<|dD h₂ (λok s₃ h₃=>?_) λ_ _ j=>j) λ_ _ j=>j
  cases ok with
  |false=>show Zs #[07,h₃]
  |true=>show Ze<|Ze<|dD h₃ (λx s₄ h₄=>Ze<|dD h₄ (λ_ s₅ h₅=>Zs<|Zs #[07,h₅]) λ_ _ j=>j) λ_ _ j=>j
def lB(O:aN)(X:Cx)(ifs:Td)(m:T1):Prop:=PX O X RB (forIn ifs Zl λc r=>if r=Zl then do let ok<-isTrue c X.10 (bj c X.10);pure (mu ok)else pure (mu r)) m
noncomputable def JC:T1:=λ_ h=>.ok Zl h
def F8:lB O X [] JC:=(λ_ s _ H Y _ _ _ _ N K=>wpAny_tests_nil<|K Zl s H Y N .refl 07)
def F9(k:g7 O X c m):lB O X [c] m:=(λZ s U H Y j h Q E N K=>wpAny_tests_one<|k Z s U H Y j h Q E N K)
def V7(O:aN)(X:Cx)(use:Option<|Zv->Sem Unit)(Z:aZ)(Y:Tt)(bD:aD)(U:L2.St)(H:Hp)(r:Res IV)(Q E:aQ):Prop:=match r with|.ok v h'=>∀D C m s' H' Y',aB O X Z Y' bD h' U H' s'->bc Y H Y' H'->RU X.K Y' H' v (.ref D)->s'.1.Ns C m->aE X Z H' C->compPost (ZA X.1 X.w) X.A E use Q (.ref D) C (.ok .next) s'|.exc n h'=>∀pl a s' H' Y',aB O X (Z++pl) Y' bD h' U H' s'->bc Y H Y' H'->Y'[n]?=V a->E (.ref a) s'|.stuck=>False
def V7.mono(k:V7 O X use Z Y bD U H r Q E)(n:bc Y H Y' H'):V7 O X use Z Y' bD U H' r Q E:=by cases r with|ok v F=>show λD C m B j u N n2 q=>k D C m B j u N (n.trans n2) q|exc m F=>show λpl a B j u N n2 q=>k pl a B j u N (n.trans n2) q|stuck=>show k
structure tK(P:cy)(w:bV)(C:Cx->Hp->Prop)(tg:Expr)(bB:It)(fp:Tt)(it:ZF)(tn:Nat->bu->Prop):Prop where
 obj:∀i h,tn i h->∀b∈fp,∃o,h.get? b=V o/\∀v,o.3≠.cell v
 keep:∀i h h',tn i h->(∀b∈fp,∀o,h.get? b=V o->h'.get? b=V o)->tn i h'
 item:∀(X:Cx)(i:Nat)(s:Z5)(U:L2.St)(H:Hp),C X H->Inv X [] U H s->(∀b∈fp,aE X [] H b)->tn i s.1->bB.1 i H ->Z0 (ZA P w) X.A (f9<|.ref it) (λr s1=>∃u,r=V u/\Z0 (ZA P w) X.A (uV tg (.ref it) u) (λ_ s2=>∃x H',Inv X [] U H' s2/\RelV x u/\bB.2 i H x H'/\tn (i+1) s2.1/\∀b∈fp,H' b=Zg) (λ_ _=>False) s1) (λ_ _=>False) s
 done:∀(X:Cx)(i:Nat)(s:Z5)(U:L2.St)(H:Hp),C X H->Inv X [] U H s->(∀b∈fp,aE X [] H b)->tn i s.1->bB.3 i H->Z0 (ZA P w) X.A (f9<|.ref it) (λr s1=>r=Zg/\Inv X [] U H s1) (λ_ _=>False) s
 self:∀(A:cz)(i:Nat)(s:Z5)(Q:aQ)(E:aQ),tn i s.1->Q (.ref it) s->Z0 (ZA P w) A (l4<|.ref it) Q E s
def P6(X0:Cx)(X:Cx)(_:Hp):Prop:=X.1=X0.1/\X.w=X0.w/\X.K=X0.K/\X.15=Zl
def AE(C:Cx->Hp->Prop)(O:aN)(X:Cx)(tg:Expr)(Z:aZ)(Y':Tt)(I:jW)(itv:Zv)(s2:Z5)(H':Hp):Prop:=∃(it:ZF)(fp:Tt)(tn:Nat->bu->Prop)(bB:It),itv=.ref it/\tK X.1 X.w C tg bB fp it tn/\tn 0 s2.1/\(∀b∈fp,aE X Z H' b)/\gh O X.K Y' H' bB I
def Ga(C:Cx->Hp->Prop)(O:aN)(X:Cx)(tg iter:Expr)(m:I1):Prop:=∀(Z:aZ)(s:Z5)(U:L2.St)(H:Hp)(Y:Tt)(bD:aD)(h:IH)(Q:aQ)(E:aQ),aB O X Z Y bD h U H s ->(match m bD h with|.ok I h'=>∀itv s' H' Y',aB O X Z Y' bD h' U H' s'->bc Y H Y' H'->AE C O X tg Z Y' I itv s' H'->Q itv s'|.exc n h'=>∀pl a s' H' Y',aB O X (Z++pl) Y' bD h' U H' s'->bc Y H Y' H'->Y'[n]?=V a->E (.ref a) s'|.stuck=>False) ->
  Z0 (ZA X.1 X.w) X.A (bj iter X.10) (λv s1=>Z0 (ZA X.1 X.w) X.A (l4 v) Q E s1) E s
def jc.c(p:jc O X tg iter m):Ga (P6 X) O X tg iter m:=(λZ s U H Y B h Q E N k=>p Z s U H Y B h Q E N (by
 cases e:m B h with|exc n F=>rw[e]at k;show k|stuck=>rw[e]at k;show k|ok I F=>
  rw[e]at k;intro u R G D J M ⟨it,C,tn,P,L,T,r⟩;refine k u R G D J M #[it,C,tn,P,L,#[T.2,T.3,λj i s U H c=>?_,λj i s U H c=>?_,T.6],r]
  .show T.4 j c.1 c.2.1 c.2.2.1 c.2.2.2 i [] s U H _
  .show T.5 j c.1 c.2.1 c.2.2.1 c.2.2.2 i [] s U H _))
section
variable{O:aN}{X:Cx}
def Gb{mt:T1}(hi:Ga Cc O X tg iter mi)
  (hg:∀C s H F,jb O (fX X (loc++caps) scope C s H F) tg g)(ht:∀C s H F,lB O (fX X (loc++caps) scope C s H F) ifs mt)(he:∀C s H F,ai O (fX X (loc++caps) scope C s H F) elt me)
  (ok:QT N0 loc caps js sc₀ scope=Zl)(hN0:X.N=N0:=by rfl)(hsc:X.10.1=sc₀:=by rfl)(hs:∀x,sD iter X.10 x=pure x:=by intro _;rfl)
  (hcc:∀C s H1 F H',Ext H H'->Cc (fX X (loc++caps) scope C s H1 F) H')(N:aB O X Z Y bD h U H s)(K:V7 O X use Z Y bD U H (Jy mi (WP loc) js g mt me bD h) Q E):
  Z0 (ZA X.1 X.w) X.A (comprehension (.ListComp elt [#[tg,iter,ifs,0]] scope pos) scope X.10 ppos (newList []) Zo (bj iter X.10) use) Q E s:=by
 simp![QT,Zt,decide_eq_true_eq,pb,pE,mf,beq_iff_eq,beq_eq_false_iff_ne]at ok;let#[#[#[#[#[#[#[#[#[kF,kF0],kNC],kL],kFr],kFx],kJ],kLen],kNd],kLo]:=ok;let hfree:∀x∈scope.2,x.2=.free->X.10.kindOf x.1=V .cell\/X.10.kindOf x.1=V .free:=λx hx S=>by
  let e:X.10.kindOf x.1=sc₀.2.lookup x.1:=by rw[<-hsc];rfl
  rw[e];rcases kFr x hx with(z|z)|z
  .show absurd S z
  .show .inl z
  .show .inr z
 let hclos:pz scope X.10=pure (cb X.10.4 scope.2 []):=wm λx hx S=>N.1.1.7 x.1<|hfree x hx S
 calc wpAny_comprehension_free (use:=use) (e:=.ListComp elt [#[tg,iter,ifs,0]] scope pos) 07 hs hclos kF (λx hx hl=>(kL x hx).resolve_left λz=>z hl) ?_;calc hi Z s U H Y bD h _ E N ?_;unfold Jy at K;cases e0:mi bD h with|exc n h'=>rw[e0]at K;show K|stuck=>rw[e0]at K;show K|ok M h1=>
  rw[e0]at K;intro itv s1 H1 U1 N1 n1 RI;let#[it,F,tn,bB,e,T,st1,f1,OK]:=RI;subst e
  -- the list
  calc nZ ?_;let fresh1:H1 s1.1.1.size=Zg:=N1.1.aw.fresh<|Zm _;let I2:Inv X Z U (upd H1 s1.1.1.size<|.lst []) {s1 with heap:=s1.1.push {cls:=.type "list",dict:=Zg,data:=.seq ([]:Tu).toArray} }:=
   N1.1.laid (t':=s1.4) (λb u e=>Zj _ e) (Zm _) #[ZX _,[],0,.nil,Zw _ 07]
  let#[R2,n2]:=N1.2.alloc (o:=.lst []) (io:=.lst []) fresh1 #[[],Jz,07];generalize hs2:({s1 with heap:=s1.1.push {cls:=.type "list",dict:=Zg,data:=.seq ([]:Tu).toArray} }:Z5)=L at I2 ⊢;generalize hD:s1.1.1.size=D at *;generalize hH2:upd H1 D (.lst [])=P at *;let N2:aB O X Z (U1++[D]) bD (h1++[.lst []]) U P L:=#[I2,R2,N1.3.mono n2];let keep12:∀b o,s1.1.get? b=V o->L.1.get? b=V o:=λb o q=>by rw[<-hs2];show Zj _ q
  let st2:tn 0 L.1:=T.2 0 _ _ st1 λb _ o q=>keep12 b o q
  let hat:(U1++[D])[WP h1]?=V D:=by rw[<-N1.2.1,ZL<|Zm _];simp
  let f2:∀b∈F,aE X Z P b:=λb I=>by
   calc#[?_,(f1 b I).2];let#[o,ho,_]:=T.1 0 _ st1 b I;let:b≠D:=Zu<|by rw[<-hD];show Z9 ho
   rw[<-hH2,Jq this];show(f1 b I).1
  -- the block's own dict
  calc wpAny_newFunctionEnv (λx hx=>kNC x hx) (by intro y hy;simp at hy) (λh3 hns3 hsb3=>?_) kF;generalize hC:L.1.1.size=C at *;let J:∀b o,L.1.get? b=V o->h3.get? b=V o:=λb o q=>(hsb3.2 b<|Zu<|by rw[<-hC];show Z9 q).trans<|Zj _ q
  let B:∀x c,(cb X.10.4 scope.2 []).lookup x=V c->X.10.4.lookup x=V c:=AB _ _ (λx c q=>by simp at q)
  -- the context of the block
  let okX:(fX X (loc++caps) scope C L P F).Ok:=by
   refine#[N.1.1.1,kF,N.1.1.3,N.1.1.4,Zh hC,λx y c a b=>N.1.1.6 x y c (B x c a)<|B y c b,λx hx=>?_,λx c z=>?_,λhc=>I2.cV hc,N.1.1.10,.inl 07,λb I=>?_,λb o q=>I2.bs b o q,
    Zb N.1.1.kI I2.sz,λb o q I=>?_,λb I z=>?_,I2.stack,I2.dP]
   .let hx':(relabel scope X.10).2.lookup x=V .cell\/(relabel scope X.10).2.lookup x=V .free:=hx;let hfr:scope.2.lookup x=V .free:=by
     rcases hx' with z|z
     .let#[k0,e,m]:=AD z;simp![ZG,Prod.mk.injEq,kB,or_false]at m;rcases m with⟨m1,_⟩|⟨_,m2⟩
      .show absurd (kNC _<|j2 e) (by rw[<-m1];intro q;show q 07)
      .rw[m2]at e;show e
     .let#[k0,e,m]:=AD z;simp![ZG,Prod.mk.injEq,kB,or_false]at m;rcases m with⟨m1,_⟩|⟨m1,_⟩
      .rw[<-m1]at e;show e
      .cases m1
    let hm:=j2 hfr;let#[c,hc']:=N.1.1.7 x<|hfree (x,.free) hm 07;show oZ.1<|Ys _ _ x c hm hc'
   .show absurd (show Zo=Zl from z) Zx
   .let hbD:=f2 b I;let#[o,ho,_]:=T.1 0 _ st2 b I;show#[Zu (by change b<C;rw[<-hC];show Z9 ho),λx c q=>hbD.2.2.2.2.1 x c<|B x c q]
   .rcases(f2 b I).2.2.2.1 with z|z
    .show N.1.1.ju b o q z
    .show jM _<|ZO (Z9 q)<|Zb N.1.1.kI z
   .rcases ZG.1 (I2.jv b z)with e|e
    .show(f2 b I).2.1 e
    .show(f2 b I).2.2.1 e
  -- the block's state
  let lenJ:WP js=WP caps:=kLen;let stl:(stC (WP loc) js bD).length=(loc++caps).length:=by simp[stC,lenJ]
  let R3:Rel O X.K (U1++[D]) (h1++[.lst []]) P:=R2;let I3:Inv (fX X (loc++caps) scope C L P F) [] (d8 (WP loc) Zg++js.map λj=>(U[j]?).join) P {L with heap:=h3,toks:=L.4+([]:Wn).length}:=by
   refine#[okX,07,I2.3,Un.kept J,#[_,hns3,λi x v a b c=>?_],λx c q=>?_,I2.aw.fresh<|Zh hC,λx c q=>I2.8 x c<|B x c q,λp hp=>absurd (show p∈([]:aZ)from hp) 03,I2.aw.kept J,by change _=(loc++caps).length;simp[lenJ]]
   .let hi:WP loc<=i:=by
     refine ZM λR=>?_
     rw[ZN (by simpa using R),uE]at b;split at b<;>cases b
    obtain⟨k,rfl⟩:∃k,i=WP loc+k:=#[i-WP loc,ZW (Zh (mK hi).symm)<|iW hi<|Zm _];let a':(loc++caps)[WP loc+k]?=V x:=a;rw[ZL 00]at a';rw[ZL 03]at b;simp![Ee,sv,Zz]at a' b;cases ej:js[k]? with|none=>rw[ej]at b;cases b|some j=>
     rw[ej]at b;let b':(U[j]?).join=V v:=eV b;let hU:U[j]?=V (V v):=by cases es:U[j]? with|none=>rw[es]at b';cases b'|some o=>rw[es]at b';rw[show o=V v from b']
     let hz:=kJ (j,x) (Em.2 #[k,by rw[List.getElem?_zip_eq_some];show#[ej,a']]);let#[hx1,hx2]:=hz;let#[m,hn,hl]:=I2.5;let S:=hfree (x,.free) (j2 hx2) 07;let#[u,ru,lk]:=hl j x v (by rw[hN0];show hx1) hU (by rcases S with q|q;show .inr (.inl q);show .inr (.inr q));rcases lk with⟨q,_⟩|⟨q,c,hc',hcell⟩
     .rcases S with q'|q'<;>(rw[q']at q;cases q)
     .let#[kk,ek,hkk]:=F7 (env:=X.10) hx2;let hcl:=Ys (cells:=X.10.4) scope.2 [] x c (j2 hx2) hc';let#[c',hc2]:=oZ.1 hcl;let:=B x c' hc2;rw[hc']at this;cases this;let#[oc,hoc,hd]:=hcell;calc#[u,ru,.inr #[?_,c,hc2,oc,J _ _ hoc,hd]];rcases hkk with rfl|rfl
      .show .inl ek
      .show .inr ek
   .let#[v,o,ho,hd]:=I2.6 x c<|B x c q;show#[v,o,J _ _ ho,hd]
  let N3:aB O (fX X (loc++caps) scope C L P F) [] (U1++[D]) (stC (WP loc) js bD) (h1++[.lst []]) (d8 (WP loc) Zg++js.map λj=>(U[j]?).join) P {L with heap:=h3,toks:=L.4+([]:Wn).length}:=by
   calc#[I3,R3,by simp[stC],λi v q=>?_];unfold stC at q;let hi:WP loc<=i:=by
    refine ZM λR=>?_
    rw[ZN (by simpa using R),uE]at q;split at q<;>cases q
   rw[ZL<|by simpa using hi]at q;simp![sv,Zz]at q;cases ej:js[i-WP loc]? with|none=>rw[ej]at q;cases q|some j=>
    rw[ej]at q;let q':(bD[j]?).join=V v:=eV q;let hU:bD[j]?=V (V v):=by cases es:bD[j]? with|none=>rw[es]at q';cases q'|some o=>rw[es]at q';rw[show o=V v from q']
    let#[u,hu,qu]:=N2.3.2 j v hU;calc#[u,?_,qu];rw[ZL<|by simpa using hi];simp![sv,Zz,ej,Option.map_some,hu];rfl
  let st3:tn 0 h3:=T.2 0 _ _ st2 λb _ o q=>J b o q
  let K2:V7 O X use Z (U1++[D]) bD U P (JV M.2 g mt me (WP h1) M.1 (stC (WP loc) js bD)<|h1++[.lst []]) Q E:=V7.mono (r:=JV M.2 g mt me (WP h1) M.1 (stC (WP loc) js bD)<|h1++[.lst []]) K<|n1.trans n2;let loop:i1 (ZA X.1 X.w) X.A (.compLoop (.ListComp elt [#[tg,iter,ifs,0]] scope pos) 0 (.ref it) (.ref D)<|compEnvC scope (cb X.10.4 scope.2 []) C X.10) (compPost (ZA X.1 X.w) X.A E use Q (.ref D) C)
    {L with heap:=h3,toks:=L.4+([]:Wn).length}:=by
   refine P5 (λn s'=>∃k W Uk S U' H',aB O (fX X (loc++caps) scope C L P F) [] W Uk S U' H' s'/\bc (U1++[D]) P W H'/\tn k s'.1/\(∀b∈F,H' b=Zg)/\n=WP M.xs-k/\k<=WP M.xs/\V7 O X use Z W bD U H' (JV M.2 g mt me (WP h1) (M.1.drop k) Uk S) Q E) ?_ (WP M.xs)
    #[0,U1++[D],stC (WP loc) js bD,h1++[.lst []],_,P,N3,.refl,st3,λb I=>(f2 b I).1,03,ZX _,by simpa using K2]
   let stat:∀{H':Hp},(∀b∈F,H' b=Zg)->∀b∈F,aE (fX X (loc++caps) scope C L P F) [] H' b:=λhn b I=>
    #[hn b I,(okX.rL b I).1,okX.iG b I,.inl I,(okX.rL b I).2,λp hp=>absurd (show p∈([]:aZ)from hp) 03]
   rintro n s4 ⟨k,W,Uk,S,W4,H4,N4,n4,st4,fr4,rfl,hkl,G⟩;by_cases R:k<WP M.xs
   .let hd:M.1.drop k=M.1[k]::M.1.drop (k+1):=nV R;rw[hd]at G;unfold JV at G;split at G
    .rename_i hck;let#[go,yl]:=OK.1 k M.1[k] S H4 W (n2.trans n4) N4.2 hck<|Zd R;refine rM (T.3 (fX X (loc++caps) scope C L P F) k s4 W4 H4 (hcc _ _ _ _ _ (n1.trans<|n2.trans n4).2) N4.1 (stat fr4) st4 go) λr s5 ⟨u,hr,h5⟩=>?_
     subst hr;refine rM h5 λ_ s6 ⟨x,H6,I6,r6,y6,st6,fr6⟩=>?_
     let#[R6,n6,q6]:=yl x H6 y6;let I6':=I6.pinned (stat fr6)<|T.1 _ _ st6;let N6:aB O (fX X (loc++caps) scope C L P F) ([]++QY F s6.1) W Uk S W4 H6 s6:=#[I6',R6,N4.3.mono n6];let again:∀{U7:L2.St}{H7:Hp}{s7:Z5}{U7i:aD}{h7:IH}{W7:Tt},aB O (fX X (loc++caps) scope C L P F) ([]++QY F s6.1) W7 U7i h7 U7 H7 s7->bc W H6 W7 H7->V7 O X use Z W bD U H4 (JV M.2 g mt me (WP h1) (M.1.drop<|k+1) U7i h7) Q E ->
       ∃m,m<WP M.xs-k/\∃k W Uk S U' H',aB O (fX X (loc++caps) scope C L P F) [] W Uk S U' H' s7/\bc (U1++[D]) P W H'/\tn k s7.1/\(∀b∈F,H' b=Zg)/\m=WP M.xs-k/\k<=WP M.xs/\V7 O X use Z W bD U H' (JV M.2 g mt me (WP h1) (M.1.drop k) Uk S) Q E:=
      λ{U7 H7 s7 U7i h7 W7} N7 n7 K7=>by let nn:bc W H4 W7 H7:=n6.trans n7;calc#[WP M.xs-(k+1),si _ _ 06,k+1,W7,U7i,h7,U7,H7,N7.pins,n4.trans nn,T.2 _ _ _ st6 λb I o e=>(N7.1.9 (b,o)<|Zr _<|Zr _<|YC I e).1,λb I=>?_,07,R,K7.mono nn];let#[o,e,d]:=T.1 _ _ st6 b I;show(N7.1.9 (b,o)<|Zr _<|Zr _<|YC I e).2.1
     cases eg:g M.1[k] Uk S with
     |next Ug hgg=>
      rw[eg]at G;dsimp only at G;calc hg C L P F _ s6 W4 H6 W Uk S _ u (λ_ s7=>Z0 (ZA X.1 X.w) X.A (forIn ifs Zl λc r=>if r=Zl then do let ok<-isTrue c _ (bj c _);pure (mu ok)else pure (mu r)) _ _ s7) (λ_ _=>False) N6 #[x,r6,q6] ?_;rw[eg];intro s7 U7 H7 W7 N7 n7;calc ht C L P F _ s7 U7 H7 W7 Ug hgg _ (λ_ _=>False) N7 ?_;cases et:mt Ug hgg with
      |ok c h8=>
       rw[et]at G;intro d s8 H8 U8 N8 n8 rd;let rd':d=c:=rd;subst rd';cases d with|false=>show again N8 (n7.trans n8) G|true=>
        dsimp only at G;calc he C L P F _ s8 U7 H8 U8 Ug h8 _ (λ_ _=>False) N8 ?_;cases ee:me Ug h8 with
        |ok v h9=>
         rw[ee]at G;dsimp only at G;intro w s9 H9 U9 N9 n9 rw9;let hat9:U9[WP h1]?=V D:=(((n4.trans n6).trans n7).trans<|n8.trans n9).at hat;cases hl:h9[WP h1]? with|none=>rw[hl]at G;show Zf G|some ob=>
          rw[hl]at G;cases ob with
          |lst acc=>
           dsimp only at G;split at G
           .rename_i hz;let#[vs,eD,rD]:=N9.at hl hat9;let#[wv,rw9,qw]:=rw9;let ap:=Fv (X:=(fX X (loc++caps) scope C L P F).bo λ_ _=>False) ([]++QY F s6.1) s9 U7 H9 (.ref D) [wv] (.ref D) [w] (λ_ H'=>H'=upd H9 D (.lst<|vs++[wv])) (N9.1.bo _) 07 (.cons rw9 .nil) #[D,vs,wv,07,07,eD,by rw[rD.length];show hz,07];refine dD ap (λ_ s10 hq=>?_) λ_ _ z=>z
            let#[z,H10,I10,_,rfl]:=hq;let n10:bc U9 H9 U9 (upd H9 D<|.lst<|vs++[wv]):=#[#[[],03],Ext.cw eD<|by rw[eD];show eW];let#[R10,_]:=N9.2.write (o:=.lst<|vs++[wv]) (io:=.lst<|acc++[v]) hat9 eD (by rw[eD];show eW) #[_,Jz,(aA.mono n10 _ _ rD).append<|aA.one<|RV.mono n10 _ _ qw];show again #[I10.bH,R10,N9.3.mono n10] (((n7.trans n8).trans n9).trans n10) G
           .show Zf G
          |_=>show Zf G
        |_=>rw[ee]at G;show Zf G
      |_=>rw[et]at G;show Zf G
     |_=>rw[eg]at G;show Zf G
    .show Zf G
   .let hke:M.1.drop k=[]:=yr<|ZM R;rw[hke]at G;unfold JV at G;split at G
    .rename_i hck;let stop:=OK.2 k S H4 W (n2.trans n4) N4.2 hck<|ZM R;refine rM (T.4 (fX X (loc++caps) scope C L P F) k s4 W4 H4 (hcc _ _ _ _ _ (n1.trans<|n2.trans n4).2) N4.1 (stat fr4) st4 stop) λr s5 ⟨hr,I5⟩=>?_
     subst hr;let#[m,hnm,_]:=I5.5
     -- back to the def's own frame
     let hos:s5.5=L.5:=I5.2;let#[hp5,g5,d5,t5,os5]:=s5;obtain rfl:os5=L.5:=hos;let J5:Inv X Z U H4 {L with heap:=hp5,gens:=g5,drawn:=d5,toks:=t5}:=I2.call (ch:=F) I5.4 I5.aw I5.3 λb I=>#[(f2 b I).2.2.2.1,(f2 b I).2.1,(f2 b I).2.2.2.2.1,(f2 b I).2.2.2.2.2]
     let fC:aE X Z H4 C:=I2.c9 (Zh hC) I5.7;show G D C m _ H4 W #[J5,N4.2,(N2.3.mono n4)] .refl #[.ref D,07,D,07,n4.at hat] hnm fC
    .show Zf G
  show codeAny_compStart_list loop<|T.5 X.A 0 _ _ _ st3 loop
theorem aB.oQ{Z:aZ}(N:aB O X Z Y bD h U H s)(fC:aE X Z H C)(k:mX C s.1 h'):aB O X Z Y bD h U H {s with heap:=h'}:=
 #[N.1.turned (λb o j q=>(k.2 b j).trans q) fC.1 fC.2.1 fC.2.2.2.1 fC.2.2.2.2.1 fC.2.2.2.2.2,N.2,N.3]
def Gd{B:T1}(hc:X.15=Zl)(hi:jc O X tg iter mi) (S:∀C s H j,jb O (fX X (loc++caps) scope C s H j) tg g)(M:∀C s H j,lB O (fX X (loc++caps) scope C s H j) ifs B)(W:∀C s H j,ai O (fX X (loc++caps) scope C s H j) elt me) (ok:QT N0 loc caps js sc₀ scope=Zl)(k:X.N=N0:=by rfl)(u:X.10.1=sc₀:=by rfl)(hs:∀x,sD iter X.10 x=pure x:=by intro _;rfl):ai O X (.ListComp elt [#[tg,iter,ifs,0]] scope pos) (Jy mi (WP loc) js g B me):=by intro Z s U H Y bD h Q E N K;calc Gb hi.c S M W ok k u hs (λ_ _ _ _ _ _=>#[07,07,07,hc]) N ?_;cases F:Jy mi (WP loc) js g B me bD h with|exc n L=>rw[F]at K;show K|stuck=>rw[F]at K;show K|ok v L=>rw[F]at K;show λD C m s' P I N' n' r G fC=>#[m,G,λJ R=>K _ _ P I (N'.oQ fC R) n' r]
def Ge{mt:T1}(hc:X.15=Zl)(hi:jc O X tg iter mi) (hg:∀C s H k,jb O (fX X (loc++caps) scope C s H k) tg g)(ht:∀C s H k,lB O (fX X (loc++caps) scope C s H k) ifs mt)(he:∀C s H k,ai O (fX X (loc++caps) scope C s H k) elt me) (ok:QT N0 loc caps js sc₀ scope=Zl)(W:X.N=N0:=by rfl)(hsc:X.10.1=sc₀:=by rfl)(hs:∀x,sD iter X.10 x=pure x) (hN:X.N.Nodup)(S:X.N[i]?=V x)(hlx:Loc X.10.1 x)(hf:X.fn x=Zl\/X.10.1.2.lookup x=V .local) (hsw:ow (.ListComp elt [#[tg,iter,ifs,0]] scope pos) (V<|.Name x pos2) pos3.1 X.10=pure Zl):cJ O X (.Assign [.Name x pos2] (.ListComp elt [#[tg,iter,ifs,0]] scope pos) pos3) (Jj i<|Jy mi (WP loc) js g mt me):=by
 intro Z s U H Y bD h Q E N K;rw[exec_Assign_Name_used _ _ _ _ hsw];calc Ze<|jO<|Ze ?_;calc Ze ?_;calc Gb hi.c hg ht he ok W hsc hs (λ_ _ _ _ _ _=>#[07,07,07,hc]) N ?_;unfold Jj at K;cases e0:Jy mi (WP loc) js g mt me bD h with|exc n h'=>rw[e0]at K;show λpl a G F I B R q=>K pl a G U F I B R q G<|.inl 07|stuck=>rw[e0]at K;show K|ok v h'=>
  rw[e0]at K;intro D C m G F I B R r M fC;let#[w,rw',q]:=r;let#[oC,es,ep,u,lC,j]:=id M;let hp:Inv X (Z++QY [C] G.1) U F G:=B.1.pinned (λb L=>(show b=C by simpa using L)▸fC) (λb L=>by
   let e:b=C:=by simpa using L
   subst e;show#[oC,u,λv z=>by rw[lC]at z;cases z])
  calc wpAny_assign_Name<|YO hp hN S hlx rw' (λs2 I2=>?_) hf;let P:=(I2.9 (C,oC)<|Zr _<|Zr _<|YC 03 u).1;calc#[m,#[oC,es,ep,P,lC,j],λJ sb=>Zs ?_];let N2:aB O X Z I (bD.set i<|V v) h' (U.set i<|V w) F s2:=#[I2.iH,B.2,B.3.set i q];show Zs<|K _ _ F I (N2.oQ fC sb) R
noncomputable def VX (x:Str):Tv:=x.1.1.map λc=>.str ⟨#[c]⟩
def wq(x:Str):It:=#[λi _=>i<x.1.size,λi H y H'=>H'=H/\∃c,x.1[i]?=V c/\y=.str ⟨#[c]⟩,λi _=>x.1.size<=i]
theorem Gf{P:cy}{w:bV}{K:W.Frag}{tg:Expr}{x:Str}{t:Tok}(it:ZF)(O:["enumerate","zip","dict_itemiterator","dict_reverseitemiterator","odict_iterator","itertools.zip_longest","itertools.pairwise"].contains ty=Zo) (Wi:∀(A:cz)(E:aQ)(s:Z5)(i c:Nat)(Q:Tb->Z5->Prop),s.1.IsStrIter it ty x t i->x.1[i]?=V c->(∀h',h'.IsStrIter it ty x t (i+1)->mX it s.1 h'->Q (V<|.str ⟨#[c]⟩ s.4) {s with heap:=h',toks:=s.4+1})->Z0 (ZA P w) A (f9<|.ref it) Q E s) (We:∀(A:cz)(E:aQ)(s:Z5)(i:Nat)(Q:Tb->Z5->Prop),aI A s.1->s.1.IsStrIter it ty x t i->x.1[i]?=Zg->(∀h',gB it s.1 h'->Q Zg {s with heap:=h'})->Z0 (ZA P w) A (f9<|.ref it) Q E s) (Ws:∀(A:cz)(E:aQ)(s:Z5)(i:Nat)(Q:aQ),s.1.IsStrIter it ty x t i->Q (.ref it) s->Z0 (ZA P w) A (l4<|.ref it) Q E s):Turn P w K tg (wq x) [it] it (λi h=>h.IsStrIter it ty x t i) where
 mem:=03
 obj:=λi h st b j=>by
  let e:b=it:=by simpa using j
  subst e;let#[o,e,c,d]:=st;show#[o,e,λv z=>by rw[d]at z;cases z]
 keep:=λi h h' st k=>by let#[o,e,r]:=st;show#[o,k it 03 o e,r]
 item:=by
  intro X R F G Y i Z s U H E I C st u;subst R F G;let#[J,S,f2,M,L,D]:=C it 03;let u:i<x.1.size:=u;let B:=oJ u;refine Wi X.A _ s i _ _ st B λh' m sb=>?_
  let I1:Inv X Z U H {s with heap:=h',toks:=s.4+1}:=I.turned (λb o j e=>(sb.2 b j).trans e) J S M L D;let#[o,e,c1,d1]:=id m;show#[_,07,Y7 (s:={s with heap:=h',toks:=s.4+1}) e c1 d1 O #[.str ⟨#[_]⟩,H,I1,#[_,07],#[07,_,B,07],m,λb j=>(C b j).1]]
 done:=by
  intro X R F G Y i Z s U H E I C st u;subst R F G;let#[J,S,f2,M,L,D]:=C it 03;let hi:x.1.size<=i:=u;let hx:x.1[i]?=Zg:=by simp[hi]
  show We X.A _ s i _ (I.cA Y) st hx λh' eb=>#[07,I.turned (t':=s.4) (λb o j e=>eb b o j e) J S M L D]
 self:=λA i s Q E st h=>Ws A E s i Q st h
def wt:IV->IH->Res jW|.str x,h=>.ok #[VX x,λ_=>True] h|_,_=>.stuck
def pX(e:E1):I1:=λU h=>(e U h).bind wt
def Gg:gh O X.K Y H₀ (wq x) #[VX x,λ_=>True]:=by
 refine#[λk v h H u B R m j=>?_,λk h H u B R m j=>?_]
 .let D:k<x.1.size:=by let:=(Zp.1 j).1;simpa[VX]using this
  calc#[D,λy F C=>?_];let#[rfl,c,E,rfl]:=C;simp![VX,Zz,zg,E]at j;cases j;show#[R,.refl,07]
 .let:(VX x).length=x.1.size:=by simp[VX]
  change x.1.size<=k;rw[<-this];show j
def P7(W:ai O X l ml):jc O X tg l (pX ml):=by
 intro Z s U H Y L h Q E N K;calc W Z s U H Y L h _ E N ?_;unfold pX at K;cases G:ml L h with|exc n M=>rw[G]at K;show K|stuck=>rw[G]at K;show K|ok v M=>
  rw[G]at K;intro u k I J j n1 S;let#[w,F,q]:=S;let kX:∀b∈[k.1.1.size],aE X Z I b:=λb P=>by
   let e:b=k.1.1.size:=by simpa using P
   subst e;show j.1.c9 (Zm _)<|j.1.aw.fresh<|Zm _
  cases v with
  |str x=>let R:w=.str x:=q;subst R;let#[t,rfl]:=F;simp![Res.bind,wt]at K;cases ha:x.1.all (· < 128)with|true=>calc wpAny_pyIter_ascii ha<|K _ _ I J #[j.1.kept (t':=k.4) λb o e=>Zj _ e,j.2,j.3] n1 ?_;show#[k.1.1.size,[k.1.1.size],_,wq x,07,Gf (ty:="str_ascii_iterator") (t:=t) _ 01 (λA E s i c Q st m B=>wpAny_pyNext_ascii_item st m B) (λA E s i Q D st m B=>MN D st m B) λA E s i Q st C=>wpAny_pyIter_striter_ascii st C,#[_,Zw _ 07,07,07],kX,Gg]|false=>calc wpAny_pyIter_wide ha<|K _ _ I J #[j.1.kept (t':=k.4) λb o e=>Zj _ e,j.2,j.3] n1 ?_;show#[k.1.1.size,[k.1.1.size],_,wq x,07,Gf (ty:="str_iterator") (t:=t) _ 01 (λA E s i c Q st m B=>wpAny_pyNext_wide_item st m B) (λA E s i Q D st m B=>MO D st m B) λA E s i Q st C=>wpAny_pyIter_striter_wide st C,#[_,Zw _ 07,07,07],kX,Gg]
  |_=>simp![Res.bind,wt]at K
def AF(K:W.Frag)(a:ZF):It:=#[λi H=>∃xs x,bZ K H a xs/\xs[i]?=V x,λi H y H'=>∃p x,H p=Zg/\y=.ref p/\H'=upd H p (.tup [.int (i:Int),x])/\∀xs,bZ K H a xs->xs[i]?=V x,λi H=>∃xs,bZ K H a xs/\WP xs<=i]
def Gh(I:Inv X Z U H s)(F:aE X Z H e)(E:aE X Z H it)(le:e<s.1.1.size)(L:it<s.1.1.size)(k2:∀b o,b≠e->b≠it->s.1.get? b=V o->J.get? b=V o)(t2:J.get? s.1.1.size=V {cls:=.type "tuple",data:=.seq (bT [.int i tk,y])})(G:RelV x y):
  Inv X Z U (upd H s.1.1.size<|.tup [.int (i:Int),x]) {s with heap:=J,toks:=t'}/\∀b∈[e,it],upd H s.1.1.size (.tup [.int (i:Int),x]) b=Zg:=by
 let hn:H s.1.1.size=Zg:=I.aw.fresh<|Zm _;let j:∀b u,H b=V u->b≠s.1.1.size:=λb u q=>QX q hn
 let C:∀b o,b∉[e,it]->s.1.get? b=V o->J.get? b=V o:=λb o B=>k2 b o (λz=>B<|by simp[z]) (λz=>B<|by simp[z])
 let D:∀b∈[e,it],aE X Z H b/\b<s.1.1.size:=λb k=>by
  simp![ZG,kB,or_false]at k;rcases k with rfl|rfl
  .show#[F,le]
  .show#[E,L]
 refine#[I.step (g':=s.2) (d':=s.3) (ch:=[e,it]) (λb k=>?_) (λb o _ _ B q _=>C b o B q) (λb o _ _ B q _=>#[o.4,C b o B q]) (λb o _ q n=>?_)
  (λb o B q=>#[o,C b o B q]) (λb xs q=>by rw[Jq<|j b _ q];show q) (λb o u q=>by rw[Jq<|j b _ q];show q) (λb ps q=>#[#[],by rw[Jq<|j b _ q,q];simp]) (λm hm=>?_) (λb u q=>?_) I.3,λb k=>?_]
 .let f:=(D b k).1;show#[f.2.2.2.1,f.2.1,f.2.2.2.2.1,f.2.2.2.2.2]
 .rw[Jq<|Zu<|Z9 q];show n
 .let#[o,M,O,ho,r]:=hm;show#[o,M,O,k2 _ o (bP F.2.1) (bP E.2.1) ho,r]
 .by_cases k:b=s.1.1.size
  .subst k;rw[Jz]at q;cases q;show#[by change 2<=sizeLine;decide,[.int i tk,y],.cons #[_,07]<|.cons G .nil,#[_,t2,07,_,07]]
  .rw[Jq k]at q;refine(I.aw b u q).fw (λc v B r=>C c v (λz=>?_) r) (λc q=>by rw[Jq<|j c _ q];show q) λc P q=>by rw[Jq<|j c _ q];show q
   let:=(D c z).1.1;rcases B with rfl|w
   .rw[this]at q;cases q
   .rw[this]at w;cases w
 .rw[Jq<|Zu (D b k).2];show(D b k).1.1
theorem P8{P:cy}{w:bV}{K:W.Frag}{es:Td}{k:Nat}{p:Pos}(a it e:ZF)(C:e≠it):Turn P w K (.Tuple es k p) (AF K a) [e,it] e (λi h=>(∃old,IsEnum h e it (i:Int) old)/\h.IsListIter it a i) where
 mem:=03
 obj:=λi h st b F=>by
  let#[#[old,j],o,e1,c,d]:=st;simp![ZG,kB,or_false]at F;rcases F with rfl|rfl
  .show#[_,j,λv z=>by let z':vJ _=td v:=z;cases z']
  .show#[o,e1,λv z=>by rw[d]at z;cases z]
 keep:=λi h h' st k=>#[let ⟨old,j⟩:=st.1;#[old,k e 03 _ j],st.2.at λo e=>k it 03 o e]
 item:=by
  intro X hP O R hc i Z s U H E I G st Y;subst hP O R;let#[#[old,j],m]:=st;let#[xs,x,D,L]:=Y;let#[its,S,pl,hz]:=I.list D;let#[u,hu,ru]:=S.get L;let fe:=G e 03;let fi:=G it 03;refine wpAny_pyNext_enum_item j m pl.isList (x:=u) (by simpa using hu) C λh' he' B ht hsz kk=>?_
  calc#[_,07,Et he' λJ he2 Q=>?_];let ng:=Z9 j;let#[oi,M,_]:=id m;let#[o,q,r]:=B;let#[I1,f1]:=Gh (t':=s.4+1) I fe fi ng (Z9 M) (λb o h1 h3 q=>(Q.2 b h1).trans<|kk b o h1 h3 q) ((Q.2 _<|ZY ng).trans ht) ru;show#[.ref s.1.1.size,_,I1,07,#[s.1.1.size,x,I.aw.fresh<|Zm _,07,07,λys hy=>by rw[I.fy hy D];show L],#[#[_,he2],o,(Q.2 it<|bP C).trans q,r],f1]
 done:=by intro X hP O R hc i Z s U H E I G st Y;subst hP O R;let#[#[old,j],m]:=st;let#[xs,D,L]:=Y;let#[its,S,p,hz]:=I.list D;let#[f0,f1,f2,f3,f4,f5]:=G it 03;let hl:=S.length;show MP (I.cA hc) j m p.isList (by simp;show Zb (Zh hl.symm) L) λh' eb=>#[07,I.turned (t':=s.4) (λb o F e=>eb b o F e) f0 f1 f3 f4 f5]
 self:=λ_ _ _ _ _ st h=>let ⟨_,j⟩:=st.1;uU j h
noncomputable def Qx (n:Nat):Tv->Tv|[]=>[]|x::xs=>.tup [.int n,x]::Qx (n+1) xs
theorem Y1:∀(xs:Tv)(n k:Nat),(Qx n xs)[k]?=(xs[k]?).map λx=>.tup [.int ((n+k:Nat):Int),x]|[],_,_=>by simp[Qx]|x::xs,n,0=>by simp[Qx]|x::xs,n,k+1=>by simp![Qx,El];rw[Y1 xs (n+1) k];let:n+1+k=n+(k+1):=qJ _ _ _;rw[this]
theorem VN:∀(xs:Tv)(n:Nat),(Qx n xs).length=WP xs|[],_=>07|_::xs,n=>by simp[Qx,VN xs]
def V9:Tv->IH->Res jW
 |[.ref i],h=>match h[i]? with
  |some (.lst xs)=>.ok #[Qx 0 xs,λh'=>h'[i]?=V (.lst xs)] h
  |_=>.stuck
 |_,_=>.stuck
def P9{i:Nat}(ha:Y[i]?=V a):gh O X.K Y H₀ (AF X.K a) #[Qx 0 xs,λh'=>h'[i]?=V (.lst xs)]:=by
 refine#[λk v h H P F R j D=>?_,λk h H P F R j D=>?_]
 .let#[B,C,J]:=R.get j<|F.at ha;let m:=D;rw[Y1]at m;let#[x,E,rfl]:=ZK.1 m;let#[u,L,Q]:=J.get E;calc#[#[B,u,bZ.of C,L],λy W I=>?_];let#[p,U,G,rfl,rfl,I]:=I;let:=I B<|bZ.of C;rw[L]at this;cases this;let#[S,M]:=R.grow G;calc#[S,M,p,_,07,eL.of Jz,#[_,_,07,?_,_,_,07,RV.mono M _ _ Q,07]];change bA.int (k:Int)=bA.int ((0+k:Nat):Int);simp
 .let#[B,C,J]:=R.get j<|F.at ha;show#[B,bZ.of C,by rw[J.length,<-VN xs 0];show D]
def Ra(hg:Gl X "enumerate")(hm:X.4 "enumerate"=Zg)(ha:dR O X [a] ma)(hs:ZT [a] X.10=[(Zo,bj a X.10)]:=by rfl):jc O X (.Tuple es kt pt) (.Call (.Name "enumerate" p) [a] [] pos) (cR V9 ma):=by
 intro Z s U H Y I h Q E N K;calc Call_<|Qk N.1 hg hm boot_enumerate<|mn ?_ hs 07;calc ha pos Z s U H Y I h _ E N ?_;unfold cR at K;cases B:ma I h with|exc n D=>rw[B]at K;show K|stuck=>rw[B]at K;show K|ok R D=>
  rw[B]at K;intro us k H1 M j n1 r1;let#[xs,rv,W]:=r1;cases R with|nil=>show(K).elim|cons x t=>
   cases x with
   |ref i=>
    cases t with|cons _ _=>show(K).elim|nil=>
     let#[w,S,q]:=W.bM;subst S;let#[b,e3,F]:=q;subst e3;let#[u,rfl,P]:=QC rv;cases P;cases m:D[i]? with|none=>simp![Res.bind,V9,m]at K|some ob=>
      cases ob with
      |lst ys=>
       simp![Res.bind,V9,m]at K;let#[ws,eH,rH]:=j.at m F;let#[z,its,n,r,hl,eo]:=j.1.gf eH;refine call_enumerate_1 eo λJ G C hsz kp=>?_
       calc uU G<|K _ _ H1 M #[j.1.kept kp,j.2,j.3] n1 ?_;calc#[k.1.1.size+1,[k.1.1.size+1,k.1.1.size],_,AF X.K b,07,P8 b k.1.1.size (k.1.1.size+1)<|ZY<|ZZ _,#[#[_,G],C],λc L=>?_,P9 F];simp at L;rcases L with rfl|rfl
       .show j.1.c9 (fP _)<|j.1.aw.fresh<|fP _
       .show j.1.c9 (Zm _)<|j.1.aw.fresh<|Zm _
      |_=>simp![Res.bind,V9,m]at K
   |_=>show(K).elim
end
noncomputable def wu:IV->IH->Res jW|.str x,h=>wt (.str x) h|v,h=>iN v h
def Jv(e:E1):I1:=λU h=>(e U h).bind wu
def wx(m:ai O X l ml):jc O X tg l (Jv ml):=by
 intro Z s U H Y j h Q E N K;cases k:ml j h with
 |ok v u=>cases v with|str x=>show P7 m Z s U H Y j h Q E N<|by unfold pX;unfold Jv at K;rw[k]at K ⊢;show K|_=>show Ao (tg:=tg) m Z s U H Y j h Q E N<|by unfold lj;unfold Jv at K;rw[k]at K ⊢;show K
 |exc n u=>show Ao (tg:=tg) m Z s U H Y j h Q E N<|by unfold lj;unfold Jv at K;rw[k]at K ⊢;show K
 |stuck=>show Ao (tg:=tg) m Z s U H Y j h Q E N<|by unfold lj;unfold Jv at K;rw[k]at K ⊢;show K
section
variable{O:aN}{X:Cx}
def Rb{lo hi:Wz}(j:IsTup s.1 t items)(hs:s.1.IsSliceOf sl vl vu .none)(pl:kG vl lo)(G:kG vu hi) (H:HT.b8 items.size 0 lo=0/\HT.b8 items.size items.size hi=items.size->Q (.ref t) s) (h:¬(HT.b8 items.size 0 lo=0/\HT.b8 items.size items.size hi=items.size)->Q (.ref s.1.1.size) {s with heap:=s.1.push {cls:=.type "tuple",data:=.seq ((items.1.drop<|HT.b8 items.size 0 lo).take<|HT.b8 items.size items.size hi-HT.b8 items.size 0 lo).toArray} }) (hsz:items.size<=sizeLine):Z0 (ZA prog w) A (lZ (.ref t)<|.ref sl) Q E s:=by
 let k:sizeOk (.seq ((items.1.drop<|HT.b8 items.size 0 lo).take<|HT.b8 items.size items.size hi-HT.b8 items.size 0 lo).toArray):=by change(bT _).size<=sizeLine;rw[ZV,ic,sx,oK];show Zb (Zb (kO _ _)<|nU _ _) hsz
 let I:HT.b8 items.size items.size hi<=items.size:=HT.pR _ _ (Zm _) hi;let#[os,B,u,F]:=id hs;let D:s.TypeIs (.ref sl) "slice":=#[os,B,u];unfold lZ;try with_reducible refine d4 ?_
 first|refine Ze (Zs ?_)|skip
 calc Ze<|wpAny_sequenceKey j.typeIs 01 ?_;calc Ze (sy (name:=eA "__getitem__") j.typeIs EB (sF EB j.typeIs entry_tuple_getitem ?_<|args_tuple_getitem _ _));change Z0 _ _ (Builtin.Tuple.tupleItemsOf (.ref t)>>=_) _ _ s;calc Ze<|tupleItemsOf_ j ?_;calc Ze<|yR D ?_;rw[if_pos 01];calc Ze<|HT.eB hs pl G ?_;let C:((((HT.b8 items.size 0 lo:Nat):Int)==0&&(1:Int)==1&&(HT.b8 items.size items.size hi-HT.b8 items.size 0 lo)==items.size)=Zl)↔(HT.b8 items.size 0 lo=0/\HT.b8 items.size items.size hi=items.size):=by rw[Zt,Zt,beq_iff_eq,beq_iff_eq,beq_iff_eq];lia
 change Z0 _ _ (if (((HT.b8 items.size 0 lo:Nat):Int)==0&&(1:Int)==1&&(HT.b8 items.size items.size hi-HT.b8 items.size 0 lo)==items.size)=Zl then _ else _) _ _ s;by_cases c:HT.b8 items.size 0 lo=0/\HT.b8 items.size items.size hi=items.size
 .rw[if_pos<|C.2 c];calc Ze<|Ze<|yR j.typeIs<|Zs ?_;rw[if_pos 01];show Ze<|kU<|Zs #[_,07,Zs<|H c]
 .rw[if_neg λz=>c<|C.1 z,HT.k6];let h:=h c;first
   |show Ze (m:=vA _) (nZ (Zs #[_,07,Zs h]) k)
   |show Ze (m:=vA _) (nZ (Ze (Zs (Zs #[_,07,Zs h]))) k)
   |show Ze (Ze (m:=vA _) (nZ (Zs (Zs #[_,07,Zs h])) k))
   |show Ze (Ze (m:=vA _) (nZ (Zs #[_,07,Zs h]) k))
def tL:wc O X j8:=by
 intro Z s U H Y W h x v vl vu lo k sl Q E N B M pl G K;let#[xv,B,L]:=B;cases x with
 |ref i=>
  let#[a,m,ha]:=L;subst m;dsimp only[j8]at K;cases u:h[i]? with|none=>rw[u]at K;show Zf K|some ob=>rw[u]at K;cases ob with|lst xs=>let#[j,m,S]:=N.at u ha;show FY (Fo (X:=X.bo E)) N.1 B M pl G #[a,j,07,bZ.of m,λp C=>fE N K p C #[_,Jz,aA.new C<|S.cut lo k]]|_=>show Zf K
 |cG xs=>let#[a,j,m,sa,D]:=L;subst m;show FY (Fo (X:=X.bo E)) N.1 B M pl G #[a,j,07,sa.sq,λp C=>fE N K p C #[_,Jz,aA.new C<|D.cut lo k]]
 |tup xs=>
  let#[a,j,m,sa,D]:=L;subst m;cases B;let#[I,r,R,P]:=N.1.tuple sa;let J:I.toArray.size=WP j:=by rw[ZV];show r.length.symm
  let K:Kont O X RU Z Y W U H (.ok (.tup<|dt xs lo k) h) Q E:=K;refine#["tuple",_,PyProof.Rows.slot_tuple_getitem.1,R.typeIs,Rb R M pl G (λF=>?_) (λ_=>?_)<|by rw[J];show P]
  .rw[J,D.length]at F;let e:dt xs lo k=xs:=by unfold dt;rw[F.1,F.2];show nW<|Zm _
   rw[e]at K;show aL N K #[a,j,07,sa,D] _ _ N.1 07
  .rw[J];calc m8 N K _ (N.1.aw.fresh<|Zm _) (D.cut lo k) _ _ (N.1.laid (t':=s.4) (o:=.tup<|j5 j lo k) (λb ob q=>Zj _ q) (Zm _) ?_) 07;show#[Zb (Fh j lo k) P,_,(r.drop<|HT.b8 (WP j) 0 lo).take<|HT.b8 (WP j) (WP j) k-HT.b8 (WP j) 0 lo,IsTup.new _ _]
 |_=>show Zf K
noncomputable def Q3:IV->IH->Res IV
 |.ref i,h=>match h[i]? with
  |some (.lst xs)=>.ok (.ref (WP h))<|h++[.lst xs]
  |_=>.stuck
 |.cG xs,h=>.ok (.ref (WP h))<|h++[.lst xs]
 |.tup xs,h=>.ok (.ref (WP h))<|h++[.lst xs]
 |_,_=>.stuck
def Rc:QE O X (.type "list") (bx Q3):=(VH λZ s U H Y J h x I u Q E N D B K=>by
 cases x with
 |ref i=>
  let#[a,k,ha]:=B;subst k;dsimp only[Q3]at K;cases C:h[i]? with|none=>rw[C]at K;show(K).elim|some ob=>rw[C]at K;cases ob with|lst xs=>let#[m,k,G]:=N.at C ha;show Vl (zV) N.1 (.cons D .nil) #[a,m,07,.inl<|bZ.of k,λp j=>fE N K p j #[_,Jz,aA.new j G]]|_=>show(K).elim
 |cG xs=>let#[a,m,k,sa,F]:=B;subst k;show Vl (zV) N.1 (.cons D .nil) #[a,m,07,.inl sa.sq,λp j=>fE N K p j #[_,Jz,aA.new j F]]
 |tup xs=>let#[a,m,k,sa,F]:=B;subst k;show Vl (zV) N.1 (.cons D .nil) #[a,m,07,.inr sa,λp j=>fE N K p j #[_,Jz,aA.new j F]]
 |_=>show(K).elim)
noncomputable def Xb:IV->IH->Res IV
 |.ref i,h=>match h[i]? with
  |some (.lst xs)=>.ok (.tup xs) h
  |_=>.stuck
 |.tup xs,h=>.ok (.tup xs) h
 |_,_=>.stuck
def Rf:QE O X (.type "tuple") (bx Xb):=(VH λZ s U H Y L h x I u Q E N D k K=>by
 cases x with
 |ref i=>
  let#[a,j,ha]:=k;subst j;dsimp only[Xb]at K;cases m:h[i]? with|none=>rw[m]at K;show(K).elim|some ob=>rw[m]at K;cases ob with|lst xs=>let#[B,j,G]:=N.at m ha;show Vl (Fp) N.1 (.cons D .nil) #[a,B,07,.inl #[bZ.of j,λp F=>m8 N K p F G]]|_=>show(K).elim
 |tup xs=>let C:=k;let#[a,B,j,sa,J]:=k;subst j;show Vl (Fp) N.1 (.cons D .nil) #[a,B,07,.inr #[sa,aL N K C]]
 |_=>show(K).elim)
noncomputable def X5:Tv->Option (List Bool)|[]=>V []|.bl b::r=>(X5 r).map (b:: ·)|_::_=>Zg
noncomputable def allI:IV->IH->Res IV
 |.ref i,h=>match h[i]? with
  |some (.lst xs)=>(match X5 xs with
   |some bs=>.ok (.bl<|bs.all id) h
   |none=>.stuck)
  |_=>.stuck
 |_,_=>.stuck
theorem Gi{K:W.Frag}:∀{xs:Tv}{bs:List Bool}{vs:Ub}{us:Tu},X5 xs=V bs->aA K Y H xs vs->Vals vs us->us=bs.map rE
 |[],bs,vs,us,e,q,r=>by cases e;let j:=q;subst j;cases r;rfl
 |x::xs,bs,vs,us,e,q,r=>by
  let#[v,C,j,q1,q2]:=q;subst j;cases r with
  |cons m u=>
   cases x with
   |bl b=>let#[B,k,rfl]:=ZK.1<|e;cases (q1);cases m;rw[Gi k q2 u];rfl
   |_=>cases e
def Rg(bs:List Bool):((Z6 (WP bs)).all λi=>bs.getD i Zl)=bs.all id:=by
 induction bs with
 |nil=>rfl
 |cons b r j=>
  rw[jj,List.range_succ_eq_map,fT,List.all_map];let e:((Z6 (WP r)).all<|(λi=>(b::r).getD i Zl)∘Nat.succ)=(Z6 (WP r)).all λi=>r.getD i Zl:=by congr 1
  rw[e,j];rfl
def Rh(M:X.A.1=Zg):QE O X (.builtin "all") (bx allI):=(VH λZ s U H Y bD h x xv u Q E N G R K=>by
 cases x with
 |ref i=>
  let#[a,B,ha]:=R;subst B;cases G;dsimp only[allI]at K;cases m:h[i]? with|none=>rw[m]at K;show(K).elim|some ob=>
   rw[m]at K;cases ob with
   |lst xs=>
    dsimp only at K;cases j:X5 xs with|none=>rw[j]at K;show(K).elim|some bs=>
     rw[j]at K;let#[vs,B,J]:=N.at m ha;let#[L,P,pl,hz]:=N.1.list<|bZ.of B;let S:=Gi j J P;subst S;calc call_all_walk<|og pl.isList ?_;let C:a<s.1.1.size:=by let#[o,_,ho,_]:=pl;show Z9 ho
     let ne:=Zu C;refine#[s.1.1.size,_,_,_,_,_,λi=>bs.getD i Zl,07,Walks.list (A:=X.A.in1) M s.1.1.size a ne (bs.map rE).toArray,#[#[_,Zw _ 07,07,07],?_],?_,λh' tk I=>?_]
     .let#[o,n,ho,W,_,hd]:=pl;show#[o,Zj _ ho,W,n,hd]
     .intro i v s' Q' E' D F;simp![En,Zz]at D;let#[b,k,rfl]:=ZK.1 D;calc ph ?_;let:bs.getD i Zl=b:=by simp[k]
      rw[<-this];show F
     .rw[show(bs.map rE).toArray.size=WP bs by simp,Rg];let I1:Inv X Z U H {s with heap:=s.1.push {cls:=.type "list_iterator",data:=.fields (bT [.ref a,.int 0 0])} }:=N.1.kept λb o e=>Zj _ e
      let f:=N.1.c9 (Zm _)<|N.1.aw.fresh<|Zm _;show aL N K 07 _ _ (I1.turned (λb o j e=>I b o (by simpa using j) e) f.1 f.2.1 f.2.2.2.1 f.2.2.2.2.1 f.2.2.2.2.2) 07
   |_=>show(K).elim
 |_=>show(K).elim)
def nh(O:aN)(X:Cx)(T id:String)(g:IV->Tv->IH->Res IV):Prop:=
 ∀(Z:aZ)(s:Z5)(U:L2.St)(H:Hp)(Y:Tt)(bD:aD)(h:IH)(x:IV)(xs:Tv)(v:Zv)(us:Tu)(Q:aQ)(E:aQ),aB O X Z Y bD h U H s->RU X.K Y H x v->jy X.K Y H xs us ->
  Kont O X RU Z Y bD U H (g x xs h) Q E->Z0 (ZA X.1 X.w) X.A (call (.builtin id)<|v::us) Q E s
noncomputable def eE (T:String):IV->IH->Bool
 |.str _,_=>T=="str"
 |.int _,_=>T=="int"
 |.ref i,h=>match h[i]? with
  |some (.lst _)=>T=="list"
  |some (.aV _)=>T=="dict"
  |_=>Zo
 |.cG _,_=>T=="list"
 |_,_=>Zo
def rQ(T:String)(g:IV->Tv->IH->Res IV)(o:E1)(a:A1):E1:=λU h=>(o U h).bind λx h1=>if eE T x h1=Zl then(a U h1).bind λxs J=>g x xs J else .stuck
def Gj(N:aB O X Z Y bD h U H s)(q:RV X.K Y H x xv)(e:eE T x h=Zl):Fq X.K T xv H:=by
 cases x with
 |str y=>cases (q);show beq_iff_eq.1 e
 |int y=>cases (q);show beq_iff_eq.1 e
 |cG y=>let#[a,k,rfl,sa,_]:=q;show .inl #[beq_iff_eq.1 e,k,sa.sq]
 |ref i=>
  let#[a,rfl,ha]:=q;cases j:h[i]? with|none=>simp[eE,j]at e|some ob=>cases ob with|lst xs=>simp![eE,j]at e;let#[k,m,_]:=N.at j ha;show .inl #[beq_iff_eq.1 e,k,bZ.of m]|aV u=>simp![eE,j]at e;let#[k,m,_]:=N.at j ha;show .inr<|.inr<|.inl #[beq_iff_eq.1 e,.inl #[k,m]]|_=>simp[eE,j]at e
 |_=>simp[eE]at e
variable{o a:Expr}{es:Td}{mo:E1}{ma:A1}{name:Str}{apos cpos:Pos}{T id:String}{g:IV->Tv->IH->Res IV}
def AG(pa:PlainAttrs T)(slot:Slot T name id)(D:l5 (.builtin id)=pure (.type "method_descriptor"))(hm:nh O X T id g)(ho:ai O X o mo)(ha:dR O X (a::es) ma)
  (hbase:qV o name X.10 (bj o X.10)=bj o X.10:=by rfl)
  (k:((eJ cpos<|ZT (a::es) X.10).all (λx=>!x.1)&&(oz cpos<|oo [] X.10).all (λx=>x.1.isSome)
   && decide ((a::es).length+([]:Tn).length+(if ([]:Tn).isEmpty then 0 else 1)<30))=Zl:=by rfl)
  (hline:(apos.3==cpos.1)=Zl:=by rfl) (hs:ZT (a::es) X.10=(Zo,bj a X.10)::ZT es X.10:=by rfl) (hplain:(eJ cpos<|ZT es X.10).any (·.1)=Zo:=by rfl):
  ai O X (.Call (.Attribute o name apos) (a::es) [] cpos) (rQ T g mo ma):=by
 intro Z s U H Y bD h Q E N K;calc wpAny_Call_method_late hbase k hline 07 (ho.run N K λx L v s1 H1 U1 B n1 P m=>?_);by_cases j:eE T x L=Zl
 .rw[if_pos j]at m;let#[xv,F,I]:=P;let#[C,u]:=Fs B.1 F<|Gj B I j;calc#[T,id,pa,slot,D,C,u,?_];let G:=(ha cpos).run B m λxs J S R H2 M W n2 r2 K2=>hm Z R U H2 M bD J x xs v S Q E W #[xv,F,RV.mono n2 _ _ I] r2 K2
  rw[hs]at G ⊢;show EM (by simp_all)<|Calls.evalArgs_plain G
 .rw[if_neg j]at m;show(m).elim
def Ri(I:PlainAttrs T)(slot:Slot T name id)(B:l5 (.builtin id)=pure (.type "method_descriptor"))(hm:nh O X T id g)(ho:ai O X o mo)
  (hbase:qV o name X.10 (bj o X.10)=bj o X.10:=by rfl)(hline:(apos.3==cpos.1)=Zl:=by rfl):ai O X (.Call (.Attribute o name apos) [] [] cpos) (rQ T g mo Je):=by
 intro Z s U H Y P h Q E N K;refine wpAny_Call_method0_late hbase hline<|ho.run N K λx G v R M L C n1 S k=>?_
 by_cases j:eE T x G=Zl
 .rw[if_pos j]at k;let#[J,D,F]:=S;let#[m,u]:=Fs C.1 D<|Gj C F j;show#[T,id,I,slot,B,m,u,EM 07 (PySem.evalArgs_none<|hm Z R U M L P G x [] v [] Q E C #[J,D,F] .nil k)]
 .rw[if_neg j]at k;show(k).elim
def wy(p:tD (X.bo E) id r)(I:Inv X Z U H s)(j:RelV x v)(rs:Vals xs us) (k:r x xs H λz H'=>∀u s',Inv X Z U H' s'->RelV z u->Q u s'):Z0 (ZA X.1 X.w) X.A (call (.builtin id)<|v::us) Q E s:=(dD (p Z s U H x xs v us _ (I.bo E) j rs k) (λu s' ⟨_,_,m,r,q⟩=>q u s' m.bH r) λ_ _ z=>z)
def lD(N:aB O X Z Y bD h U H s)(K:Kont O X RU Z Y bD U H (.ok v<|h.set i<|.lst ys) Q E) (k:Y[i]?=V b)(j:H b=V (.lst vs))(r:aA X.K Y H ys ws)(q:RV X.K Y H v w):∀u s',Inv X Z U (upd H b<|.lst ws) s'->RelV w u->Q u s':=(λu s' I m=>by let n:bc Y H Y (upd H b<|.lst ws):=#[#[[],03],Ext.cw j<|by rw[j];show eW];let#[R,_]:=N.2.write (io:=.lst ys) k j (by rw[j];show eW) #[_,Jz,aA.mono n _ _ r];show K u s' _ Y #[I,R,N.3.mono n] n #[w,m,RV.mono n _ _ q])
noncomputable def Xh:IV->Tv->IH->Res IV
 |.ref i,[y],h=>match h[i]? with
  |some (.lst xs)=>if (WP xs)<sizeLine then .ok .ah (h.set i<|.lst<|xs++[y])else .stuck
  |_=>.stuck
 |_,_,_=>.stuck
def Rj:nh O X "list" "list.append" Xh:=by
 intro Z s U H Y S h x xs v P Q E N j I K;let#[R,j,G]:=j;let#[M,F,C]:=I;cases x with
 |ref i=>
  match xs,K with
  |[y],K=>
   let#[a,rfl,ha]:=G;let#[w,rfl,J]:=C.bM;dsimp only[Xh]at K;cases k:h[i]? with|none=>rw[k]at K;show(K).elim|some ob=>
    rw[k]at K;cases ob with
    |lst L=>
     dsimp only at K;split at K
     .rename_i B;let#[D,m,u]:=N.at k ha;show wy (Fv) N.1 j F #[a,D,w,07,07,m,by rw[u.length];show B,lD N K ha m (u.append<|aA.one J) 07]
     .show(K).elim
    |_=>show(K).elim
  |[],K=>show(K).elim
  |_::_::_,K=>show(K).elim
 |_=>cases xs<;>show(K).elim
def hJ:IV->IV->IV->aD->IH->bS
 |.ref i,.int k,v,U,h=>match h[i]? with
  |some (.lst xs)=>(match ik (WP xs) k with
   |some j=>.next U<|h.set i<|.lst<|xs.set j v
   |none=>.stuck)
  |_=>.stuck
 |_,_,_,_,_=>.stuck
def tM(o i:E1):G1:=λv U h=>rS U (o U h) λov h1=>rS U (i U h1) λiv J=>hJ ov iv v U J
def Rk(ho:ai O X oe mo)(hi:ai O X ie mi) (ha:∀v,kW (.Subscript oe ie pos) X.10 v=(do
   let ov<-iE [v] (bj oe X.10)
   let iv<-iE [v,ov] (bj ie X.10)
   mV pos
   iE [v,ov,iv] (setItem ov iv v)
   release [v,ov,iv] []):=by intro _;rfl):jb O X (.Subscript oe ie pos) (tM mo mi):=by
 intro Z s U H Y bD h v u Q E N r K;rw[ha];refine Ze<|d4<|cP ho N K λov h1 ou s1 H1 U1 N1 n1 r1 K1=>?_
 refine Ze<|d4<|cP hi N1 K1 λiv J iu s2 F I G n2 r2 m=>?_
 let r':=(r.mono n1).mono n2;let#[ox,ro,qo]:=r1.mono n2;let#[ix,ri,qi]:=r2;let#[M,S,qv]:=r';calc Ze<|jO<|Ze<|d4 ?_;cases ov with
 |ref i=>
  cases iv with
  |int k=>
   let#[a,rfl,B]:=qo;cases (qi);dsimp only[hJ]at m;cases R:J[i]? with|none=>rw[R]at m;show(m).elim|some ob=>
    rw[R]at m;cases ob with
    |lst xs=>
     dsimp only at m;cases P:ik (WP xs) k with|none=>rw[P]at m;show(m).elim|some j=>
      rw[P]at m;let#[L,C,D]:=G.at R B;refine dD (Fm (X:=X.bo E) Z s2 U F (.ref a) (.int k) M ou iu u (λW=>W=upd F a (.lst<|L.set j M)) (G.1.bo E) ro ri S #[a,L,k,j,07,07,C,by rw[D.length];show P,07]) (λ_ s3 hq=>?_) λ_ _ z=>z
      let#[W,I',rfl]:=hq;let n:bc I F I (upd F a<|.lst<|L.set j M):=#[#[[],03],Ext.cw C<|by rw[C];show eW];let#[R3,_]:=G.2.write (io:=.lst<|xs.set j v) B C (by rw[C];show eW) #[_,Jz,(aA.mono n _ _ D).set (RV.mono n _ _ qv) j];show wpAny_release<|m s3 U _ I #[I'.bH,R3,G.3.mono n] n
    |_=>show(m).elim
  |_=>show(m).elim
 |_=>cases iv<;>show(m).elim
end
section
variable{O:aN}{X:Cx}
noncomputable def eF:IV->Option Key|.int i=>V<|.inl i|.str x=>V<|.inr x|_=>Zg
def wz{K:W.Frag}(e:eF x=V k)(r:RV K Y H x v):v=kV k:=by cases x with|int i=>cases e;show r|str y=>cases e;show r|_=>cases e
def iP:IV->IV->IH->Res IV|.int i,.int j,h=>.ok (.int (if j>i then j else i)) h|_,_,_=>.stuck
def lE:IV->IV->IH->Res IV|.int i,.int j,h=>.ok (.int (if j<i then j else i)) h|_,_,_=>.stuck
def Rl(B:X.15=Zl):QE O X (.builtin "max") (j9 iP):=by
 intro Z s U H Y D h xs F Q E N r K;let#[C,k,q]:=r;match xs,K with
 |[x,y],K=>
  let#[v,w,rfl,m,u]:=q.hI;cases x with
  |int i=>cases y with|int j=>cases (m);cases (u);show Vl (ND B) N.1 k #[i,j,07,aL N K 07]|_=>show(K).elim
  |_=>cases y<;>show(K).elim
 |[],K=>show(K).elim
 |[_],K=>show(K).elim
 |_::_::_::_,K=>show(K).elim
def Rm(B:X.15=Zl):QE O X (.builtin "min") (j9 lE):=by
 intro Z s U H Y D h xs F Q E N r K;let#[C,k,q]:=r;match xs,K with
 |[x,y],K=>
  let#[v,w,rfl,m,u]:=q.hI;cases x with
  |int i=>cases y with|int j=>cases (m);cases (u);show Vl (NF B) N.1 k #[i,j,07,aL N K 07]|_=>show(K).elim
  |_=>cases y<;>show(K).elim
 |[],K=>show(K).elim
 |[_],K=>show(K).elim
 |_::_::_::_,K=>show(K).elim
noncomputable def VZ:Tv->Option (Tj)|[]=>V []|.str x::r=>(VZ r).map (x:: ·)|_=>Zg
theorem Gk{K:W.Frag}:∀{xs:Tv}{zs:Tj}{vs:Ub}{us:Tu},VZ xs=V zs->aA K Y H xs vs->Vals vs us->∃l:List<|Str×Tok,us=va l/\l.map (·.1)=zs
 |[],zs,vs,us,e,q,r=>by cases e;let j:=q;subst j;cases r;show#[[],07,07]
 |x::xs,zs,vs,us,e,q,r=>by
  let#[v,D,j,q1,q2]:=q;subst j;cases r with
  |cons u B=>
   cases x with
   |str y=>let#[C,m,rfl]:=ZK.1<|e;cases (q1);let#[t,rfl]:=u;let#[l,rfl,k]:=Gk m q2 B;show#[(y,t)::l,07,by rw[ZS,k]]
   |_=>cases e
end
noncomputable def JT:Tv->Option (To)|[]=>V []|.int i::r=>(JT r).map (i:: ·)|_=>Zg
theorem V8{K:W.Frag}:∀{xs:Tv}{ns:To}{vs:Ub}{us:Tu},JT xs=V ns->aA K Y H xs vs->Vals vs us->i6 us ns
 |[],ns,vs,us,e,q,r=>by cases e;let j:=q;subst j;cases r;show .nil
 |x::xs,ns,vs,us,e,q,r=>by
  let#[v,B,j,q1,q2]:=q;subst j;cases r with
  |cons m u=>
   cases x with
   |int i=>let#[n2,k,rfl]:=ZK.1<|e;cases (q1);let#[t,rfl]:=m;show .cons i t<|V8 k q2 u
   |_=>cases e
theorem Y8:∀{us:Tu}{ns:To},i6 us ns->WP us=WP ns
 |_,_,.nil=>07
 |_,_,.cons _ _ r=>by simp[Y8 r]
section
variable{O:aN}{X:Cx}
noncomputable def iQ:IV->IH->Res IV
 |.ref i,h=>match h[i]? with
  |some (.lst xs)=>(match JT xs with
   |some ns=>.ok (.int ns.sum) h
   |none=>.stuck)
  |_=>.stuck
 |_,_=>.stuck
def Rn(P:X.A.1=Zg):QE O X (.builtin "sum") (bx iQ):=(VH λZ s U H Y bD h x xv u Q E N G S K=>by
 cases x with
 |ref i=>
  let#[a,C,ha]:=S;subst C;cases G;dsimp only[iQ]at K;cases m:h[i]? with|none=>rw[m]at K;show(K).elim|some ob=>
   rw[m]at K;cases ob with
   |lst xs=>
    dsimp only at K;cases B:JT xs with|none=>rw[B]at K;show(K).elim|some ns=>
     rw[B]at K;let#[vs,C,L]:=N.at m ha;let#[M,R,pl,hz]:=N.1.list<|bZ.of C;let j:=V8 B L R;let#[k,F]:=j.allInts.items;let D:=F▸pl.isList;refine sum_intListG P D λJ tk t2 I=>?_
     let en:ns=k.1.map (·.1):=by let q1:=j.numsOf;let q2:=congrArg (λz:Th=>numsOf z.1) F;rw[<-q1];show q2.trans<|nums_intItems k
     let W:preSum (numAt k) k.size=ns.sum:=by rw[preSum_eq,en,nW 03]
     rw[W];show aL N K 07 _ _ (N.1.kept I) #[_,07]
   |_=>show(K).elim
 |_=>show(K).elim)
end
noncomputable def Qd (f:Nat->Int):Nat->Int|0=>0|1=>f 0|j+2=>if f (j+1)>Qd f (j+1)then f (j+1)else Qd f (j+1)
def AH(f)(k:0<j):Qd f (j+1)=if f j>Qd f j then f j else Qd f j:=by cases j with|zero=>show absurd 06<|jM _|succ j=>rfl
def Ro:{F:String->CmpOp->eU // eU.«max.loop» =F "max" .Gt/\eU.«min.loop» =F "min" .Lt}:=#[_,by unfold eU.«max.loop»;show 07,by unfold eU.«min.loop»;show 07]
structure Mm(nm L:String)(op:CmpOp):Prop where
 en:entryFor table L=V (Ro.1 nm op)
 pl:plainId L=Zl
 nm:(toString nm++toString ".loop":String)=L
def Rp:Mm "max" "max.loop" .Gt:=(#[vw,oM,01])
def Rq:Mm "min" "min.loop" .Lt:=(#[PySem.F.entry_min_loop,PySem.F.plain_min_loop,01])
section
variable{pr:cy}{wd:bV}{B:cz}{R:rh->Z5->Prop}{it:ZF}{fps wrs:Tt}{n:Nat}{P:Nat->Zv->Prop}{St:Nat->bu->Prop}
abbrev dz(l:ZF):Obj:={cls:=.type "list_iterator",data:=.fields (bT [.ref l,.int 0 0])}
abbrev Rr(v:Zv)(c:Nat):Obj:={cls:=.type "list",dict:=Zg,data:=.seq (bT [v,v]) c,slots:=#[]}
def wA:(toString "max"++toString ".loop":String)="max.loop":=01
def Rt(W:Walks pr wd B.in1 it fps wrs n P St)(f)(X:∀i v,P i v->∃t,v=.int (f i) t)(C)(M:C∉fps):∀(r j:Nat)(z:Z5)(v:Zv)(u:Tok)(c:Nat),n-j=r->0<j->j<=n->St j z.1->v=.int (Qd f j) u->z.1.get? C=V (Rr v c) ->(∀u J tk,(∀a o,a∉wrs->a≠C->z.1.get? a=V o->J.get? a=V o)->R (.ok<|.ret<|.int (Qd f n) u) {z with heap:=J,toks:=tk}) ->i1 (ZA pr wd) B (.builtin "max.loop" #[[.ref it,.none,.ref C],kw]) R z:=by
 let L:C∉wrs:=λq=>M<|W.1 _ q
 intro r;induction r with
 |zero=>
  intro j z v u c U Q S st ev gC fin;obtain rfl:j=n:=05;subst ev;calc jN vw ?_;rw[m5 oM _];calc Ze<|om gC 07 ?_;refine Ze<|kD<|W.4 z _ _ st λJ tk keep=>?_
  let k:=keep C _ L gC;calc Ze ?_;calc qU k 07 (Ze<|kT<|Zs ?_);show fin u _ tk λa o ha D e=>(ZI _ _<|bP D).trans<|keep a o ha e
 |succ r O=>
  intro j z v u c U Q S st ev gC fin;let lt:j<n:=nQ 06;subst ev;calc jN vw ?_;rw[m5 oM _];calc Ze<|om gC 07 ?_;refine Ze<|kD<|W.3 j z _ _ lt st λy J tk Y E keep=>?_
  let#[t,rfl]:=X j y Y;let k:=keep C _ L gC;let I:=zt (prog:=pr) (w:=wd) (A:=B.in1) (λi=>if i=0 then f j else Qd f j) λ_ _ q=>q
  change Z0 _ B.in1 (tryCatch (iE [m4 (f j) t,m4 (f j) t]<|u6 .Gt (.int (f j) t) (.int (Qd f j) u)>>=_) _>>=_) _ _ _;calc Ze<|kD<|d4<|Ze<|I 0 1 _ _ _ _ _ #[t,03] #[u,03] ?_;calc Ze<|d4<|ph ?_;calc Ze<|kT<|Zs ?_;let step:=AH f Q;by_cases D:f j>Qd f j
  .rw[if_pos D]at step;simp![if_true,show ¬(1:Nat)=0 by decide,if_false,decide_eq_true D];calc Ze ?_;calc qU k 07 (Ze<|kT ?_);rw[wA];refine Zs #[kR oM _,O (j+1) _ (.int (f j) t) t _ (congrArg su 06) (iX _) lt (W.2 _ _ _ E λa ha o e=>?_) (by rw[step]) (l8 _ k 07) λu2 H m G=>?_]
   .show(ZI _ _ λq:C=a=>M<|by rw[q];show ha).trans e
   .show fin u2 H m λa o ha F e=>G a o ha F<|(ZI _ _<|bP F).trans<|keep a o ha e
  .rw[if_neg D]at step;simp![if_true,show ¬(1:Nat)=0 by decide,if_false,decide_eq_false D,l9];calc Ze<|kT ?_;rw[wA];calc Zs #[kR oM _,O (j+1) _ (.int (Qd f j) u) u c (congrArg su 06) (iX _) lt E (by rw[step]) k λu2 H m G=>?_];show fin u2 H m λa o ha F e=>G a o ha F<|keep a o ha e
end
def Ru(a v):mW "max" #[[a],[(eA "default",v)]]:=by unfold mW;kernel_rfl
section
variable{pr:cy}{wd:bV}{B:cz}{E:aQ}{z:Z5}{l:ZF}{us:Tu}{ns:To}{d:Tb}{Q:aQ}{kw:Wn}
def Rv(ns:To)(d:Tb)(v:Zv):Prop:=(ns=[]/\d=V v)\/(ns≠[]/\∃u,v=.int (Qd (λi=>ns.getD i 0) (WP ns)) u)
def Gm(Y:rJ "max" ["key","default"] 0 #[[],kw]=pure [Zg,d])(ha:mW "max" #[[.ref l],kw])(hn:ns=[]->∃v,d=V v)(G:aI B z.1)(C:z.1.IsList l us.toArray)(hi:i6 us ns)
  (P:∀v J tk,Rv ns d v->(∀b o,z.1.get? b=V o->J.get? b=V o)->Q v {z with heap:=J,toks:=tk}):
  Z0 (ZA pr wd) B (call (.builtin "max") [.ref l] kw) Q E z:=by
 let#[ol,F,_]:=id C;let lt:l<z.1.1.size:=Z9 F;let m:=Y8 hi;calc kmk_tree PySem.F.kind_max PySem.F.plain_max PySem.F.entry_max ha ?_;change Z0 _ B.in1 (rJ "max" ["key","default"] 0 #[[],kw]>>=_) _ _ z;calc Ze<|qX Y ?_;calc Ze<|Zs ?_;calc Ze<|og C ?_;calc Ze<|sI ?_<|ZX _;rw[wA];let ne:l≠z.1.1.size:=Zu lt;let W:=vL (prog:=pr) (w:=wd) (A:=B.in1) z.1.1.size l ne us.toArray;let sz:us.toArray.size=WP us:=ZV ..;let L:(z.1.push<|dz l).1.size=z.1.1.size+1:=rC ..;let O:(z.1.push<|dz l).1.size∉z.1.1.size::l::jt B.in1:=by rw[L];simp![ZG,not_or];show#[ZY<|ZZ _,ZY<|iB lt,λq=>jM _<|mM<|G.in1.lt _ q]
 let U:(z.1.push<|dz l).1.size∉[z.1.1.size]:=by rw[L];simp![ZG,kB,or_false];show ZY<|ZZ _
 let old:∀b o,z.1.get? b=V o->((z.1.push<|dz l).push<|cH "list" #[] 0).get? b=V o:=λb o e=>Zj _<|Zj _ e
 let R:((z.1.push<|dz l).push<|cH "list" #[] 0).get? z.1.1.size=V (dz l):=Zj _<|Zw _ 07;let gC:((z.1.push<|dz l).push<|cH "list" #[] 0).get? (z.1.push<|dz l).1.size=V (cH "list" #[] 0):=Zw _ 07;let iL:∀b o,z.1.get? b=V o->b∉[z.1.1.size]:=λb o e q=>Zu (Z9 e)<|ZB.1 q
 let j:∀b o,z.1.get? b=V o->b≠(z.1.push<|dz l).1.size:=λb o e=>by rw[L];show Zu<|iB<|Z9 e
 calc Zs #[kR oM _,jN vw ?_];rw[m5 oM _];change Z0 _ B.in1 (q7 (.ref _)>>=_) _ _ _;calc Ze<|om gC 07 ?_;change Z0 _ B.in1 (tryCatch (f9<|.ref z.1.1.size) _>>=_) _ _ _;by_cases D:WP us=0
 .calc Ze (kD<|W.4 _ _ _ (by rw[sz,D];show#[#[#[_,R,07,07],(C.push _).push _],G.in1.mono old]) λJ tk keep=>?_);let#[v,rfl]:=hn<|uA<|ZW (Zb (Zh m.symm)<|Zh D)<|ZX _;change Z0 _ B.in1 (rule _>>=_) _ _ _;calc Ze<|kU<|Zs ?_;refine P v J tk (.inl #[uA<|ZW (Zb (Zh m.symm)<|Zh D)<|ZX _,07]) λb o e=>keep b o (iL b o e)<|old b o e
 .calc Ze (kD<|W.3 0 _ _ _ (by rw[sz];show ym 06) #[#[#[_,R,07,07],(C.push _).push _],G.in1.mono old] λy J tk Z H keep=>?_);let k:=keep _ _ U gC;change Z0 _ B.in1 (updateSeq (z.1.push<|dz l).1.size (λ_=>(bT [y,y]))>>=_) _ _ _;calc Ze ?_;calc qU k 07 ?_;rw[wA];let M:∀(i:Nat)(v:Zv),us.toArray[i]?=V v->∃t,v=.int ((λi=>ns.getD i 0) i) t:=λi v q=>zr hi i v<|by simpa using q
  let#[t,rfl]:=M 0 y Z;refine Zs #[kR oM _,Rt W (λi=>ns.getD i 0) M _ O _ 1 _ _ t _ 07 01 (by rw[sz];show ym 06) (W.2 _ _ _ H λa ha o e=>?_) 07 (l8 _ k 07) λu X I S=>?_]
  .show(ZI _ _ λq=>O<|by rw[q];show ha).trans e
  .rw[sz,m];calc P _ X I (.inr #[λq=>D (by rw[m,q];rfl),u,07]) λb o e=>S b o (iL b o e) (j b o e)<|(ZI _ _<|bP<|j b o e).trans<|keep b o (iL b o e)<|old b o e
end
section
variable{O:aN}{X:Cx}
def maxD(ns:To)(d:IV):IV:=if ns=[]then d else .int (Qd (λi=>ns.getD i 0) (WP ns))
def XB(aa:A1)(md:E1):E1:=λU h=>(aa U h).bind λxs h1=>(md U h1).bind λd J=>match xs with|[.ref i]=>(match J[i]? with|some (.lst ys)=>(match JT ys with|some ns=>.ok (maxD ns d) J|none=>.stuck)|_=>.stuck)|_=>.stuck
def Rw(hc:X.15=Zl)(hg:Gl X "max")(hm:X.4 "max"=Zg)(ha:dR O X [a] aa)(hd:ai O X de md)(hs:ZT [a] X.10=[(Zo,bj a X.10)]):ai O X (.Call (.Name "max" p) [a] [#[V "default",de,kp]] pos) (XB aa md):=(λZ s U H Y bD h Q E N K=>by
 calc iD<|Qk N.1 hg hm 07 ?_;calc vr ?_ (by rw[hs];rfl) (by rw[hs];rfl) 07 07;refine(ha pos).run N K λxs h1 us s1 H1 U1 N1 n1 r1 K1=>?_
 refine rA<|Ze<|PX.run hd N1 K1 λd J W s2 H2 L k n2 r2 j=>Ze<|jO<|Zs<|vp ?_
 let#[vs,rv,qs]:=r1.mono n2;cases xs with|nil=>show Zf j|cons x t=>
  cases t with|cons _ _=>cases x<;>show Zf j|nil=>
   cases x with
   |ref i=>
    let#[w,rfl,ad,rfl,F]:=qs.bM;let#[u,rfl,R]:=QC rv;cases R;dsimp only at j;cases m:J[i]? with|none=>rw[m]at j;show Zf j|some ob=>
     rw[m]at j;cases ob with
     |lst ys=>
      dsimp only at j;cases C:JT ys with|none=>rw[C]at j;show Zf j|some ns=>
       rw[C]at j;dsimp only at j;let#[ws,e1,r3]:=k.at m F;let#[its,B,pl,_]:=k.1.list<|bZ.of e1;refine Gm (d:=V W) 07 (Ru _ _) (λ_=>#[_,07]) (k.1.cA hc) pl.isList (V8 C r3 B) λv S I M P=>?_
       let G:aB O X Z L bD J U H2 {s2 with heap:=S,toks:=I}:=#[k.1.kept (t':=I) P,k.2,k.3];rcases M with⟨e,ev⟩|⟨e,t,rfl⟩
       .cases ev;let D:maxD ns d=d:=if_pos e;rw[D]at j;show j _ _ _ _ G .refl r2
       .let D:maxD ns d=.int (Qd (λi=>ns.getD i 0) (WP ns)):=if_neg e;rw[D]at j;show j _ _ _ _ G .refl #[.int _,#[t,07],07]
     |_=>show Zf j
   |_=>show Zf j)
end
noncomputable def jA (f:Nat->Str)(i:Nat)(k:Str):Bool:=(Z6 i).any λj=>decide (k=f j)
def hL(f:Nat->Str):Nat->Nat|0=>0|i+1=>if jA f i (f i)then hL f i else hL f i+1
def Rx(f)(i)(k):jA f (i+1) k=(jA f i k||decide (k=f i)):=by simp[jA,yG]
theorem AI(f):∀i,hL f i<=i|0=>Zm _|i+1=>by let:=AI f i;unfold hL;split<;>(first|show mO 06|show sk 06|lia)
abbrev Vh(led:Bool):Obj:={cls:=.type "set",dict:=Zg,data:=.set #[] 0 (.fresh 0 0 led)}
abbrev lG(wd:bV):Bool:=wd.2.6 "set-order"
structure tN(pr:cy)(wd:bV)(n:Nat)(P:Nat->Zv->Prop)(SA:bu->ZF->Nat->Prop):Prop where
 mv:∀{h J:bu}{C:ZF}{i:Nat},SA h C i->(∀o,h.get? C=V o->J.get? C=V o)->SA J C i
 add:∀{A:cz}{E:aQ}{i:Nat}{v:Zv}{C:ZF}{z:Z5}{Q:Bool->Z5->Prop},P i v->i<n->SA z.1 C i->(∀b h3,mX C z.1 h3->SA h3 C (i+1)->Q b {z with heap:=h3,toks:=z.4+1})->Z0 (ZA pr wd) A (setAdd C v) Q E z
 new:∀{h:bu}{C:ZF},h.get? C=V (Vh (!lG wd))->SA h C 0
section
variable{pr:cy}{wd:bV}{A B:cz}{R:rh->Z5->Prop}{it:ZF}{fps wrs:Tt}{G:Wj->Wj->Prop}{n:Nat}{P:Nat->Zv->Prop}{St:Nat->Z5->Prop}{SA:bu->ZF->Nat->Prop}{E:aQ}{s z:Z5}{l:ZF}{us:Tu}{Q:aQ}
def Ry(bA:tN pr wd n P SA)(W:WalksS pr wd B.in1 it fps wrs G n P St)(C)(E:C∉fps):∀(r i:Nat)(z:Z5),n-i=r->i<=n->St i z->SA z.1 C i->(∀j,Moved (C::wrs) G z j->SA j.1 C n->R (.ok<|.ret .none) j) ->i1 (ZA pr wd) B (.builtin "set.update.loop" #[[.ref C,.ref it],[]]) R z:=by
 let H:C∉wrs:=λq=>E<|W.1 _ q
 let more:∀b∈wrs,b∈C::wrs:=λb q=>Zq _ q
 intro r;induction r with|zero=>intro i z J M st D fin;obtain rfl:i=n:=05;calc jN EJ ?_;rw[m5 zj _];show Ze<|W.6 z _ _ st λj mv=>Zs<|fin j (mv.mono more)<|bA.1 D λo e=>mv.1 C _ H e|succ r Q=>
  intro i z J M st D fin;let lt:i<n:=nQ 06;calc jN EJ ?_;rw[m5 zj _];refine Ze<|W.5 i z _ _ lt st λv j O k mv=>?_
  refine Ze<|d4<|bA.2 O lt (bA.1 D λo e=>mv.1 C _ H e) λ_ S F m=>?_
  refine Zs #[kR zj _,Q (i+1) _ (congrArg su 06) lt (W.4 _ j _ _ k (fP _) λb q o e=>?_) m λL I u=>?_]
  .rw[F.2 b λe2:b=C=>E<|by rw[<-e2];show q];show e
  .calc fin L (Moved.trans W.3 ((mv.mono more).then_heap (fP _) λb o q e=>?_) I) u;rw[F.2 b λe2:b=C=>q<|by rw[e2];show Z2];show e
def Rz(a)(h:Q₁ (.ref s.1.1.size) {s with heap:=s.1.push (Vh (!lG wd))}):i1 (ZA pr wd) A (.call (.builtin "set.__new__") #[[.type "set",a],[]]) (wants Q₁ E) s:=by
 calc yK ?_;calc Ze<|qX (PySem.F.newCall_set_1 a)<|Zs #[kR PySem.F.plain_set_new _,jN PySem.F.entry_set_new ?_];unfold eU.«set.__new__» Builtin.Frozenset.newClass;let j:=PySem.sub_set_self;let#[k,g,d,m,os]:=s;dsimp only
 wp_walk
 calc wpAny_askSetting<|Zs ?_;dsimp only;calc Ze<|wpAny_alloc<|Zs ?_;show Zs h
set_option maxRecDepth 100000 in
def RA(hh:B.1=Zg)(hl:z.1.IsList l us.toArray)(bA:tN pr wd us.toArray.size (λi v=>us.toArray[i]?=V v) SA)
  (fin:∀(J:bu)(tk:Nat),SA J z.1.1.size us.toArray.size->(∀b o,z.1.get? b=V o->J.get? b=V o)->Q (.ref z.1.1.size) {z with heap:=J,toks:=tk}):
  Z0 (ZA pr wd) B (call (.type "set") [.ref l]) Q E z:=by
 let#[c,tl,hmro]:=PySem.F.called_set.3;let U:=PySem.F.called_set.4;let hsub:=PySem.F.called_set.6;calc px<|yK ?_;change Z0 _ _ (callAny (.type "set") _) _ _ _;calc Zs #[vG _ (by decide +kernel),jN PySem.F.entry_type_call ?_];rw[Around.under_plain (weight_type_call_type "set" [.ref l] []) 07];let no1:=PySem.F.called_set.1;let no2:=PySem.F.called_set.2;let ok1:=PySem.F.typeCall_set_1<|.ref l;repeat (any_goals (first|assumption|wp_step))
 refine pj (Rz (.ref l) (E:=E) (Q₁:=λobj Y=>obj=.ref z.1.1.size/\Y={z with heap:=z.1.push (Vh (!lG wd))}) #[07,07]) λk Y M=>?_
 cases k with|error e=>show M|ok fl=>
  cases fl with
  |ret obj=>
   let#[rfl,rfl]:=M;let gS:(z.1.push<|Vh (!lG wd)).get? z.1.1.size=V (Vh (!lG wd)):=Zw _ 07;let tS:Shared.TypeIs {z with heap:=z.1.push (Vh (!lG wd))} (.ref z.1.1.size) "set":=#[_,gS,07];let in1:=PySem.F.called_set.7.1;let in2:=PySem.F.called_set.7.2<|.ref z.1.1.size;repeat (any_goals (first|assumption|wp_step))
   refine pj (qT (R:=wants (λk Z=>k=.none/\∃J tk,Z={z with heap:=J,toks:=tk}/\SA J z.1.1.size us.toArray.size/\(∀b o,z.1.get? b=V o->J.get? b=V o)) E)
    PySem.F.called_set.7.4 PySem.F.entry_set_init (check_set_init_1 tS ?_)) λH Z u=>?_
   .let#[ol,G,D,nl,F]:=hl;let#[ocls,m,X,j]:=ol;simp only at D F;subst D;subst F;let gl:(z.1.push<|Vh (!lG wd)).get? l=V {cls:=.type "list",dict:=m,data:=.seq us.toArray nl,slots:=j}:=Zj _ G;let sb1:=PySem.F.sub_list_set;let sb2:=PySem.F.sub_list_frozenset;let dne:(m3 "list"==m3 "dict")=Zo:=01;let C:(z.1.push<|Vh (!lG wd)).IsList l us.toArray:=#[_,gl,07,nl,07];unfold eU.«set.__init__» noKeywords Builtin.Frozenset.updateFrom;generalize S:l4=PI
    wp_walk
    subst S;calc og C ?_;calc Ze<|yL ?_;let lS:l<z.1.1.size:=Z9 G;let h3:B.in1.in1.in1.1=Zg:=by simp[hh]
    let O:l≠(z.1.push<|Vh (!lG wd)).1.size:=by rw[oA];show Zu<|iB lS
    let nC:z.1.1.size∉[(z.1.push<|Vh (!lG wd)).1.size,l]:=by rw[oA];simp![ZG,kB,or_false,not_or];show#[Zu<|ZZ _,ZY lS]
    calc Ry bA ((Walks.list h3 _ l O us.toArray).toS) z.1.1.size nC (us.toArray.size-0) 0 _ 04 (ZX _) #[#[_,Zw _ 07,07,07],(C.push _)] (bA.3<|Zj _ gS) ?stop;case stop=>
     intro z5 mv P;let#[h5,g5,d5,W,I]:=z5;let eg:g5=z.2:=mv.2;let ed:d5=z.3:=mv.3;let eo:I=z.5:=mv.4;subst eg;subst ed;subst eo;change Z0 _ _ _ _ _ _;calc Zs ?_;change Z0 _ _ (ret dO) _ _ _;calc Zs #[07,h5,W,07,P,λb o e=>?_];let lb:=Z9 e;let b1:b≠z.1.1.size:=Zu lb;let b2:b≠(z.1.push<|Vh (!lG wd)).1.size:=by rw[oA];show Zu<|iB lb
     show mv.1 b o (by simp![ZG,kB,or_false,not_or];show#[b1,b2])<|Zj _<|Zj _ e
   .cases H with|error e=>show u|ok oR=>
     cases oR with
     |ret rv=>
      let#[rfl,J,tk,rfl,L,keep]:=u;repeat (any_goals (first|assumption|wp_step))
      show fin _ _ L keep
     |_=>show u.elim
  |_=>show M.elim
end
section
variable{pr:cy}{wd:bV}{B:cz}{E:aQ}{z:Z5}{l:ZF}{us:Tu}{zs:Tj}{Q:aQ}
abbrev Gn(pr:cy)(wd:bV)(hp:bu)(a:ZF)(f:Nat->Str)(i:Nat):Prop:=hp.SetOf (uZ pr wd) a (λk=>jA f i k)<|hL f i
abbrev Va(zs:Tj):Nat->Str:=λi=>zs.getD i i5
def RC(R:B.1=Zg)(H:z.1.IsList l us.toArray)(G:us=va l2)(F:l2.map (·.1)=zs)(room:WP zs+1<oy) (fin:∀(J:bu)(tk:Nat),Gn pr wd J z.1.1.size (Va zs) (WP zs)->(∀b o,z.1.get? b=V o->J.get? b=V o)->Q (.ref z.1.1.size) {z with heap:=J,toks:=tk}):Z0 (ZA pr wd) B (call (.type "set") [.ref l]) Q E z:=by
 let len:us.toArray.size=WP zs:=by rw[G,<-F];simp[va]
 refine RA (SA:=λh a i=>Gn pr wd h a (Va zs) i) R H #[λ⟨o,M,S,t,ho,j⟩ m=>#[o,M,S,t,m o ho,j],λ{A E i v C z Q} q lt P k=>?_,λg=>SetOf_congr ((setObjOf_fresh (knd:=uZ pr wd) _).setOf g<|by unfold oy;show mP 06) (λ_=>07) 07]<|by rw[len];show fin
 rw[G]at q;simp![va,En,Zz]at q;let#[p,I,rfl]:=ZK.1 q;let e:p.1=Va zs i:=by rw[<-F];simp[Va,Zk,Zz,I]
 let D:(uZ pr wd).1 p.1 (.str p.1 p.2)=Zl:=strKind_is _ _ _ _;let:=AI (Va zs) i;rw[e]at D ⊢;show d4 (Ze<|(uZ pr wd).5 D<|wpAny_setAddHashed_of (s:={z with toks:=z.4+1}) D 07 P (Z7<|Zb (Zc (Zb (Zb (Zc this 2)<|Zc lt 1)<|Zc (Zh len) 1) 1) room) λO L u=>k _ O L<|SetOf_congr u (λk=>(Rx _ i k).symm) 07)
end
section
variable{O:aN}{X:Cx}
def Yx(aa:A1):E1:=λU h=>(aa U h).bind λxs h1=>match xs with|[.ref i]=>(match h1[i]? with|some (.lst ys)=>(match VZ ys with|some zs=>if (WP zs)+1<oy then .ok (.int<|hL (Va zs) (WP zs)) h1 else .stuck|none=>.stuck)|_=>.stuck)|_=>.stuck
def RD(hh:X.A.1=Zg)(g1:Gl X "len")(m1:X.4 "len"=Zg)(g2:Gl X "set")(m2:X.4 "set"=Zg)(ha:dR O X [a] aa)(hs:ZT [a] X.10=[(Zo,bj a X.10)]):
  ai O X (.Call (.Name "len" p) [.Call (.Name "set" p2) [a] [] pos2] [] pos) (Yx aa):=(λZ s U H Y bD h Q E N K=>by
 calc iD<|Qk N.1 g1 m1 07 ?_;calc vo ?_ 07 07;calc zc ?_;calc iD<|Qk N.1 g2 m2 07 ?_;calc mn ?_ hs 07;refine(ha pos2).run N K λxs W us s1 H1 U1 k n1 r1 j=>?_
 let#[vs,P,qs]:=r1;cases xs with|nil=>show(j).elim|cons x t=>
  cases t with|cons _ _=>cases x<;>show(j).elim|nil=>
   cases x with
   |ref i=>
    let#[w,rfl,ad,rfl,C]:=qs.bM;let#[u,rfl,ru]:=QC P;cases ru;dsimp only at j;cases m:W[i]? with|none=>rw[m]at j;show(j).elim|some ob=>
     rw[m]at j;cases ob with
     |lst M=>
      dsimp only at j;cases B:VZ M with|none=>rw[B]at j;show(j).elim|some I=>
       rw[B]at j;dsimp only at j;split at j
       .rename_i room;let#[ws,e1,r3]:=k.at m C;let#[its,D,pl,_]:=k.1.list<|bZ.of e1;let#[l2,S,R]:=Gk B r3 D;refine RC hh pl.isList S R room λJ tk hS keep=>zd ?_
        let#[o,es,ep,t,ho,F,hd,hel,G,hbb,L,hn]:=hS;let fit:(es.size:Int)<2^63:=by
         let:=AI (Va I) (WP I);let sb:oy<=2^40:=by unfold oy;decide
         lia
        calc call_len_set ho F hd L fit ?_;rw[hn];show j _ _ _ _ #[(k.1.kept (t':=_) keep),k.2,k.3] .refl #[.int _,#[_,07],07]
       .show(j).elim
     |_=>show(j).elim
   |_=>show(j).elim)
end
section
variable{α β:Type}{h h1:IH}{U:aD}
def RE(e:h[n]?=V (.exc c fs)):(bS.exc n U h).fin=.exc n h:=by simp[bS.fin,e]
theorem RF(v)(U):Ja 0 (V v::U) h=.ok v h:=rfl
end
def ka(x:Str)(n:Int):Bool:=decide (x.length<=1000/\ -1000<=n/\n<=1000)
def ka.ok(h:ka x n=Zl):MulOk x n:=by
 simp![ka,decide_eq_true_eq]at h;let#[j,J,k]:=h;refine#[?_,λhn _=>?_,λhn _=>?_]
 .simp;lia
 .let e:(1000:Int)<=(2^63-1)/n:=by rw[vg<|ZU.1 06];lia
  lia
 .let:x.length*n.toNat<=1000*1000:=Nat.mul_le_mul j 05;let m:1000000<sizeLine:=01;unfold Builtin.Str.tooLong;lia
def RG:fW X (f7 .Mult) (λx y H Q=>∃i j,x=.str i/\y=.int j/\ka i j=Zl/\Q (.str<|Txt.mul i j) H):=by intro Z s U H x y v u Q I m B h;let#[i,j,rfl,rfl,C,q]:=h;let#[t,rfl]:=m;let#[k,rfl]:=B;show SB.mul (ka.ok C) λk D=>#[.str<|Txt.mul i j,H,I.tok _,#[_,07],q]
def Qs(x y:IV)(h:IH):Res IV:=match x with|.str i=>(match y with|.int j=>if ka i j then .ok (.str<|Txt.mul i j) h else .stuck|_=>.stuck)|x=>XL x y h
section
variable{O:aN}{X:Cx}
def RJ:dU O X (f7 .Mult) Qs:=by
 intro Z s U H Y F h x y v u Q E N k m K;cases x with
 |str i=>
  let#[L,k,B]:=k;let#[J,m,D]:=m;cases y with
  |int j=>
   let G:=B;let I:=D;subst G I;dsimp only[Qs]at K;split at K
   .rename_i C;show Ql (RG) N.1 k m #[i,j,07,07,C,aL N K 07]
   .show(K).elim
  |_=>show(K).elim
 |_=>show OQ Z s U H Y F h _ y v u Q E N k m K
end
noncomputable def aK (kvs:Wp)(k:Key):Te:=(kvs.find? λkv=>decide (kv.1=k)).map (·.2)
def Vb(e:p.1=k):aK (p::r) k=V p.2:=by simp[aK,e]
def QQ(e:¬p.1=k):aK (p::r) k=aK r k:=by simp[aK,e]
theorem cg.get{K:W.Frag}(k):∀{xs:Wp}{vs:Wt},cg K Y H xs vs->(aK xs k=Zg/\fA vs k=Zg)\/∃v w,aK xs k=V v/\fA vs k=V w/\RV K Y H v w
 |[],_,h=>by let e:=h;subst e;show .inl #[07,07]
 |x::xs,_,h=>by
  let#[v,r,rfl,q,t]:=h;by_cases e:x.1=k
  .show .inr #[x.2,v,Vb e,z3 e,q]
  .rw[QQ e,z4 e];show cg.get k t
theorem cg.snoc{K:W.Frag}(q:RV K Y H v w):∀{xs:Wp}{vs:Wt},cg K Y H xs vs->cg K Y H (xs++[(k,v)]) (vs++[(k,w)])
 |[],_,h=>by let e:=h;subst e;show#[w,[],07,q,07]
 |x::xs,_,h=>by let#[j,r,rfl,m,t]:=h;show#[j,r++[(k,w)],07,m,cg.snoc q t]
def Gp{k:Key}(e:fA vs k=Zg):putK vs k w=vs++[(k,w)]:=by unfold putK;rw[if_neg];rw[Fw,e];show Zx
section
variable{O:aN}{X:Cx}
def Yv:E1:=λ_ h=>.ok (.ref (WP h))<|h++[.aV []]
def RK:ai O X (.Dict [] [] pos) Yv:=(λZ s U H Y j h Q E N K=>by
 let hn:=N.1.aw.fresh<|Zm s.1.1.size;let I1:=N.1.laid (t':=s.4) (λ_ _ q=>Zj _ q) (Zm _)<|Oq s.1 N.1.big;let#[k,n1]:=N.2.alloc (io:=.aV []) hn #[[],Jz,07];let u:aB O X Z (Y++[s.1.1.size]) j (h++[.aV []]) U (upd H s.1.1.size<|.dK []) _:=#[I1,k,N.3.mono n1];let m:(Y++[s.1.1.size])[WP h]?=V s.1.1.size:=by rw[<-N.2.1,ZL<|Zm _];simp
 show wpAny_Dict_empty<|K _ _ _ (Y++[s.1.1.size]) u n1 #[.ref _,07,_,07,m])
def VW:IV->Tv->IH->Res IV
 |.ref i,[y,v],h=>match h[i]? with
  |some (.aV kvs)=>(match eF y with
   |some k=>(match aK kvs k with
    |some w=>.ok w h
    |none=>if (WP kvs)<sizeLine then .ok v (h.set i<|.aV<|kvs++[(k,v)])else .stuck)
   |none=>.stuck)
  |_=>.stuck
 |_,_,_=>.stuck
def RL:nh O X "dict" "dict.setdefault" VW:=by
 intro Z s U H Y bD h x xs v us Q E N R rs K;let#[xv,R,qx]:=R;let#[vs,rv,qs]:=rs;cases x with
 |ref i=>
  match xs,K with
  |[y,y2],K=>
   let#[a,rfl,ha]:=qx;let#[w,G,rfl,qw,F]:=qs.hI;dsimp only[VW]at K;cases J:h[i]? with|none=>rw[J]at K;show Zf K|some ob=>
    rw[J]at K;cases ob with
    |aV D=>
     dsimp only at K;cases S:eF y with|none=>rw[S]at K;show Zf K|some k=>
      rw[S]at K;dsimp only at K;let#[M,m,I]:=N.at J ha;cases wz S qw;cases rv with|@cons _ _ _ _ ru t=>
      cases t with|@cons _ u2 _ _ C t=>
      cases t;cases (R);let#[z,hd,ps,rel,W]:=vX N.1.aw m;let hz:WP ps<=sizeLine:=by rw[<-rel.length];show z
      refine call_meetsIn EC W.typeIs PySem.F.entry_dict_setdefault (PySem.F.args_dict_setdefault_3 _ _ _) (kt_meets_setdefault (Vy X.1 X.w) a (vW ru) hd u2) #[ps,W,hz,λv' L=>?_,λhn h' u hs=>?_]
      .rcases I.get k with⟨p,q⟩|⟨v1,w1,p,q,r⟩
       .let j:=rel.val k;rw[q]at j;rw[dE.none_of j]at L;cases L
       .rw[p]at K;let j:=rel.val k;rw[q,L]at j;show aL (w:=w1) N K r _ _ (N.1.tok _) j
      .rcases I.get k with⟨p,q⟩|⟨v1,w1,p,q,r⟩
       .rw[p]at K;dsimp only at K;split at K
        .rename_i hl;let he:∃q,h'.get? a=V q:=let ⟨q,_,_,hq,_⟩:=u;#[q,hq];let B:(putK M k G).length<=sizeLine:=by rw[Gp q,Z1,I.length];show hl
         let I4:=Fy (t':=s.4+1) N.1 (by rw[m];show eW) hs he<|Fz B hd (rel.put k C) u;let n:bc Y H Y (upd H a<|.dK<|putK M k G):=#[#[[],03],Ext.cw m<|by rw[m];show eW];let#[R4,_]:=N.2.write (io:=.aV<|D++[(k,y2)]) ha m (by rw[m];show eW) #[_,Jz,(congrArg (λP=>cg X.K Y (upd H a<|.dK<|putK M k G) (D++[(k,y2)]) P)<|Gp q).mpr<|cg.mono n _ _<|I.snoc F];show K _ _ _ Y #[I4,R4,N.3.mono n] n #[G,C,RV.mono n _ _ F]
        .show Zf K
       .let j:=rel.val k;rw[q,hn]at j;show Zf j
    |_=>show Zf K
  |[],K=>show Zf K
  |[_],K=>show Zf K
  |_::_::_::_,K=>show Zf K
 |_=>cases xs<;>show Zf K
end
noncomputable def putD (kvs:Wp)(k:Key)(v:IV):Wp:=if (kvs.any λkv=>decide (kv.1=k))=Zl then kvs.map (λkv=>if kv.1=k then(kv.1,v)else kv)else kvs++[(k,v)]
theorem cg.any{K:W.Frag}(k):∀{xs:Wp}{vs:Wt},cg K Y H xs vs->(xs.any λj=>decide (j.1=k))=vs.any λj=>decide (j.1=k)|[],_,h=>by let e:=h;subst e;rfl|x::xs,_,h=>by let#[v,r,rfl,q,t]:=h;rw[qR,qR,cg.any k t]
theorem cg.upd{K:W.Frag}(q:RV K Y H v w):∀{xs:Wp}{vs:Wt},cg K Y H xs vs->cg K Y H (xs.map λj=>if j.1=k then(j.1,v)else j) (vs.map λj=>if j.1=k then(j.1,w)else j)
 |[],_,h=>by let e:=h;subst e;show 07
 |x::xs,_,h=>by
  let#[m,r,rfl,u,t]:=h;rw[ZS,ZS];by_cases e:x.1=k
  .rw[if_pos e,if_pos e];show#[w,_,07,q,cg.upd q t]
  .rw[if_neg e,if_neg e];show#[m,_,07,u,cg.upd q t]
def cg.tP{K:W.Frag}(q:RV K Y H v w)(r:cg K Y H xs vs):cg K Y H (putD xs k v) (putK vs k w):=by
 unfold putD putK;rw[r.any k];split
 .show r.upd q
 .show r.snoc q
section
variable{O:aN}{X:Cx}
def Vi(x y:IV)(h:IH):Res IV:=match x with|.ref i=>(match h[i]? with|some (.aV kvs)=>(match eF y with|some k=>(match aK kvs k with|some v=>.ok v h|none=>.stuck)|none=>.stuck)|_=>.stuck)|_=>.stuck
def RM:v9 O X Vi:=by
 intro F B Z s U H Y bD h x y v u Q E N j G K hs;let#[xv,j,W]:=j;let#[yv,G,qy]:=G;cases x with
 |ref i=>
  let#[a,D,ha]:=W;subst D;dsimp only[Vi]at K;cases m:h[i]? with|none=>rw[m]at K;show(K).elim|some ob=>
   rw[m]at K;cases ob with
   |aV S=>
    dsimp only at K;cases C:eF y with|none=>rw[C]at K;show(K).elim|some k=>
     rw[C]at K;dsimp only at K;let#[ws,D,R]:=N.at m ha;cases wz C qy;cases (j);let#[z,hd,ps,rel,L]:=vX N.1.aw D;rcases R.get k with⟨p,q⟩|⟨v1,w1,p,q,r⟩
     .rw[p]at K;show(K).elim
     .rw[p]at K;let J:=rel.val k;rw[q]at J;let#[P,M,I]:=dE.some_of J;show ze (x:=P) L.typeIs PySem.F.slot_dict_getitem.1 (wpAny_getItem_of (vW G) L.mapOf M #[07,aL N K r _ _ (N.1.tok _) I]) hs
   |_=>show(K).elim
 |_=>show(K).elim
noncomputable def jB (x c:IV)(h:IH):Res IV:=match c with|.ref i=>(match h[i]? with|some (.aV kvs)=>(match eF x with|some k=>.ok (.bl (aK kvs k).isSome) h|none=>.stuck)|_=>.stuck)|_=>.stuck
def RN:dU O X (fb .In) jB:=by
 intro Z s U H Y W h x y v u Q E N j F K;let#[S,j,L]:=j;let#[R,F,M]:=F;cases y with
 |ref i=>
  let#[a,C,ha]:=M;subst C;dsimp only[jB]at K;cases m:h[i]? with|none=>rw[m]at K;show(K).elim|some ob=>
   rw[m]at K;cases ob with
   |aV D=>
    dsimp only at K;cases B:eF x with|none=>rw[B]at K;show(K).elim|some k=>
     rw[B]at K;dsimp only at K;let#[J,C,G]:=N.at m ha;cases wz B L;cases (F);let#[z,hd,ps,rel,I]:=vX N.1.aw C;calc wpAny_in_of (vW j) hd I.mapOf ?_;rw[<-(rel.val k).j6];let P:(fA J k).isSome=(aK D k).isSome:=by rcases G.get k with⟨p,q⟩|⟨v1,w1,p,q,r⟩<;>rw[p,q]<;>rfl
     rw[P];show aL N K 07 _ _ (N.1.tok _) 07
   |_=>show(K).elim
 |_=>show(K).elim
def YM:IV->IV->IV->aD->IH->bS
 |.ref i,iv,v,U,h=>match h[i]? with
  |some (.aV kvs)=>(match eF iv with
   |some k=>if (WP kvs)<sizeLine then .next U (h.set i<|.aV<|putD kvs k v)else .stuck
   |none=>.stuck)
  |_=>.stuck
 |_,_,_,_,_=>.stuck
def jC(o i:E1):G1:=λv U h=>rS U (o U h) λov h1=>rS U (i U h1) λiv J=>YM ov iv v U J
def RP(ho:ai O X oe mo)(hi:ai O X ie mi)
  (ha:∀v,kW (.Subscript oe ie pos) X.10 v=(do
   let ov<-iE [v] (bj oe X.10)
   let iv<-iE [v,ov] (bj ie X.10)
   mV pos
   iE [v,ov,iv] (setItem ov iv v)
   release [v,ov,iv] [])):jb O X (.Subscript oe ie pos) (jC mo mi):=by
 intro Z s U H Y bD h v u Q E N r K;rw[ha];refine Ze<|d4<|cP ho N K λov h1 ou s1 H1 U1 N1 n1 r1 K1=>?_
 refine Ze<|d4<|cP hi N1 K1 λiv J iu s2 M I G n2 r2 j=>?_
 let r':RU X.K I M v u:=(r.mono n1).mono n2;let#[ox,ro,qo]:=r1.mono n2;let#[ix,ri,qi]:=r2;let#[P,rvx,qv]:=r';calc Ze<|jO<|Ze<|d4 ?_;cases ov with
 |ref i=>
  let#[a,rfl,D]:=qo;dsimp only[YM]at j;cases S:J[i]? with|none=>rw[S]at j;show(j).elim|some ob=>
   rw[S]at j;cases ob with
   |aV W=>
    dsimp only at j;cases R:eF iv with|none=>rw[R]at j;show(j).elim|some k=>
     rw[R]at j;dsimp only at j;split at j
     .rename_i hl;let#[L,m,F]:=G.at S D;cases wz R qi;cases (ro);let#[z,hd,ps,rel,dd]:=vX G.1.aw m;let hz:WP ps<=sizeLine:=by rw[<-rel.length];show z
      let C:(putK L k P).length<=sizeLine:=by let h1:=Ol L k P;let J:=F.length;show Zb (Zb h1<|Zc (Zh J) 1) hl
      refine wpAny_setItem_pairs (hsz:=hz) (vW ri) dd λh' B hs=>?_
      let he:∃q,h'.get? a=V q:=let ⟨q,_,_,hq,_⟩:=B;#[q,hq];let I4:=Fy (t':=s2.4+1) G.1 (by rw[m];show eW) hs he<|Fz C hd (rel.put k rvx) B;let n:bc I M I (upd M a<|.dK<|putK L k P):=#[#[[],03],Ext.cw m<|by rw[m];show eW];let#[R3,_]:=G.2.write (io:=.aV<|putD W k v) D m (by rw[m];show eW) #[_,Jz,cg.tP (RV.mono n _ _ qv)<|cg.mono n _ _ F];show wpAny_release<|j _ U _ I #[I4,R3,G.3.mono n] n
     .show(j).elim
   |_=>show(j).elim
 |_=>show(j).elim
end
def leZ(a b:Int):Bool:=decide (a<=b)
def XW(ns:To):To:=ns.mergeSort leZ
def RQ(ns):(XW ns).Pairwise (· <= ·):=by let:=List.pairwise_mergeSort (le:=leZ) (λa b c j J=>by simp![leZ]at *;lia) (λa b=>by simp![leZ];lia) ns;show this.imp λh=>by simpa[leZ]using h
def Gq(p:ns'.Perm ns)(s:ns'.Pairwise (· <= ·)):ns'=XW ns:=(List.Perm.eq_of_pairwise (λa b _ _ j J=>gU j J) s (RQ ns) (p.trans (List.mergeSort_perm ns leZ).symm))
theorem Xw:∀{us:Tu}{ns:To},i6 us ns->Vals (ns.map bA.int) us|_,_,.nil=>.nil|_,_,.cons _ _ r=>.cons #[_,07]<|Xw r
theorem wB{K:W.Frag}:∀ns:To,aA K Y H (ns.map IV.int) (ns.map bA.int)|[]=>07|_::ns=>#[_,_,07,07,wB ns]
def pY(xs:Tv):Option (Tv):=match JT xs with|some ns=>V<|(XW ns).map .int|none=>Zg
section
variable{O:aN}{X:Cx}
def XX:IV->IH->Res IV
 |.ref i,h=>match h[i]? with
  |some (.lst xs)=>if (WP xs)<64 then(match pY xs with
   |some ys=>.ok (.ref (WP h))<|h++[.lst ys]
   |none=>.stuck)else .stuck
  |_=>.stuck
 |_,_=>.stuck
def RR:QE O X (.builtin "sorted") (bx XX):=(VH λZ s U H Y bD h x xv u Q E N R qx K=>by
 cases x with
 |ref i=>
  let#[a,D,ha]:=qx;subst D;cases R;dsimp only[XX]at K;cases C:h[i]? with|none=>rw[C]at K;show(K).elim|some ob=>
   rw[C]at K;cases ob with
   |lst xs=>
    dsimp only at K;split at K
    .rename_i j;let#[vs,D,I]:=N.at C ha;let#[m,J,pl,hz]:=N.1.list<|bZ.of D;let L:WP m=WP xs:=by rw[<-J.length,I.length]
     let P:64<=sizeLine:=01;let kX:=N.1.aw.fresh<|fP _;unfold pY at K;cases F:JT xs with
     |some ns=>
      rw[F]at K;let B:=V8 F I J;let ln:=Y8 B;refine sorted_ints pl.isList B (Zb (Zc (Zh L) 1) j) λk M W G hs=>?_
      let en:=Gq G hs;subst en;let#[e,S]:=sortedAll_at s.1 m k;let hl:((XW ns).map bA.int).length<=sizeLine:=by rw[Zn,G.length_eq];show Z7<|Zb (Zb (Zc (Zb (Zh ln.symm)<|Zh L) 1) j) P
      let I':=N.1.laid (o:=.lst<|(XW ns).map bA.int) (t':=s.4) (λ_ _=>sortedAll_old) (fP _) #[hl,k.1,e,Xw W,S];show fE N K (s.1.1.size+1) kX #[_,Jz,wB _] _ _ I' 07
     |none=>rw[F]at K;show(K).elim
    .show(K).elim
   |_=>show(K).elim
 |_=>show(K).elim)
end
def QI(f:Nat->Int):Nat->Int|0=>0|1=>f 0|j+2=>if f (j+1)<QI f (j+1)then f (j+1)else QI f (j+1)
def AJ(f)(k:0<j):QI f (j+1)=if f j<QI f j then f j else QI f j:=by cases j with|zero=>show absurd 06<|jM _|succ j=>rfl
theorem Gr(f):∀k,QI f (k+1)=f (argBest (λi j=>decide (f i<f j)) k)|0=>07|k+1=>by rw[AJ f<|iX k,Gr f k];change _=f (if decide (f (k+1)<f (argBest _ k))=Zl then k+1 else argBest _ k);simp;split<;>rfl
section
variable{pr:cy}{wd:bV}{B:cz}{E:aQ}{z:Z5}{l:ZF}{us:Tu}{ns:To}{Q:aQ}
def RS(O:B.1=Zg)(F:z.1.IsList l us.toArray)(hi:i6 us ns)(D:ns≠[])
  (L:∀v J tk,(∃u,v=.int (QI (λi=>ns.getD i 0) (WP ns)) u)->(∀b o,z.1.get? b=V o->J.get? b=V o)->Q v {z with heap:=J,toks:=tk}):
  Z0 (ZA pr wd) B (call (.builtin "min") [.ref l]) Q E z:=by
 let#[P,C,_]:=id F;let lt:=Z9 C;let k:=Y8 hi;let j:0<WP ns:=List.length_pos_iff.2 D;let sz:us.toArray.size=WP us:=ZV ..;let G:∀(i:Nat)(v:Zv),us.toArray[i]?=V v->∃t,v=.int ((λi=>ns.getD i 0) i) t:=λi v q=>zr hi i v<|by simpa using q
 refine call_min_walk (og F #[_,[_,l],[_],_,_,_,_,07,Walks.list (A:=B.in1) O _ l (Zu lt) us.toArray,#[#[_,Zw _ 07,07,07],F.push _],λb m=>?_,by rw[sz];show Zb j<|Zh k.symm,zw (λi=>ns.getD i 0) G,λv H tk I M=>?_])
 .change b<(z.1.push _).1.size;rw[rC];rcases ZG.1 m with rfl|m
  .show ZZ _
  .cases ZB.1 m;show iB lt
 .let#[u,rfl]:=G _ _ I;let e:us.toArray.size-1+1=WP ns:=by rw[sz];show ZW (Zb (Zh<|o5<|Zb j<|Zh k.symm)<|Zh k)<|Zb (Zh k.symm)<|o4<|Zm _
  refine L _ H tk #[u,?_] λb o e=>M b o (λq=>Zu (Z9 e)<|ZB.1 q)<|Zj _ e
  rw[<-e,Gr]
end
section
variable{O:aN}{X:Cx}
def VS:IV->IH->Res IV
 |.ref i,h=>match h[i]? with
  |some (.lst xs)=>(match JT xs with
   |some ns=>if ns=[]then .stuck else .ok (.int<|QI (λi=>ns.getD i 0) (WP ns)) h
   |none=>.stuck)
  |_=>.stuck
 |_,_=>.stuck
def RT(I:X.A.1=Zg):QE O X (.builtin "min") (bx VS):=(VH λZ s U H Y bD h x S u Q E N C M K=>by
 cases x with
 |ref i=>
  let#[a,m,ha]:=M;subst m;cases C;dsimp only[VS]at K;cases j:h[i]? with|none=>rw[j]at K;show(K).elim|some ob=>
   rw[j]at K;cases ob with
   |lst xs=>
    dsimp only at K;cases k:JT xs with|none=>rw[k]at K;show(K).elim|some ns=>
     rw[k]at K;dsimp only at K;split at K
     .show(K).elim
     .rename_i B;let#[P,m,F]:=N.at j ha;let#[G,L,pl,R]:=N.1.list<|bZ.of m;refine RS I pl.isList (V8 k F L) B λv J W ⟨t,ev⟩ D=>?_
      subst ev;show aL N K 07 _ _ (N.1.kept D) #[t,07]
   |_=>show(K).elim
 |_=>show(K).elim)
end
theorem aA.erase{K:W.Frag}:∀{xs:Tv}{vs:Ub}(k:Nat),aA K Y H xs vs->aA K Y H (xs.eraseIdx k) (vs.eraseIdx k)|[],vs,k,h=>by cases (h);show 07|_::_,_,0,h=>by let#[v,r,rfl,q,t]:=h;show t|_::_,_,k+1,h=>by let#[v,r,rfl,q,t]:=h;show#[v,r.eraseIdx k,07,q,aA.erase k t]
section
variable{O:aN}{X:Cx}
def kc:IV->Tv->IH->Res IV
 |.ref i,[.int k],h=>match h[i]? with
  |some (.lst xs)=>if 0<=k/\k<1000000 then(match xs[k.toNat]? with
   |some y=>.ok y<|h.set i<|.lst<|xs.eraseIdx k.toNat
   |none=>.stuck)else .stuck
  |_=>.stuck
 |_,_,_=>.stuck
def RW:nh O X "list" "list.pop" kc:=by
 intro Z s U H Y bD h x xs v us Q E N j S K;let#[xv,j,P]:=j;let#[W,M,J]:=S;cases x with
 |ref i=>
  match xs,K with
  |[y],K=>
   cases y with
   |int k=>
    let#[a,rfl,ha]:=P;let#[w,rfl,L]:=J.bM;cases (show w=.int k from L);dsimp only[kc]at K;cases m:h[i]? with|none=>rw[m]at K;show Zf K|some ob=>
     rw[m]at K;cases ob with
     |lst B=>
      dsimp only at K;split at K
      .rename_i I;cases u:B[k.toNat]? with|none=>rw[u]at K;show Zf K|some y=>rw[u]at K;let#[G,D,F]:=N.at m ha;let#[z,C,R]:=F.get u;let lt:k.toNat<WP G:=(Zp.1 C).1;show wy (Og (X:=X.bo E)) N.1 j M #[a,G,k,k.toNat,z,07,07,D,05,05,sJ I.1 05,C,lD (ys:=B.eraseIdx k.toNat) N K ha D (F.erase _) R]
      .show Zf K
     |_=>show Zf K
   |_=>show Zf K
  |[],K=>show Zf K
  |y::_::_,K=>cases y<;>show Zf K
 |_=>cases xs with|nil=>show Zf K|cons y r=>cases y<;>cases r<;>show Zf K
noncomputable def XD:IV->Tv->IH->Res IV
 |.ref i,[.ref j],h=>match h[i]? with
  |some (.lst xs)=>(match h[j]? with
   |some (.lst ys)=>if (WP xs)+WP ys<=sizeLine then .ok .ah (h.set i<|.lst<|xs++ys)else .stuck
   |_=>.stuck)
  |_=>.stuck
 |_,_,_=>.stuck
def RX:nh O X "list" "list.extend" XD:=by
 intro Z s U H Y bD h x xs v us Q E N m rs K;let#[xv,m,S]:=m;let#[vs,R,L]:=rs;cases x with
 |ref i=>
  match xs,K with
  |[y],K=>
   cases y with
   |ref j=>
    let#[a,rfl,ha]:=S;let#[w,rfl,b,rfl,J]:=L.bM;dsimp only[XD]at K;cases B:h[i]? with|none=>rw[B]at K;show Zf K|some ob=>
     rw[B]at K;cases ob with
     |lst G=>
      dsimp only at K;cases k:h[j]? with|none=>rw[k]at K;show Zf K|some I=>
       rw[k]at K;cases I with
       |lst ys=>
        dsimp only at K;split at K
        .rename_i M;let#[P,C,D]:=N.at B ha;let#[u,W,F]:=N.at k J;show wy (Od (X:=X.bo E)) N.1 m R #[a,b,P,u,07,07,C,W,by rw[D.length,F.length];show M,lD (ys:=G++ys) N K ha C (D.append F) 07]
        .show Zf K
       |_=>show Zf K
     |_=>show Zf K
   |_=>show Zf K
  |[],K=>show Zf K
  |y::_::_,K=>cases y<;>show Zf K
 |_=>cases xs with|nil=>show Zf K|cons y r=>cases y<;>cases r<;>show Zf K
def AK(k:Int):Zv->Bool|.int a _=>a==k|_=>Zo
theorem AL:∀(us:Tu)(ns:To),WP us=WP ns->(∀i v,us[i]?=V v->∃t:Tok,v=m4 (ns.getD i 0) t)->i6 us ns|[],[],_,_=>.nil|u::us,n::ns,hl,h=>by let#[t,e]:=h 0 u 07;cases (e);show .cons n t (AL us ns (by simpa using hl) λi v q=>h (i+1) v q)|[],_::_,hl,_=>by cases hl|_::_,[],hl,_=>by cases hl
def oS(aa:A1):E1:=λU h=>(aa U h).bind λxs h1=>match xs with|[.int j]=>if 0<=j/\j<=1000 then .ok (.ref (WP h1)) (h1++[.lst<|aR 0 j])else .stuck|_=>.stuck
def VT(j):aR 0 j=((Z6 j.toNat).map λk=>((k:Nat):Int)).map IV.int:=by simp[aR]
def RY(hh:X.A.1=Zg)(g1:Gl X "list")(m1:X.4 "list"=Zg)(g2:Gl X "range")(m2:X.4 "range"=Zg)(ha:dR O X [a] aa)(hs:ZT [a] X.10=[(Zo,bj a X.10)]):
  ai O X (.Call (.Name "list" p) [.Call (.Name "range" p2) [a] [] pos2] [] pos) (oS aa):=(λZ s U H Y bD h Q E N K=>by
 calc iD<|Qk N.1 g1 m1 07 ?_;calc mn ?_ 07 07;calc zc ?_;calc iD<|Qk N.1 g2 m2 vt ?_;calc mn ?_ hs 07;refine(ha pos2).run N K λxs h1 us B H1 U1 G n1 r1 m=>?_
 let#[vs,rv,W]:=r1;match xs,m with
 |[.int j],m=>
  let#[w,rfl,qw]:=W.bM;cases (show w=.int j from qw);let#[u,rfl,t,rfl]:=QC rv;dsimp only at m;split at m
  .rename_i L;calc yQ<|zd ?_;let I2:=G.1.kept (h':=B.1.push {cls:=.type "range",data:=.fields (bT [.int 0 B.4,.int j t,.int 1<|B.4+1])}) (t':=B.4+1+1) λb o e=>Zj _ e
   refine call_list_range (n:=j.toNat) hh (Zw _ 07) ?_ ?_ 05 λS tk F R keep C D=>?_
   .show small_one 01 01 05 00
   .rw[yN];split<;>(first|lia|show gU (jn _) (ZH (Z3 (rn L.1)) (ZU.mp 06))|omega)
   .let sb:(1000:Nat)<=sizeLine:=01;let I:i6 F.1 ((Z6 j.toNat).map λk=>((k:Nat):Int)):=by
     refine AL _ _ (by simp[D.1]) λi v J=>?_
     let#[t,rfl]:=D.2 i v<|by simpa using J
     let M:i<j.toNat:=by let:=(Zp.1 J).1;simp![oK,D.1]at this;show this
     show#[t,by simp[Zk,M]]
    rw[VT]at m;let kX:H1 (B.1.1.size+1)=Zg:=G.1.aw.fresh<|fP _;let P:(B.1.push {cls:=.type "range",data:=.fields (bT [.int 0 B.4,.int j t,.int 1<|B.4+1])}).1.size=B.1.1.size+1:=rC ..;rw[P]at C ⊢;let I':=G.1.laid (a:=B.1.1.size+1) (o:=.lst<|((Z6 j.toNat).map λk=>((k:Nat):Int)).map bA.int) (h':=S) (t':=tk) (λb o e=>keep b o<|Zj _ e) (fP _) #[by simp;lia,F.1,R,Xw I,by simpa using C];show fE G m (B.1.1.size+1) kX #[_,Jz,wB _] _ _ I' 07
  .show Zf m
 |[],m=>show Zf m
 |[.ah],m=>show Zf m
 |[.bl _],m=>show Zf m
 |[.ref _],m=>show Zf m
 |[.str _],m=>show Zf m
 |[.tup _],m=>show Zf m
 |[.cG _],m=>show Zf m
 |x::_::_,m=>cases x<;>show Zf m)
end
section
variable{prog:cy}{w:bV}{A:cz}{E:aQ}{s:Z5}
def AM(j:s.1.IsTupleIter it t i)(H:s.1.IsTuple t items) (h:match items[i]? with|some x=>∀h',h'.IsTupleIter it t (i+1)->mX it s.1 h'->Q x {s with heap:=h'}|none=>aI A s.1/\∀h' e,gB it s.1 h'->(∃o,h'.get? e=V o/\o.1=.type "StopIteration")->E (.ref e) {s with heap:=h'}):Z0 (ZA prog w) A (zl<|.ref it) Q E s:=by let#[L,m,G,k]:=id j;let#[I,u,_,J,D]:=H;unfold zl;calc Ze<|sy (name:=eA "__next__") j.typeIs F.slot_tuple_iterator_next<|sF F.slot_tuple_iterator_next j.typeIs F.entry_tuple_iterator_next ?_<|F.args_tuple_iterator_next_1 _;change Z0 _ A.in1 (field (.ref it) 0>>=_) _ _ s;calc Ze<|ft m k (x:=.ref t) 07 ?_;change Z0 _ A.in1 (if (gF t==dO)=Zl then _ else _) _ _ s;rw[if_neg<|show ¬(gF t==dO)=Zl from Zx];change Z0 _ A.in1 (field (.ref it) 1>>=_) _ _ s;calc Ze<|ft m k (x:=.int i 0) 07 ?_;change Z0 _ A.in1 (q7 (.ref t)>>=_) _ _ s;calc Ze<|om u D ?_;simp![jP];cases B:items[i]? with|some x=>rw[B]at h;calc Ze<|lY m k 03<|Zs #[x,07,Zs<|h _ #[_,l8 _ m<|rF<|kH k _,(vv ..).trans G,?_]<|vF ..];rw[kH k];simp[dN]|none=>rw[B]at h;calc Ze<|kU<|Ze<|lY m k 03 ?_;let C:=(vF s.1 it<|ij λx=>x.setIfInBounds 0 dO).extBut;show Ya (h.1.but C m k 03) C h.2
def aI.ne(c:aI A h)(g:h.get? e=V o)(d:o.3=.fields vs)(n:vs[2]?≠V .none):e∉jt A:=(λz=>by cases c with|calm q=>simp[jt,q]at z|warm q g2 d2 x=>simp[jt,q]at z;subst z;rw[g]at g2;cases g2;rw[d]at d2;cases d2;show n x)
end
theorem RZ{prog:cy}{w:bV}{A:cz}(it l:ZF)(u:l≠it)(items:Th):Draws prog w A it (it::l::jt A) items.size (λi v=>items[i]?=V v) (λi h=>(h.IsTupleIter it l i/\h.IsTuple l items)/\aI A h) where
 live:=λ_ _ st=>let ⟨o,ho,_⟩:=st.1.1;#[o,ho]
 frame:=λ_ _ _ st m=>#[#[st.1.1.at λo e=>m it 03 o e,let ⟨o,e,r⟩:=st.1.2;#[o,m l 03 o e,r]],st.2.at λb F=>m b<|by simp[F]]
 item:=λi s Q E B st G=>AM st.1.1 st.1.2 (by rw[getElem?_pos items i B];let#[o,ho,_,hd]:=id st.1.1;show λC k j=>G _ C s.4 (getElem?_pos items i B) #[#[k,st.1.2.extBut j.extBut u],st.2.but j.extBut ho hd 03] j)
 done:=λs Q E st D=>AM st.1.1 st.1.2<|by rw[getElem?_neg items items.size<|jM _];show#[st.2,D]
theorem R0{prog:cy}{w:bV}{A:cz}(it l:ZF)(i:Nat)(items:Th)(m:items[i]?=Zg):Draws prog w A it (it::l::jt A) i (λ_ _=>True) (λj h=>j=i/\(h.IsTupleIter it l i/\h.IsTuple l items)/\aI A h) where
 live:=λ_ _ st=>let ⟨o,ho,_⟩:=st.2.1.1;#[o,ho]
 frame:=λ_ _ _ st k=>#[st.1,#[st.2.1.1.at λo e=>k it 03 o e,let ⟨o,e,r⟩:=st.2.1.2;#[o,k l 03 o e,r]],st.2.2.at λb B=>k b<|by simp[B]]
 item:=λj s Q E D st C=>by let:=st.1;lia
 done:=λs Q E st u=>AM st.2.1.1 st.2.1.2<|by rw[m];show#[st.2.2,u]
open AutoSeq1 (wpAny_loadPart') in
theorem R7(l)(items)(n)(aV)(sl):
  Meets (eU.«enumerate.__new__» #[[.type "enumerate",.ref l],[]]) (λ_ R s=>s.1.get? l=V {cls:=.type "tuple",dict:=aV,data:=.seq items n,slots:=sl} /\
   R (.ok<|.ret<|.ref (s.1.push {cls:=.type "tuple_iterator",data:=.fields (bT [.ref l,.int 0 0])}).1.size)
    {s with heap:=(s.1.push {cls:=.type "tuple_iterator",data:=.fields (bT [.ref l,.int 0 0])}).push {cls:=.type "enumerate",data:=.fields (bT [.none,.bool Zo,.ref s.1.1.size,dN 0,.none,.none])} }):=
 .of_wp λprog w A R s h=>by
  let#[hp,g,d,tk,os]:=s;let#[hl,h]:=h;let hsub:=sub_enumerate;let hT:Heap.IsTuple (Shared.heap #[hp,g,d,tk,os]) l items:=#[_,hl,07,n,07]
  wp_walk using sC hl
  refine wpAny_stack_any λst=>Zs ?_
  split
  .rename_i c _ _ _ _ _;cases (c==m3 "enumerate")<;>(wp_walk using sC hl,uT hT;show#[_,07,h])
  .wp_walk using sC hl,uT hT
   show#[_,07,h]
section
variable{prog:cy}{w:bV}{A:cz}{E:aQ}{s:Z5}
def R8(C:s.1.IsTuple l items) (h:∀h',IsEnum h' (s.1.1.size+1) s.1.1.size 0 .none->h'.IsTupleIter s.1.1.size l 0->(∀b o,s.1.get? b=V o->h'.get? b=V o)->Q (.ref<|s.1.1.size+1) {s with heap:=h'}):Z0 (ZA prog w) A (call (.type "enumerate") [.ref l]) Q E s:=by
 let#[#[c,aV,m,u],D,B,n,hd]:=C;cases (show c=.type "tuple" from B);cases (show m=.seq items n from hd);calc callType_new F.called_enumerate 01 (F.typeCall_enumerate_1 _) (F.newCall_enumerate_1 _) (λobj=>F.args_object_init_2 obj _) F.entry_enumerate_new (R7 l items n aV u) #[D,?_];let k:(s.1.push {cls:=.type "tuple_iterator",data:=.fields (bT [.ref l,.int 0 0])}).1.size=s.1.1.size+1:=oA ..;change _/\_;rw[k];let j:IsEnum ((s.1.push {cls:=.type "tuple_iterator",data:=.fields (bT [.ref l,.int 0 0])}).push {cls:=.type "enumerate",data:=.fields (bT [.none,.bool Zo,.ref s.1.1.size,dN 0,.none,.none])}) (s.1.1.size+1) s.1.1.size 0 .none:=by let:=Zw (s.1.push {cls:=.type "tuple_iterator",data:=.fields (bT [.ref l,.int 0 0])}) (o:={cls:=.type "enumerate",data:=.fields (bT [.none,.bool Zo,.ref s.1.1.size,dN 0,.none,.none])}) 07;rw[k]at this;show this
 show#[#[_,j,07],h _ j #[_,Zj _<|Zw _ 07,07,07] λb o x=>Zj _<|Zj _ x]
end
section
variable{O:aN}{X:Cx}
def pZ(K:W.Frag)(a:ZF):It:=#[λi H=>∃xs x,eL K H a xs/\xs[i]?=V x,λi H y H'=>∃p x,H p=Zg/\y=.ref p/\H'=upd H p (.tup [.int (i:Int),x])/\∀xs,eL K H a xs->xs[i]?=V x,λi H=>∃xs,eL K H a xs/\WP xs<=i]
theorem R9{P:cy}{w:bV}{K:W.Frag}{es:Td}{k:Nat}{p:Pos}(a it e:ZF)(D:e≠it):Turn P w K (.Tuple es k p) (pZ K a) [e,it] e (λi h=>(∃old,IsEnum h e it (i:Int) old)/\h.IsTupleIter it a i) where
 mem:=03
 obj:=λi h st b O=>by
  let#[#[old,m],o,e1,c,d]:=st;simp![ZG,kB,or_false]at O;rcases O with rfl|rfl
  .show#[_,m,λv z=>by let z':vJ _=td v:=z;cases z']
  .show#[o,e1,λv z=>by rw[d]at z;cases z]
 keep:=λi h h' st k=>#[let ⟨old,m⟩:=st.1;#[old,k e 03 _ m],st.2.at λo e=>k it 03 o e]
 item:=by
  intro X hP hw hK S i Z s U H E I Q st hg;subst hP hw hK;let#[#[old,m],B]:=st;let#[xs,x,M,R]:=hg;let#[j,rv,pl,hz]:=I.tuple M;let G:s.1.IsTuple a j.toArray:=pl;let#[u,hu,ru]:=rv.get R;let fe:=Q e 03;let fi:=Q it 03;let#[oi,F,ci,di]:=id B;let nea:a≠it:=λz=>by
   let#[oa,ha,ca,_]:=G;rw[z,F]at ha;cases ha;rw[ci]at ca;injection ca with z1
   show absurd z1 01
  let nee:e∉it::a::jt X.A.in1:=λz=>by
   simp![ZG]at z;rcases z with z|z|z
   .show D z
   .let#[oa,ha,ca,_]:=G;let C:s.1.get? e=V _:=m;rw[<-z,C]at ha;cases ha;injection ca with z1
    show absurd z1 01
   .show aI.ne (I.cA S).in1 m 07 03 z
  let lti:i<j.toArray.size:=by let:=(Zp.1 hu).1;simpa using this
  refine wpAny_pyNext_enum_itemD (RZ (A:=X.A.in1) it a nea j.toArray) m #[#[B,G],(I.cA S).in1] lti D nee λy h' tk hy C Y ht hsz kk=>?_
  let ey:y=u:=by
   let J:j[i]?=V y:=by simpa using hy
   rw[hu]at J;cases J;rfl
  subst ey;let L:=Y.1.1;calc#[_,07,Et C λJ he2 sb=>?_];let ng:=Z9 m;let#[o,q,r]:=L;let#[I1,f1]:=Gh (t':=tk+1) I fe fi ng (Z9 F) (λb o h1 h3 q=>(sb.2 b h1).trans<|kk b o h1 h3 q) ((sb.2 _<|ZY ng).trans ht) ru;show#[.ref s.1.1.size,_,I1,07,#[s.1.1.size,x,I.aw.fresh<|Zm _,07,07,λys hy=>by rw[I.gG hy M];show R],#[#[_,he2],o,(sb.2 it<|bP D).trans q,r],f1]
 done:=by intro X hP hw hK S i Z s U H E I Q st hg;subst hP hw hK;let#[#[old,m],B]:=st;let#[xs,M,R]:=hg;let#[j,rv,p,hz]:=I.tuple M;let#[f0,f1,f2,f3,f4,f5]:=Q it 03;let hl:=rv.length;let G:s.1.IsTuple a j.toArray:=p;show wpAny_pyNext_enum_endD (R0 (A:=X.A.in1) it a i j.toArray<|by simp;show Zb (Zh hl.symm) R) m #[07,#[B,G],(I.cA S).in1] λh' eb=>#[07,I.turned (t':=s.4) (λb o O e=>eb b o O e) f0 f1 f3 f4 f5]
 self:=λ_ _ _ _ _ st h=>let ⟨_,m⟩:=st.1;uU m h
def Vw:Tv->IH->Res jW|[.tup xs],h=>.ok #[Qx 0 xs,λ_=>True] h|vs,h=>V9 vs h
def Sa(ha:eL X.K H₀ a vs)(r:aA X.K Y H₀ xs vs):gh O X.K Y H₀ (pZ X.K a) #[Qx 0 xs,λ_=>True]:=by
 refine#[λk v h H J m R F B=>?_,λk h H J m R F B=>?_]
 .let j:(Qx 0 xs)[k]?=V v:=B;rw[Y1]at j;let#[x,C,rfl]:=ZK.1 j;let M:=aA.mono m _ _ r;let sa:=m.2.tF ha;let#[u,G,L]:=M.get C;calc#[#[vs,u,sa,G],λy S E=>?_];let#[p,Q,D,rfl,rfl,E]:=E;let:=E vs sa;rw[G]at this;cases this;let#[P,I]:=R.grow (o:=.tup [.int (k:Int),u]) D;calc#[P,I,p,_,07,eL.of Jz,#[_,_,07,?_,_,_,07,RV.mono I _ _ L,07]];change bA.int (k:Int)=bA.int ((0+k:Nat):Int);simp
 .show#[vs,m.2.tF ha,by rw[r.length,<-VN xs 0];show B]
def Sb(P:Gl X "enumerate")(hm:X.4 "enumerate"=Zg)(ha:dR O X [a] ma)(hs:ZT [a] X.10=[(Zo,bj a X.10)]:=by rfl):jc O X (.Tuple es kt pt) (.Call (.Name "enumerate" p) [a] [] pos) (cR Vw ma):=by
 intro Z s U H Y m h Q E N K;by_cases M:∃xs B,ma m h=.ok [.tup xs] B
 .let#[xs,B,F]:=M;calc Call_<|Qk N.1 P hm boot_enumerate<|mn ?_ hs 07;calc ha pos Z s U H Y m h _ E N ?_;unfold cR at K;rw[F]at K ⊢;intro us k H1 W j n1 r1;let#[ws,rv,qs]:=r1;let#[w,e1,q]:=qs.bM;subst e1;let#[b,C,rfl,I,rb]:=q;let#[u,rfl,ru]:=QC rv;cases ru;let#[D,S,pl,hz]:=j.1.tuple I;refine R8 (show k.1.IsTuple b D.toArray from pl) λJ L G kp=>?_
  calc uU L<|K _ _ H1 W #[j.1.kept (t':=k.4) kp,j.2,j.3] n1 ?_;calc#[k.1.1.size+1,[k.1.1.size+1,k.1.1.size],_,pZ X.K b,07,R9 b k.1.1.size (k.1.1.size+1)<|ZY<|ZZ _,#[#[_,L],G],λc R=>?_,Sa I rb];simp![ZG,kB,or_false]at R;rcases R with rfl|rfl
  .show j.1.c9 (fP _)<|j.1.aw.fresh<|fP _
  .show j.1.c9 (Zm _)<|j.1.aw.fresh<|Zm _
 .calc Ra (es:=es) (kt:=kt) (pt:=pt) P hm ha hs Z s U H Y m h Q E N ?_;let e:cR V9 ma m h=cR Vw ma m h:=by
   unfold cR;cases F:ma m h with
   |ok C B=>
    change V9 C B=Vw C B;unfold Vw;split
    .show absurd #[_,_,F] M
    .rfl
   |_=>rfl
  rw[e];show K
end
noncomputable def QW (a:u9):Wx:=match a with| {posonlyargs:=[],args:=[p],vararg:=Zg,kwonlyargs:=[],kw_defaults:=[],kwarg:=Zg,defaults:=[]}=>V p.1|_=>Zg
noncomputable abbrev nj (q:Str):Str:=q++".<locals>."++"<lambda>"
abbrev hV(q:Str)(params:u9)(body:Expr)(scope:fg)(cl:Wq)(pm ctv:Zv)(c:ZF):Obj:=W.kla_obj "<lambda>" (nj q) params body scope cl pm c ctv
def QD(mg:Str->Tb)(base:bu):Prop:=∃bm ob,mg "__builtins__"=V (.ref bm)/\bm≠ot/\bm≠Z4/\base.get? bm=V ob/\ob.1=.type "module"/\ob.2=V ot/\ob.3=.plain
def QR.rec(l:QR H q cv)(aw:c8 P w H h):h.CodeRec cv (nj q):=by let#[c,m,C,t,k,u,j,B]:=l;show#[c,m,C,t,k,(aw c _ u).1,j,B]
def QR.mono(C:∀b o u,H b=V (.bK o u)->H' b=V (.bK o u))(l:QR H q cv):QR H' q cv:=by let#[c,k,B,t,j,m,r]:=l;show#[c,k,B,t,j,C _ _ _ m,r]
theorem Gs:∀(l:Tu),TriplesOk l->qY pos (l++[dN a,dN b,c])=V cv->qY pos l=V cv\/cv=c
 |[],_,e=>by
  simp![kC,dN,qY]at e;split at e
  .cases e;show .inr 07
  .cases e
 |.int x t::.int y u::z::rest,h,e=>by
  simp![fR,qY]at e ⊢;split at e
  .rename_i j;rw[if_pos j];show .inl e
  .rename_i j;rw[if_neg j];show Gs rest h e
 |[.int _ _],h,_=>(h).elim
 |[.int _ _,.int _ _],h,_=>(h).elim
section
variable{O:aN}{X:Cx}
def aB.hX{Z:aZ}(N:aB O X Z Y bD h U H s)(e:s.1.get? f=V fo)(F:aE X Z H f)(d:∀v,fo.3≠.cell v):aB O X (Z++[(f,fo)]) Y bD h U H s:=by
 let I:=N.1.pinned (λb j=>by rw[ZB.1 j];show F) (λb j=>by rw[ZB.1 j];show#[fo,e,d]);let k:QY [f] s.1=[(f,fo)]:=by simp[QY,e]
 rw[k]at I;show#[I,N.2,N.3]
def AN{j:Nat}
  (N:aB O X Z Y bD h U H s)(hj:h[j]?=V (.tab q))(hcd:W.codeIn X.K X.10.7 q=Zl)(hq:X.10.5=q++".<locals>.")(hdef:defaultsOf params X.10=([],[]))(hcl:pz scope X.10=pure cl)(B:QD X.4 X.5)
  (K:∀f c pm D s' H',aB O X (Z++[(f,hV q params body scope cl pm D c)]) Y bD h U H' s'->bc Y H Y H'->QR H' q (.ref c)->Q (.ref f) s'):
  Z0 (ZA X.1 X.w) X.A (bj (.Lambda params body scope pos) X.10) Q E s:=by
 let#[a,ha,hc,ps,L,ht,G]:=N.2.3 j _ hj;let#[c,ec,hhd]:=hc _ hcd;let I:=N.1;let C:=W.codeHd_of_K I.cO hhd;let gP:s.1.get? a=V (W.tabObj ps):=I.aw a _ L;let hg:s.1.Ns Z4 X.4:=I.1.1.2.keeps I.bk;let#[bm,ob,b1,b2,b3,b4,b5,b6,b7]:=B;let gb:=I.bs bm ob b4;let nba:bm≠a:=λz=>by rw[z,L]at gb;cases gb.2
 let k:s.1.BuiltinsAt X.4 a:=#[bm,ob,b1,b2,b3,nba,gb.1,b5,b6,b7];let nga:Z4≠a:=λz=>by let#[o,es,ep,e,d,_]:=hg;rw[z,gP]at e;cases e;cases d
 calc W.kla_eval hdef ?_;rw[hq];cases ea:qY pos ps.1 with
 |some cv=>
  let LC:=G pos cv ea;let#[F,oc,vs,t,ecv,_]:=id LC;subst ecv;refine W.kla_makeFunctionHit hcl I.1.3 hg ec C gP ht ea k λD h' tk hk hsz=>?_
  let I1:=I.kept (h':=h'.push<|hV q params body scope cl ((X.4 "__name__").getD .none) D F) (t':=tk) λb o e=>Zj _<|hk b o e
  let N1:aB O X Z Y bD h U H _:=#[I1,N.2,N.3];show K h'.1.size F _ D _ H (N1.hX (Zw _ 07) (I.c9 hsz<|I.aw.fresh hsz) λv z=>by let z':Data.func _=td v:=z;cases z') .refl LC
 |none=>
  refine W.kla_makeFunction hcl I.1.3 hg ec C gP ht ea nga k λF D h' tk hx S hlt hrec htb=>?_
  let#[c2,oc,vs,t,e2,hoc,hd,hv]:=hrec;cases e2;generalize hps:ps++(bT [dN pos.1,dN pos.2,.ref F])=M at htb;generalize hob:hV q params body scope cl ((X.4 "__name__").getD .none) D F=fo;let fc:H F=Zg:=I.aw.fresh S;let nca:F≠a:=λz=>by rw[z,L]at fc;cases fc
  let lts:s.1.1.size<=h'.1.size:=Zb S<|Z7 hlt;obtain⟨H',hH⟩:∃H',H'=upd (upd H a<|.iF M) F (.bK oc<|.own 0):=#[_,07];let Ha:H' a=V (.iF M):=by rw[hH,Jq<|bP nca,Jz]
  let Hc:H' F=V (.bK oc<|.own 0):=by rw[hH,Jz]
  let P:∀b,b≠a->b≠F->H' b=H b:=λb h1 J=>by rw[hH,Jq J,Jq h1]
  let kp:∀b o,b≠a->s.1.get? b=V o->(h'.push fo).get? b=V o:=λb o k e=>Zj _<|hx b o k e
  let ga:(h'.push fo).get? a=V (W.tabObj M):=Zj _ htb;let bK:∀b o u,H b=V (.bK o u)->H' b=V (.bK o u):=λb o u e=>by rw[P b (λz=>by rw[z,L]at e;cases e) λz=>by rw[z,fc]at e;cases e];show e
  let tup:∀b xs,H b=V (.tup xs)->H' b=V (.tup xs):=λb xs e=>by rw[P b (λz=>by rw[z,L]at e;cases e) λz=>by rw[z,fc]at e;cases e];show e
  let own:∀b x,H b=V (.own x)->H' b=V (.own x):=λb x e=>by rw[P b (λz=>by rw[z,L]at e;cases e) λz=>by rw[z,fc]at e;cases e];show e
  let I1:Inv X Z U H' {s with heap:=h'.push fo,toks:=tk}:=by
   refine I.step (g':=s.2) (d':=s.3) (ch:=[]) (λb k=>absurd k 03) (λb o _ _ _ e n=>kp b o (λz=>by rw[z,L]at n;cases n) e) (λb o _ _ _ e n=>#[o.4,kp b o (λz=>by rw[z,L]at n;cases n) e]) (λb o _ e n=>?_) (λb o _ e=>?_) tup bK (λb qs e=>?_) (λm hm=>?_) (λb u e=>?_) I.3
   .rw[P b (λz=>by rw[z,L]at n;cases n)<|Zu<|ZO (Z9 e) S];show n
   .by_cases k:b=a
    .subst k;show#[_,ga]
    .show#[o,kp b o k e]
   .by_cases k:b=a
    .subst k;rw[L]at e;cases e;show#[_,by rw[Ha,<-hps]]
    .show#[#[],by rw[P b k (λz=>by rw[z,fc]at e;cases e),e];simp]
   .let#[o,es,ep,ho,r]:=hm;show#[o,es,ep,kp _ o (λz=>by let:=I.7;rw[z,L]at this;cases this) ho,r]
   .by_cases k:b=a
    .subst k;rw[Ha]at e;cases e;show ga
    .by_cases hb2:b=F
     .subst hb2;rw[Hc]at e;cases e;show#[Zj _ hoc,_,Zj _ hoc]
     .rw[P b k hb2]at e;calc(I.aw b u e).fw (λd v hd r=>kp d v (λz=>?_) r) (λd z=>own d _ z) tup;subst z;rcases hd with z|z
      .show k z.symm
      .rw[L]at z;cases z
  let n:bc Y H Y H':=#[#[[],03],#[tup,bK]];let LC:QR H' q (.ref F):=#[F,oc,vs,t,07,Hc,hd,hv];let R:Rel O X.K Y h H':=by
   calc#[N.2.1,N.2.2,λi o e=>?_];let#[b,eb,ro]:=N.2.3 i o e;calc#[b,eb,?_];by_cases k:b=a
   .subst k;let hij:i=j:=N.2.inj eb ha;subst hij;rw[hj]at e;cases e;refine#[hc,M,Ha,?_,λpos' cv ea'=>?_]
    .rw[<-hps,Array.toList_append];show TriplesOk_snoc _ _ _ _ ht
    .rw[<-hps,Array.toList_append]at ea';rcases Gs ps.1 ht ea' with z|z
     .show(G pos' cv z).mono bK
     .rw[z];show LC
   .refine ro.mono n λu hu=>?_
    rw[P b k λz=>by rw[z,fc]at hu;cases hu];show hu
  let N1:aB O X Z Y bD h U H' _:=#[I1,R,N.3.mono n];subst hob;show K h'.1.size F _ D _ H' (N1.hX (Zw _ 07) (I.c9 lts<|by rw[P _ (ZY<|ZO (Z9 gP) lts)<|ZY hlt];show I.aw.fresh lts) λv z=>by let z':Data.func _=td v:=z;cases z') n LC
end
abbrev p5(q:Str)(scope:fg)(L f:ZF)(cd:Zv)(cl:Wq):Env:=newEnv scope L Z4 cl (nj q++".<locals>.") (V f) cd Zg ot
def mF(X:Cx)(A:cz)(N':Tj)(q:Str)(scope:fg)(f:ZF)(cd:Zv)(s:Z5)(H:Hp):Cx:={X with A:=A.deeper<|p5 q scope s.1.1.size f cd<|cb X.10.4 scope.2 [],N:=N',s₀:=s,H₀:=H,env:=p5 q scope s.1.1.size f cd<|cb X.10.4 scope.2 [],outer:=X.12,stack:=p5 q scope s.1.1.size f cd (cb X.10.4 scope.2 [])::X.12,ex:=[],calm:=Zl,fn:=λ_=>Zo,pn:=[],xe:=λ_ _=>False}
structure iR(N0:Tj)(sc₀:Wh)(x:Str)(caps:Tj)(js:Tp)(scope:fg):Prop where
 kind:scope.1=.function
 co:scope.4=Zo
 gen:scope.3=Zo
 lI:∀y∈scope.2,y.2≠.cell
 par:scope.2.lookup x=V .local
 free:∀y∈scope.2,y.2=.free->sc₀.lookup y.1=V .cell
 fr:∀y,scope.2.lookup y=V .free->(y,.free)∈scope.2
 Sd:∀(k j:Nat)(y:Str),js[k]?=V j->caps[k]?=V y->N0[j]?=V y/\scope.2.lookup y=V .free
 len:WP js=WP caps
 nd:(x::caps).Nodup
def Se:sN (W.kla_fn nm qu {posonlyargs:=[],args:=[p],vararg:=Zg,kwonlyargs:=[],kw_defaults:=[],kwarg:=Zg,defaults:=[]} body scope cl pm cd ctv) #[[u],[]]=pure [(p.1,u)]:=by let e:(qS p.1 [(p.1,u)]).isNone=Zo:=03;unfold sN;simp[q7,e];rfl
section
variable{O:aN}{X:Cx}
def AO (hA:A.3=V X.12)(hr:bJ κ (k+1) A)(hc:Qv A H)(N:aB O X Z Y bD h U H s)(hf:s.1.get? f=V (hV q params body scope (cb X.10.4 scope.2 []) pm ctv c))(LC:QR H q<|.ref c)(hx:QW params=V x)(S:iR X.N X.10.1.2 x caps js scope) (hb:∀s' H',ai O (mF X A (x::caps) q scope f (.ref c) s' H') body m)(ru:RU X.K Y H v u)(K:Kont O X RU Z Y bD U H ((m (V v::js.map λj=>(bD[j]?).join) h).nx) Q E):Z0 (ZA X.1 X.w) A (call (.ref f) [u]) Q E s:=by
 let I:=N.1;let lim:s.1.NoLimit:=I.1.1.4.keeps λb o e=>(I.bs b o e).1
 calc px<|W.kla_callFunE hr.depth hf 07 S.2 S.3 07 (LC.rec I.aw) ?_;let G:sN (W.kla_fn "<lambda>" (nj q) params body scope (cb X.10.4 scope.2 []) pm (.ref c) ctv) #[[u],[]]=pure [(x,u)]:=by
  unfold QW at hx;split at hx
  .cases hx;show Se
  .cases hx
 rw[G];calc Zs (wpAny_newFunctionEnv S.4 (λy hy=>by rw[ZB.1 hy];show S.5) (λh3 hns R=>#[lim.fresh _ R,?_]) S.1);let#[w,rw',qw]:=ru;let keep:∀b o,s.1.get? b=V o->h3.get? b=V o:=λb o z=>(R.2 b<|Zu<|Z9 z).trans<|Zj _ z
 let B:∀y d,(cb X.10.4 scope.2 []).lookup y=V d->X.10.4.lookup y=V d:=AB _ _ (λy d z=>by simp at z);let okX:(mF X A (x::caps) q scope f (.ref c) s H).Ok:=by
  let iI:∀b:ZF,b∉(mF X A (x::caps) q scope f (.ref c) s H).ex:=λb z=>absurd (show b∈([]:Tt)from z) 03
  calc#[I.1.1,S.1,07,07,Zm _,λy y' d a b=>I.1.6 y y' d (B y d a)<|B y' d b,λy hy=>?_,λy d z=>absurd (show Zo=Zl from z) Zx,λ_=>hc,Around.frames_deeper hA,.inr #[07,07],λb z=>absurd z<|iI b,I.bs,Zb I.1.kI I.sz,λb _ _=>iI b,λb z=>absurd z<|iI b,I.stack,I.dP];let hy':scope.2.lookup y=V .cell\/scope.2.lookup y=V .free:=hy;rcases hy' with z|z
  .show absurd 07 (S.4 _<|j2 z)
  .let hm:=j2 z;let#[d,hd]:=I.1.7 y<|.inl<|S.6 (y,.free) hm 07;show oZ.1<|Ys _ _ y d hm hd
 let I3:Inv (mF X A (x::caps) q scope f (.ref c) s H) [] (V w::js.map λj=>(U[j]?).join) H {s with heap:=h3,toks:=s.4+[(x,u)].length}:=by
  refine#[okX,07,I.3,Un.kept keep,#[_,hns,λi y z a b cc=>?_],λy d z=>?_,I.aw.fresh<|Zm _,λy d z=>I.8 y d<|B y d z,λp hp=>absurd (show p∈([]:aZ)from hp) 03,I.aw.kept keep,by change _=(x::caps).length;simp[S.9]]
  .cases i with|zero=>let C:V x=V y:=a;cases C;let F:V (V w)=V (V z):=b;cases F;show#[u,rw',.inl #[S.5,03]]|succ i=>
    let C:caps[i]?=V y:=a;let F:(js.map λj=>(U[j]?).join)[i]?=V (V z):=b;rw[Zz]at F;cases D:js[i]? with|none=>rw[D]at F;cases F|some j=>
     rw[D]at F;let b2:(U[j]?).join=V z:=eV F;let hU:U[j]?=V (V z):=by cases P:U[j]? with|none=>rw[P]at b2;cases b2|some o=>rw[P]at b2;rw[show o=V z from b2]
     let#[hx1,L]:=S.8 i j y D C;let hm:=j2 L;let hk:=S.6 (y,.free) hm 07;let#[m0,hn,hl]:=I.5;let#[J,ru',lk]:=hl j y z hx1 hU<|.inr<|.inl hk;rcases lk with⟨e,_⟩|⟨e,d,hd,hcell⟩
     .let hk':X.10.1.2.lookup y=V .cell:=hk;let e':X.10.1.2.lookup y=V .local:=e;rw[hk']at e';cases e'
     .let#[d',M]:=oZ.1<|Ys (cells:=X.10.4) scope.2 [] y d hm hd;let:=B y d' M;rw[hd]at this;cases this;let#[oc,hoc,hdd]:=hcell;show#[J,ru',.inr #[.inr L,d,M,oc,keep _ _ hoc,hdd]]
  .let#[z',o,ho,hd]:=I.6 y d<|B y d z;show#[z',o,keep _ _ ho,hd]
 let N3:aB O (mF X A (x::caps) q scope f (.ref c) s H) [] Y (V v::js.map λj=>(bD[j]?).join) h (V w::js.map λj=>(U[j]?).join) H {s with heap:=h3,toks:=s.4+[(x,u)].length}:=by
  calc#[I3,N.2,03,λi z a=>?_];cases i with|zero=>let C:V (V v)=V (V z):=a;cases C;show#[w,07,qw]|succ i=>
   let C:(js.map λj=>(bD[j]?).join)[i]?=V (V z):=a;rw[Zz]at C;cases D:js[i]? with|none=>rw[D]at C;cases C|some j=>
    rw[D]at C;let a2:(bD[j]?).join=V z:=eV C;let hU:bD[j]?=V (V z):=by cases P:bD[j]? with|none=>rw[P]at a2;cases a2|some o=>rw[P]at a2;rw[show o=V z from a2]
    let#[z',ez,qz]:=N.3.2 j z hU;calc#[z',?_,qz];change(js.map λj=>(U[j]?).join)[i]?=V (V z');rw[Zz,D];change V ((U[j]?).join)=_;rw[ez];rfl
 refine W.kla_codeExpr<|dD (hb s H [] _ _ H Y _ h (λJ s'=>Q J s') (λ_ _=>False) N3 ?_) (λ_ _ z=>z) λ_ _ z=>z.elim
 cases er:m (V v::js.map λj=>(bD[j]?).join) h with|ok v' h'=>rw[er]at K;intro J s' H' Y' N' n' ⟨z,rz,qz⟩;let bB:=N'.1;let#[_,_,I',rz',e1,e2]:=I.after (Q:=λz2 H2=>z2=z/\H2=H') #[z,H',bB.2,bB.3,bB.4,bB.aw,rz,07,07];subst e1;subst e2;show K J s' _ Y' #[I',N'.2,N.3.mono n'] n' #[_,rz',qz]|exc n h'=>rw[er]at K;show Zf K|stuck=>rw[er]at K;show Zf K
end
noncomputable def nk:IV->IV->Ww|.int a,.int b=>V<|decide (a>b)|_,_=>Zg
def QA(gt:IV->IV->Ww)(mk:IV->IH->Res IV)(i n:Nat):Nat->IV->IV->IH->Res IV|0,b,_,h=>(match h[i]? with|some (.lst ys)=>if (WP ys)=n then .ok b h else .stuck|_=>.stuck)|r+1,b,kb,h=>(match h[i]? with|some (.lst ys)=>if (WP ys)=n then(match ys[n-(r+1)]? with|some y=>(mk y h).nx.bind λk h'=>(match gt k kb with|some Zl=>QA gt mk i n r y k h'|some Zo=>QA gt mk i n r b kb h'|none=>.stuck)|none=>.stuck)else .stuck|_=>.stuck)
def QU(gt:IV->IV->Ww)(mk:IV->IH->Res IV)(i:Nat)(d:Te)(h:IH):Res IV:=match h[i]? with|some (.lst ys)=>(match ys[0]? with|some y=>(mk y h).nx.bind λk h'=>QA gt mk i (WP ys) (WP ys-1) y k h'|none=>(match d with|some d=>.ok d h|none=>.stuck))|_=>.stuck
def aE.more(F:aE X Z H b)(ne:p.1≠b):aE X (Z++[p]) H b:=by
 calc#[F.1,F.2.1,F.2.2.1,F.2.2.2.1,F.2.2.2.2.1,λq j=>?_];rcases ZQ.1 j with z|z
 .show F.2.2.2.2.2 q<|iZ _ z
 .rcases ZQ.1 z with z|z
  .show F.2.2.2.2.2 q<|Zr _ z
  .rw[ZB.1 z];show ne
def aE.at(F:aE X Z H b)(n:H' b=Zg):aE X Z H' b:=(#[n,F.2])
def AP{i:Nat}(r:Vals xs us)(e:us[i]?=V u):∃x,xs[i]?=V x/\RelV x u:=by let B:=(Zp.1 e).1;let C:=r.length;let j:i<WP xs:=Zb B<|Zh C.symm;let m:=Zd j;let#[D,k,q]:=r.get m;rw[e]at k;cases k;show#[_,m,q]
section
variable{O:aN}{X:Cx}
def aB.turned{Z:aZ}(N:aB O X Z Y bD h U H s)(F:aE X Z H it)(k:∀b o,b≠it->s.1.get? b=V o->h'.get? b=V o):aB O X Z Y bD h U H {s with heap:=h',toks:=t'}:=(#[N.1.turned k F.1 F.2.1 F.2.2.2.1 F.2.2.2.2.1 F.2.2.2.2.2,N.2,N.3])
def aB.jZ{Z:aZ}(N:aB O X Z Y bD h U H s)(k:∀b o,s.1.get? b=V o->h'.get? b=V o):aB O X Z Y bD h U H {s with heap:=h',toks:=t'}:=(#[N.1.kept k,N.2,N.3])
def jD(O:aN)(X:Cx)(A:cz)(op:CmpOp)(gt:IV->IV->Ww):Prop:=∀(Z:aZ)(Y:Tt)(bD:aD)(h:IH)(U:L2.St)(H:Hp)(s:Z5)(k kb:IV)(u ub:Zv)(b:Bool)(Q:aQ)(E:aQ),aB O X Z Y bD h U H s->RU X.K Y H k u->RU X.K Y H kb ub->gt k kb=V b ->(∀h' t',(∀a o,s.1.get? a=V o->h'.get? a=V o)->Q (.bool b) {s with heap:=h',toks:=t'})->Z0 (ZA X.1 X.w) A (u6 op u ub) Q E s
def Sf:jD O X A .Gt nk:=(λZ Y M h U H s k I u R b Q E N r L e q=>by
 cases k with
 |int a=>
  cases I with
  |int c=>
   let#[x,D,ex]:=r;let#[y,G,J]:=L;let B:x=.int a:=ex;let m:y=.int c:=J;subst B;subst m;let#[t,rfl]:=D;let#[C,rfl]:=G;let F:V (decide (a>c))=V b:=e;cases F;let j:=zt (prog:=X.1) (w:=X.w) (A:=A) (P:=λi v=>∃t,v=.int (if i=0 then a else c) t) (λi=>if i=0 then a else c) λ_ _ q=>q
   let:=j 0 1 (.int a t) (.int c C) s Q E #[t,03] #[C,03];simp![if_true,show ¬(1:Nat)=0 by decide,if_false]at this;show this<|q s.1 s.4 λ_ _ e=>e
  |_=>cases e
 |_=>cases e)
def X1(O:aN)(X:Cx)(A:cz)(bD:aD)(U:L2.St)(Z:aZ)(G:Hp->Prop)(fv:Zv)(mk:IV->IH->Res IV):Prop:=∀(pl:aZ)(s:Z5)(H:Hp)(Y:Tt)(h:IH)(v:IV)(u:Zv)(Q:aQ),aB O X (Z++pl) Y bD h U H s->G H->RU X.K Y H v u->Kont O X RU (Z++pl) Y bD U H (mk v h).nx Q (λ_ _=>False) ->Z0 (ZA X.1 X.w) A (call fv [u]) Q (λ_ _=>False) s
def AQ{r:Res α} (K:Kont O X R' Z Y bD U H (r.nx.bind g) Q E) (step:∀x h1 u s1 H1 j,aB O X (Z++pl) j bD h1 U H1 s1->bc Y H j H1->R X.K j H1 x u->Kont O X R' Z j bD U H1 (g x h1) Q E->Q1 u s1):Kont O X R (Z++pl) Y bD U H r.nx Q1 (λ_ _=>False):=by cases r with|ok v k=>show λu F D B C m q=>step v k u F D B C m q<|Kont.mono K m|exc n k=>show(K).elim|stuck=>show(K).elim
section
variable{A:cz}{R:rh->Z5->Prop}{Q E:aQ}{Z:aZ}{bD:aD}{U:L2.St}{G:Hp->Prop}{fq:ZF}{mk:IV->IH->Res IV}{gt:IV->IV->Ww}{i n:Nat}{l I C:ZF}{kw:Wn}
def Sg(M:Mm nm L op)(hh:∀{H:Hp}{z:Z5},Inv X Z U H z->aI A z.1)(cm:jD O X A.in1 op gt)(ko:X1 O X A.in1 bD U Z G (.ref fq) mk)(hG:∀H H',Ext H H'->G H->G H')(hR:∀v s',Q v s'->R (.ok<|.ret v) s')(F:I≠C):
  ∀(r j:Nat)(z:Z5)(H:Hp)(Y:Tt)(h:IH)(b kb:IV)(vb D:Zv)(c:Nat),n-j=r->0<j->j<=n->aB O X Z Y bD h U H z->G H->Y[i]?=V l->aE X Z H I->aE X Z H C->z.1.IsListIter I l j ->
   z.1.get? C=V (cH "list" (bT [vb,D]) c)->RU X.K Y H b vb->RU X.K Y H kb D->Kont O X RU Z Y bD U H (QA gt mk i n r b kb h) Q E ->
   i1 (ZA X.1 X.w) A (.builtin L #[[.ref I,.ref fq,.ref C],kw]) R z:=by
 intro r;induction r with
 |zero=>
  intro j z H Y h b kb vb D c hr h0 hj N g hi fI fC st gC rb rk K;obtain rfl:j=n:=05;unfold QA at K;cases eh:h[i]? with|none=>rw[eh]at K;show Zf K|some ob=>
   rw[eh]at K;cases ob with
   |lst ys=>
    dsimp only at K;split at K
    .rename_i B;let#[ws,e1,r3]:=N.at eh hi;let#[m,P,pl,_]:=N.1.list<|bZ.of e1;let ne:l≠I:=λq=>by let:=fI.1;rw[<-q,e1]at this;cases this
     let sz:m.toArray.size=j:=by rw[ZV,<-P.length,r3.length,B]
     let W:=vL (prog:=X.1) (w:=X.w) (A:=A.in1) I l ne m.toArray;calc jN M.1 ?_;rw[m5 M.2 _];change Z0 _ A.in1 (q7 (.ref C)>>=_) _ _ z;calc Ze<|om gC 07 ?_;change Z0 _ A.in1 (tryCatch (f9<|.ref I) _>>=_) _ _ z;calc Ze (kD<|W.4 z _ _ #[#[by rw[sz];show st,pl.isList],(hh N.1).in1] λJ tk keep=>?_);let gC2:=keep C _ (λq=>F (ZB.1 q).symm) gC;let N1:=N.turned (h':=J) (t':=tk) fI λb o hb e=>keep b o (λq=>hb<|ZB.1 q) e
     change Z0 _ A.in1 (updateSeq C (λ_=>#[])>>=_) _ _ _;calc Ze ?_;calc qU gC2 07 (Ze<|kT<|Zs ?_);let N2:=N1.turned (h':=J.update C<|fU λ_=>#[]) (t':=tk) fC λb o hb e=>(ZI _ _<|bP hb).trans e
     show hR _ _<|K _ _ _ _ N2 .refl rb
    .show Zf K
   |_=>show Zf K
 |succ r ih=>
  intro j z H Y h b kb vb D c hr h0 hj N g hi fI fC st gC rb rk K;unfold QA at K;cases eh:h[i]? with|none=>rw[eh]at K;show Zf K|some ob=>
   rw[eh]at K;cases ob with
   |lst ys=>
    dsimp only at K;split at K
    .rename_i B;let#[ws,e1,r3]:=N.at eh hi;let#[m,P,pl,_]:=N.1.list<|bZ.of e1;let ne:l≠I:=λq=>by let:=fI.1;rw[<-q,e1]at this;cases this
     let sz:m.toArray.size=n:=by rw[ZV,<-P.length,r3.length,B]
     let ej:n-(r+1)=j:=by(rw[<-(by assumption:_-_=_+1)];show Nat.sub_sub_self 06)
     rw[ej]at K;let W:=vL (prog:=X.1) (w:=X.w) (A:=A.in1) I l ne m.toArray;calc jN M.1 ?_;rw[m5 M.2 _];change Z0 _ A.in1 (q7 (.ref C)>>=_) _ _ z;calc Ze<|om gC 07 ?_;change Z0 _ A.in1 (tryCatch (f9<|.ref I) _>>=_) _ _ z;calc Ze (kD<|W.3 j z _ _ (by rw[sz];show nQ 06) #[#[st,pl.isList],(hh N.1).in1] λy J tk hP st2 keep=>?_);let ey:m[j]?=V y:=by simpa using hP
     let#[x,ex,rx]:=AP P ey;let#[yv,eyv,qy]:=r3.get' ex;rw[eyv]at K;dsimp only at K;let gC2:=keep C _ (λq=>F (ZB.1 q).symm) gC;let N1:=N.turned (h':=J) (t':=tk) fI λb o hb e=>keep b o (λq=>hb<|ZB.1 q) e
     let#[oI,hoI,hoc,hod]:=id st2.1.1;let N2:=(N1.hX gC2 fC λv z=>by cases z).hX hoI (aE.more (p:=(C,cH "list" (bT [vb,D]) c)) fI<|bP F) λv z=>by rw[hod]at z;cases z
     rw[fQ]at N2;change Z0 _ A.in1 (tryCatch (iE [y]<|call (.ref fq) [y]) _>>=_) _ _ _;refine Ze<|kD<|d4<|jX<|ko _ _ _ _ _ yv y _ N2 g #[x,rx,qy]<|AQ K λk h3 u s3 H3 W3 N3 n3 ru K3=>?_
     let pC:=N3.1.9 (C,cH "list" (bT [vb,D]) c)<|Zr _<|Zr _ 03;let pI:=N3.1.9 (I,oI)<|Zr _<|Zr _ 03;let N4:=N3.pins;let hi3:=n3.at hi;let g3:=hG _ _ n3.2 g;let fI3:=aE.at (H':=H3) fI pI.2.1;let fC3:=aE.at (H':=H3) fC pC.2.1;let it3:s3.1.IsListIter I l (j+1):=#[oI,pI.1,hoc,hod];let ry3:RU X.K W3 H3 yv y:=RU.mono n3 #[x,rx,qy];cases eg:gt k kb with|none=>rw[eg]at K3;show Zf K3|some bb=>
      change Z0 _ A.in1 (tryCatch (iE [y,u]<|u6 op u D>>=_) _>>=_) _ _ _;refine Ze<|kD<|d4<|Ze<|cm _ _ _ _ _ _ _ k kb u D bb _ _ N4 ru (rk.mono n3) eg λh5 t5 k5=>?_
      calc Ze<|d4<|ph ?_;calc Ze<|kT<|Zs ?_;let N5:=N4.jZ (h':=h5) (t':=t5) k5;let gC5:=k5 _ _ pC.1;let#[oI5,hoI5,S,hod5]:=id it3;let it5:h5.IsListIter I l (j+1):=#[oI5,k5 _ _ hoI5,S,hod5];rw[eg]at K3;cases bb with
      |true=>
       simp![if_true];calc Ze ?_;calc qU gC5 07 (Ze<|kT ?_);rw[M.3];let N6:=N5.turned (h':=h5.update C<|fU λ_=>(bT [y,u])) (t':=t5) fC3 λb o hb e=>(ZI _ _<|bP hb).trans e
       obtain⟨c2,hc2⟩:∃c2,(h5.update C<|fU λ_=>(bT [y,u])).get? C=V (cH "list" (bT [y,u]) c2):=#[_,sV gC5 λ_=>(bT [y,u])];calc Zs #[kR M.2 _,ih (j+1) _ H3 W3 h3 yv k y u c2 00 (iX _) (nQ 06) N6 g3 hi3 fI3 fC3 ?_ hc2 ry3 ru K3];show#[oI5,(ZI _ _<|bP F).trans<|k5 _ _ hoI5,S,hod5]
      |false=>simp![l9,if_false];calc Ze<|kT ?_;rw[M.3];show Zs #[kR M.2 _,ih (j+1) _ H3 W3 h3 b kb vb D c 00 (iX _) (nQ 06) N5 g3 hi3 fI3 fC3 it5 gC5 (rb.mono n3) (rk.mono n3) K3]
    .show Zf K
   |_=>show Zf K
def Gu(M:Mm nm L op)(hh:∀{H:Hp}{z:Z5},Inv X Z U H z->aI A z.1)(cm:jD O X A.in1 op gt)(ko:X1 O X A.in1 bD U Z G (.ref fq) mk)(hG:∀H H',Ext H H'->G H->G H')(N:aB O X Z Y bD h U H z)(g:G H)(hi:Y[i]?=V l)(rd:∀y,d=V y->∃u,dv=V u/\RU X.K Y H y u)
  (hR:∀v s',Q v s'->R (.ok<|.ret v) s')(hF:∀c s',c.quiet=Zl->i1 (ZA X.1 X.w) A c R s'->F (.again c) s')(K:Kont O X RU Z Y bD U H (QU gt mk i d h) Q E):
  Z0 (ZA X.1 X.w) A.in1 (l4 (.ref l)>>=λit=>newList []>>=λc=>again<|.builtin (toString nm++toString ".loop") #[[it,.ref fq,c],dv.toList.map λu=>(eA "default",u)]) F E z:=by
 unfold QU at K;cases eh:h[i]? with|none=>rw[eh]at K;show Zf K|some ob=>
  rw[eh]at K;cases ob with
  |lst I=>
   dsimp only at K;let#[ws,e1,r3]:=N.at eh hi;let#[m,S,pl,_]:=N.1.list<|bZ.of e1;let hl:=pl.isList;let#[ol,hol,_]:=id hl;let lt:l<z.1.1.size:=Z9 hol;let sz:m.toArray.size=WP I:=by rw[ZV,<-S.length,r3.length]
   calc Ze<|og hl ?_;calc Ze<|sI ?_<|ZX _;rw[M.3];let ne:l≠z.1.1.size:=Zu lt;let W:=vL (prog:=X.1) (w:=X.w) (A:=A.in1) z.1.1.size l ne m.toArray;let hS:(z.1.push<|dz l).1.size=z.1.1.size+1:=rC ..;obtain⟨C,hC⟩:∃C,C=(z.1.push<|dz l).1.size:=#[_,07];let j:z.1.1.size≠C:=by rw[hC,hS];show Zu<|ZZ _
   let old:∀b o,z.1.get? b=V o->((z.1.push<|dz l).push<|cH "list" #[] 0).get? b=V o:=λb o e=>Zj _<|Zj _ e
   let gI:((z.1.push<|dz l).push<|cH "list" #[] 0).get? z.1.1.size=V (dz l):=Zj _<|Zw _ 07;let gC:((z.1.push<|dz l).push<|cH "list" #[] 0).get? C=V (cH "list" #[] 0):=by rw[hC];show Zw _ 07
   rw[<-hC];let fI:aE X Z H z.1.1.size:=N.1.c9 (Zm _)<|N.1.aw.fresh<|Zm _;let fC:aE X Z H C:=N.1.c9 (by rw[hC,hS];show fP _) (N.1.aw.fresh<|by rw[hC,hS];show fP _);let N0:=N.jZ (t':=z.4) old;calc Zs<|hF _ _ (kR M.2 _)<|jN M.1 ?_;rw[m5 M.2 _];change Z0 _ A.in1 (q7 (.ref _)>>=_) _ _ _;calc Ze<|om gC 07 ?_;change Z0 _ A.in1 (tryCatch (f9<|.ref z.1.1.size) _>>=_) _ _ _;cases e0:I[0]? with
   |none=>
    let h0:WP I=0:=by let:=List.getElem?_eq_none_iff.1 e0;show qI 06
    rw[e0]at K;cases d with|none=>show Zf K|some dy=>
     let#[u,rfl,ru]:=rd dy 07;calc Ze (kD<|W.4 _ _ _ (by rw[sz,h0];show#[#[#[_,gI,07,07],(hl.push _).push _],(hh N.1).in1.mono old]) λJ tk keep=>?_);let N1:=N0.turned (h':=J) (t':=tk) fI λb o D e=>keep b o (λq=>D<|ZB.1 q) e
     change Z0 _ A.in1 (rule _>>=_) _ _ _;show Ze<|kU<|Zs<|hR _ _<|K _ _ _ _ N1 .refl ru
   |some yv=>
    let h0:0<WP I:=(Zp.1 e0).1;rw[e0]at K;dsimp only at K;calc Ze (kD<|W.3 0 _ _ _ (by rw[sz];show h0) #[#[#[_,gI,07,07],(hl.push _).push _],(hh N.1).in1.mono old] λy J tk hP st2 keep=>?_);let ey:m[0]?=V y:=by simpa using hP
    let#[x,ex,rx]:=AP S ey;let#[yv',eyv,qy]:=r3.get' ex;rw[e0]at eyv;cases eyv;let gC2:=keep C _ (λq=>j (ZB.1 q).symm) gC;let N1:=N0.turned (h':=J) (t':=tk) fI λb o D e=>keep b o (λq=>D<|ZB.1 q) e
    let#[oI,hoI,hoc,B]:=id st2.1.1;let N2:=(N1.hX gC2 fC λv z=>by cases z).hX hoI (aE.more (p:=(C,cH "list" #[] 0)) fI<|bP j) λv z=>by rw[B]at z;cases z
    rw[fQ]at N2;change Z0 _ A.in1 (tryCatch (iE [y]<|call (.ref fq) [y]) _>>=_) _ _ _;refine Ze<|kD<|d4<|jX<|ko _ _ _ _ _ yv y _ N2 g #[x,rx,qy]<|AQ K λk h3 u s3 H3 W3 N3 n3 ru K3=>?_
    let pC:=N3.1.9 (C,cH "list" #[] 0)<|Zr _<|Zr _ 03;let pI:=N3.1.9 (z.1.1.size,oI)<|Zr _<|Zr _ 03;let N4:=N3.pins;let fI3:=aE.at (H':=H3) fI pI.2.1;let P:=aE.at (H':=H3) fC pC.2.1;let ry3:RU X.K W3 H3 yv y:=RU.mono n3 #[x,rx,qy];change Z0 _ A.in1 (updateSeq C (λ_=>(bT [y,u]))>>=_) _ _ _;calc Ze ?_;calc qU pC.1 07 ?_;rw[M.3];let N6:=N4.turned (h':=s3.1.update C<|fU λ_=>(bT [y,u])) (t':=s3.4) P λb o D e=>(ZI _ _<|bP D).trans e
    obtain⟨c2,hc2⟩:∃c2,(s3.1.update C<|fU λ_=>(bT [y,u])).get? C=V (cH "list" (bT [y,u]) c2):=#[_,sV pC.1 λ_=>(bT [y,u])];calc Zs #[kR M.2 _,Sg M hh cm ko hG hR j (WP I-1) 1 _ H3 W3 h3 yv k y u c2 07 (ZZ _) (h0) N6 (hG _ _ n3.2 g) (n3.at hi) fI3 P ?_ hc2 ry3 ru K3];show#[oI,(ZI _ _<|bP j).trans pI.1,hoc,B]
  |_=>show Zf K
def Sh(a v d):mW "max" #[[a],[(eA "key",v),(eA "default",d)]]:=by unfold mW;kernel_rfl
def Si(m:∀{H:Hp}{z:Z5},Inv X Z U H z->aI A z.1)(cm:jD O X A.in1 .Gt gt)(j:X1 O X A.in1 bD U Z G (.ref fq) mk)(k:∀H H',Ext H H'->G H->G H')(N:aB O X Z Y bD h U H z)(g:G H)(hi:Y[i]?=V l)(rd:RU X.K Y H dv d) (K:Kont O X RU Z Y bD U H (QU gt mk i (V dv) h) Q E):Z0 (ZA X.1 X.w) A (call (.builtin "max") [.ref l] [(eA "key",.ref fq),(eA "default",d)]) Q E z:=by calc kmk_tree PySem.F.kind_max PySem.F.plain_max PySem.F.entry_max (Sh _ _ _) ?_;change Z0 _ A.in1 (rJ "max" ["key","default"] 0 #[[],[(eA "key",.ref fq),(eA "default",d)]]>>=_) _ _ z;calc Ze<|qX (show rJ "max" ["key","default"] 0 #[[],[(eA "key",.ref fq),(eA "default",d)]]=pure [V<|.ref fq,V d]from 07) ?_;calc Ze<|Zs ?_;show Gu (dv:=V d) Rp m cm j k N g hi (λy e=>#[d,07,by cases e;show rd]) (λv u q=>q) (λc u q r=>#[q,r]) K
end
def Kont.more(K:Kont O X R Z Y bD U H r Q E):Kont O X R (Z++pl) Y bD U H r Q E:=by cases r with|ok v D=>show λu C B j N n q=>K u C B j N.pins n q|exc m D=>show λk a C B j N n q=>K (pl++k) a C B j (by simp_all) n q|stuck=>show K
def Yz(gt:IV->IV->Ww)(q:Str)(j:Nat)(js:Tp)(aa:A1)(m md:E1):E1:=λU h=>(aa U h).bind λxs h1=>match h1[j]? with|some (.tab q')=>if q'=q then(md U h1).bind λd J=>(match xs with|[.ref i]=>QU gt (λv h'=>m (V v::js.map λj=>(U[j]?).join) h') i (V d) J|_=>.stuck)else .stuck|_=>.stuck
def AR(j:QW params=V x):defaultsOf params env=([],[]):=by
 unfold QW at j;split at j
 .rfl
 .cases j
def Sj(hg:Gl X "max")(hm:X.4 "max"=Zg)(ha:dR O X [a] aa)(hd:ai O X de md)(hs:ZT [a] X.10=[(Zo,bj a X.10)])
  (P:Roo κ (k+2) X)(M:W.codeIn X.K X.10.7 q=Zl)(hq:X.10.5=q++".<locals>.")(B:QD X.4 X.5)(hx:QW params=V x)(S:iR X.N X.10.1.2 x caps js scope)
  (hb:∀f cd s' H',ai O (mF X X.A.in1 (x::caps) q scope f cd s' H') body m):
  ai O X (.Call (.Name "max" p) [a] [#[V "key",.Lambda params body scope lp,kp],#[V "default",de,kp2]] pos) (Yz nk q j js aa m md):=(λZ s U H Y bD h Q E N K=>by
 let L:pz scope X.10=pure (cb X.10.4 scope.2 []):=wm λy hm hk=>N.1.1.7 y.1<|.inl<|S.6 y hm hk
 calc iD<|Qk N.1 hg hm 07 ?_;calc vr ?_ (by rw[hs];rfl) (by rw[hs];rfl) 07 07;refine(ha pos).run N K λxs h1 us s1 H1 U1 N1 n1 r1 C=>?_
 cases F:h1[j]? with|none=>rw[F]at C;show Zf C|some ob=>
  rw[F]at C;cases ob with
  |tab q'=>
   dsimp only at C;split at C
   .rename_i eq;subst eq;refine rA<|Ze<|AN N1 F M hq (AR hx) L B λf c pm ctv s2 H2 N2 n2 LC=>Ze<|jO<|Zs ?_
    refine rA<|Ze<|PX.run hd N2 (Kont.more<|Kont.mono C n2) λd h3 du s3 H3 W3 N3 n3 r3 D=>Ze<|jO<|Zs<|vp ?_
    let#[vs,rv,qs]:=r1.mono<|n2.trans n3;cases xs with|nil=>show Zf D|cons x t=>
     cases t with|cons _ _=>cases x<;>show Zf D|nil=>
      cases x with
      |ref i=>
       let#[w,rfl,ad,rfl,J]:=qs.bM;let#[u,rfl,ru]:=QC rv;cases ru;refine Si (G:=λH=>QR H q'<|.ref c) (mk:=λv h'=>m (V v::js.map λj=>(bD[j]?).join) h') (λI=>I.cA P.c) Sf ?_ (λH H' e g=>g.mono e.2) N3 (LC.mono n3.2.2) J r3 ?_
       .intro pl s4 H4 U4 h4 v u Q4 R g4 ru4 K4;let pf:=R.1.9 (f,hV q' params body scope (cb X.10.4 scope.2 []) pm ctv c)<|Zr _<|iZ _<|Zr _<|ZB.2 07;show AO (A:=X.A.in1) N.1.1.10 P.r.in1 (R.1.cV P.c) R pf.1 g4 hx S (hb f<|.ref c) ru4 K4
       .show D
      |_=>show Zf D
   .show Zf C
  |_=>show Zf C)
end
def tQ:Tu:=[.type "ValueError",.type "Exception",.type "BaseException",.type "object"]
abbrev JZ(X:Cx)(a:ZF):Cx:={X with A:=X.A.mark<|V<|.ref a,calm:=Zo}
section
variable{O:aN}{X:Cx}{a C:ZF}{Z:aZ}{U:L2.St}{H:Hp}{s:Z5}{Y:Tt}{bD:aD}{h:IH}{n:Nat}{c:Str}{fs:Wo}{tv:Zv}
def wC(I:Inv X Z U H s)(a):Inv (JZ X a) Z U H s:=(#[#[I.1.1,I.1.2,I.1.3,I.1.4,I.1.5,I.1.6,I.1.7,I.1.8,nofun,I.1.10,I.1.rK,I.1.rL,I.1.bs,I.1.kI,I.1.ju,I.1.iG,I.1.dF,I.1.mz],I.2,I.3,I.4,I.5,I.6,I.7,I.8,I.9,I.aw,I.11])
def AS(ok:X.Ok)(I:Inv (JZ X a) Z U H s):Inv X Z U H s:=(#[ok,I.2,I.3,I.4,I.5,I.6,I.7,I.8,I.9,I.aw,I.11])
def _root_.L2.Inv.tR(I:Inv X Z U H s)(k:∀p∈X.pn++pj',p∈X.pn++Z):Inv X pj' U H s:=(#[I.1,I.2,I.3,I.4,I.5,I.6,I.7,I.8,λp j=>I.9 p<|k p j,I.aw,I.11])
def Sk(N:aB O X Z Y bD h U H s)(m:h[n]?=V (.exc c fs))(hi:Y[n]?=V a)(J:W.nsIn X.K Z4 c=V (V<|.ref C))(ha:H a=V (cB a C tv d))(p:m9 X H s.1 a C d T oT h'):aB O X Z Y bD h U (upd (upd H T<|.bK oT<|.own 0) a<|cB a C (.ref T) d) {s with heap:=h'}/\bc Y H Y (upd (upd H T<|.bK oT<|.own 0) a<|cB a C (.ref T) d):=by
 let#[L,G,d',E,_,k,_]:=Vj N.2 m hi;rw[Pe N.1.aw k ha]at E;let#[F,B]:=N.2.grow p.1;let j:upd H T (.bK oT<|.own 0) a=V (cB a C tv d):=by rw[Jq<|bP p.2];show ha
 let#[u,D]:=F.write hi j (by rw[j];trivial) (io:=.exc c fs) #[C,.ref T,d,E.mono p.4.6,J,Jz,.inr #[T,oT,_,07,by rw[Jq p.2,Jz],p.3.choose_spec]];rw[Aq m]at u;let I:=N.1.call (t':=s.4) (d':=s.3) p.4 p.5 N.1.3 λb z=>absurd z 03
 show#[#[I,u,N.3.mono<|B.trans D],B.trans D]
def AU(ok:c8 X.1 X.w H s.1)(ha:H a=V (cB a C tv d))(D:iK H tv)(k:∀h',(∀b o,s.1.get? b=V o->h'.get? b=V o)->Q () {s with heap:=h'}):Z0 M A (sM (.ref a) Zg) Q E s:=by
 let#[F,G,u,I,m,B,_]:=cB.get ok ha;calc Ze<|ft u m B ?_;rcases D with rfl|⟨T,oT,ts,rfl,q1,q2,q3⟩
 .rw[if_neg 01];show Zs<|k s.1 λ_ _ q=>q
 .let j:s.1.get? T=V oT:=(ok T _ q1).1;calc lY j q2 (rG.1 q3).1 (k _ λb o q=>?_);by_cases z:b=T
  .subst z;rw[j]at q;cases q;show Aj j q2 q3
  .rw[ZI _ _<|bP z];show q
def Sl(I:Inv X Z U H s)(hN:X.N.Nodup)(hi:X.N[i]?=V x)(B:X.10.kindOf x=V .local)(k:∀s',Inv X Z (U.set i Zg) H s'->Q () s'):
  Z0 M A (do bindName X.10 x .none;unbindBehindTheSuite X.10 x pos) Q E s:=by
 let#[m,hn,hl]:=id I.5;let F:(X.10.1.1==.class||(X.10.1.1==.module&&X.10.2 != X.10.3))=Zo:=by rw[I.1.2];rfl
 let kY:=I.kY;refine wpAny_nameGoes_keeps B hn F λh' v P C=>?_
 let O:∀{b:ZF}{o:Obj},X.8.1.get? b=V o->b≠X.10.2:=λe=>Zu<|ZO (Z9 e) I.1.5
 refine k _ #[I.1,I.2,I.3,#[λb o e nn L B=>?_,λb o e nn L B=>?_,I.4.3,λb o e B=>?_,I.4.5,I.4.6,I.4.7],#[_,P,λj y w D J e3=>?_],λy G e=>?_,I.7,I.8,λp Y=>?_,λb ob e=>?_,by rw[nY];show I.11]
 .show(C.2 b<|O e).trans<|I.4.1 b o e nn L B
 .let#[sl,D]:=I.4.2 b o e nn L B;show#[sl,(C.2 b<|O e).trans D]
 .let#[o',D]:=I.4.4 b o e B;show#[o',(C.2 b<|O e).trans D]
 .by_cases z:j=i
  .subst z;let W:j<WP U:=by rw[I.11];show(Zp.1 hi).1
   rw[iY W]at J;cases J
  .rw[ia<|bP z]at J;let#[u,r,q]:=hl j y w D J e3;calc#[u,r,?_];rcases q with⟨q1,q2⟩|⟨q1,G,q2,q3⟩
   .calc .inl #[q1,?_];change(if y=x then v else m y)=V u;rw[if_neg λz2=>z<|zF hN D<|by rw[z2];show hi];show q2
   .show .inr #[q1,G,q2,q3.sameBut C<|kY y G q2]
 .let#[S,z]:=I.6 y G e;show#[S,z.sameBut C<|kY y G e]
 .let#[e,nn,ne,nf,d]:=I.9 p Y;show#[(C.2 p.1 ne).trans e,nn,ne,nf,d]
 .let nb:∀{d:ZF}{u:HO},H d=V u->d≠X.10.2:=λq z=>by rw[z,I.7]at q;cases q
  refine(I.aw b ob e).fw (λd S R q=>(C.2 d ?_).trans q) (λ_ q=>q) λ_ _ q=>q
  rcases R with rfl|R
  .show nb e
  .show nb R
end
def j7.unset{K:W.Frag}(r:j7 K Y H bD U)(i):j7 K Y H (bD.set i Zg) (U.set i Zg):=by
 calc#[by simp[r.1],λj w e=>?_];by_cases z:j=i
 .subst z;let m:j<WP bD:=by let:=(Zp.1 e).1;simpa using this
  rw[iY m]at e;cases e
 .rw[ia<|bP z]at e;let#[u,k,q1]:=r.2 j w e;show#[u,by rw[ia<|bP z];show k,q1]
abbrev Gv:=(Str->Ww)×Option Nat×S1
abbrev _root_.Tq:=List Gv
noncomputable def Xs (sl:Ta)(x:Te)(U:aD):aD:=match sl with|some i=>U.set i x|none=>U
def bS.drop(sl:Ta)(r:bS):bS:=match r with|.next U h=>.next (Xs sl Zg U) h|.brk U h=>.brk (Xs sl Zg U) h|.cont U h=>.cont (Xs sl Zg U) h|.ret v h=>.ret v h|_=>.stuck
def Xn:Tq->Str->Nat->S1|[],_,_=>λ_ _=>.stuck|q::r,c,n=>λU h=>match q.1 c with|some Zl=>(q.2.2 (Xs q.2.1 (V<|.ref n) U) h).drop q.2.1|some Zo=>Xn r c n U h|none=>.stuck
def jE(b:S1)(hs:Tq):S1:=λU h=>match b U h with|.exc n W1 h1=>(match h1[n]? with|some (.exc c _)=>Xn hs c n W1 h1|_=>.stuck)|r=>r
def tT(O:aN)(X:Cx)(a:ZF)(sl:Ta)(suite:Tl)(m:S1):Prop:=∀(Z:aZ)(s:Z5)(U:L2.St)(H:Hp)(Y:Tt)(bD:aD)(h:IH)(Q:Flow->Z5->Prop)(E:aQ)(n:Nat)(c:Str)(fs:Wo),X.Ok->aB O (JZ X a) Z Y bD h U H s->h[n]?=V (.exc c fs)->Y[n]?=V a->(∀i,sl=V i->i<WP bD->bD[i]?=V (V<|.ref n)) ->JD O (JZ X a) Z Y H (m bD h) Q E->Z0 (ZA X.1 X.w) (JZ X a).A (execs suite X.10) Q E s
def jV.h(p:jV O (JZ X a) suite m):tT O X a sl suite m:=(λZ s U H Y j h Q E _ _ _ _ N _ _ _ K=>p Z s U H Y j h Q E N K)
structure nr(O:aN)(X:Cx)(t:Expr)(nm:Wx)(suite:Tl)(f:Str->Ww)(sl:Ta)(m:S1):Prop where
 test:∀(a:ZF)(c:Str)(C:ZF)(b:Bool)(Z:aZ)(U:L2.St)(H:Hp)(s:Z5)(Q:Bool->Z5->Prop)(E:aQ),f c=V b->W.nsIn X.K Z4 c=V (V<|.ref C)->Inv (JZ X a) Z U H s->(∃oe,s.1.get? a=V oe/\oe.1=.ref C)->Q b s ->Z0 (ZA X.1 X.w) (JZ X a).A (bj t X.10) (λv s₁=>Z0 (ZA X.1 X.w) (JZ X a).A (excMatches (.ref a) v) Q E s₁) E s
 nm:(nm=Zg/\sl=Zg)\/∃n i,nm=V n/\sl=V i/\X.N[i]?=V n/\X.10.kindOf n=V .local
 run:∀a,tT O X a sl suite m
inductive gH(O:aN)(X:Cx):Tr->Tq->Prop|nil:gH O X [] []|cons {t:Expr}{nm:Wx}{b₀:fu}{suite:Tl}{pos:Pos}{f:Str->Ww}{sl:Ta}{m:S1}{hs:Tr}{ms:Tq}:nr O X t nm (b₀::suite) f sl m->gH O X hs ms->gH O X (.ExceptHandler (V t) nm (b₀::suite) pos::hs) ((f,sl,m)::ms)
section
variable{O:aN}{X:Cx}
def Sm(hN:X.N.Nodup)(bC:gH O X hs ms)
  (N:aB O X Z Y bD h U H s)(hj:h[n]?=V (.exc c fs))(hi:Y[n]?=V a)(K:JD O X Z Y H (Xn ms c n bD h) Q E):Z0 (ZA X.1 X.w) X.A (handleBy (.ref a) X.10 hs) Q E s:=by
 let#[C,tv,d,fe,hC,ha,ht]:=Vj N.2 hj hi;let#[oe,vs,e1,e2,_]:=cB.get N.1.aw ha;induction bC with|nil=>show(K).elim|@cons t nm b₀ suite pos f sl m hs ms o bC ih=>
  unfold Xn at K;dsimp only at K;cases hb:f c with|none=>rw[hb]at K;show(K).elim|some b=>
   rw[hb]at K;calc wpAny_handleBy_cons (codeAny_handlers_test<|o.1 a c C b Z U H s _ _ hb hC (wC N.1 a) #[oe,e1,e2] ?_) (by intro q;cases q);cases b with|false=>show ih K|true=>
    dsimp only at K;rcases o.2 with⟨rfl,rfl⟩|⟨x,i,rfl,rfl,hx,hk⟩
    .let K:JD O X Z Y H ((m bD h).drop Zg) Q E:=K;refine codeAny_handlers_suite<|AU N.1.aw ha ht λh' kp=>?_
     let N2:aB O (JZ X a) Z Y bD h U H {s with heap:=h'}:=#[wC (N.1.kept kp) a,N.2,N.3];calc o.3 a Z _ U H Y bD h _ _ n c fs N.1.1 N2 hj hi (λi z=>by cases z) ?_;let un:∀{Z:aZ}{Y:Tt}{bD:aD}{h:IH}{U:L2.St}{H:Hp}{s:Z5},aB O (JZ X a) Z Y bD h U H s->aB O X Z Y bD h U H s:=λq=>#[AS N.1.1 q.1,q.2,q.3]
     cases M:m bD h with|next P J=>rw[M]at K;show λG L D B F I=>K G L D B (un F) I|brk P J=>rw[M]at K;show λG L D B F I=>K G L D B (un F) I|cont P J=>rw[M]at K;show λG L D B F I=>K G L D B (un F) I|ret v J=>rw[M]at K;show λu G P L D B F I r3=>K u G P L D B (un F) I r3|exc k P J=>rw[M]at K;show(K).elim|stuck=>rw[M]at K;show(K).elim
    .let K:JD O X Z Y H ((m (bD.set i<|V<|.ref n) h).drop<|V i) Q E:=K;refine codeAny_handlers_suite_as<|AU N.1.aw ha ht λh' kp=>?_
     let I2:Inv (JZ X a) Z U H {s with heap:=h'}:=wC (N.1.kept kp) a;calc YO (X:=JZ X a) (v:=bA.ref a) I2 hN hx (.inl hk) 07 (λG I3=>?_) (.inr hk);let F:aB O (JZ X a) Z Y (bD.set i<|V<|.ref n) h (U.set i<|V<|bA.ref a) H G:=#[I3,N.2,N.3.set i #[a,07,hi]];calc o.3 a Z _ _ H Y _ h _ _ n c fs N.1.1 F hj hi (λj z l=>by cases z;show iY<|by simpa using l) ?_;let fin:∀{B:Tt}{P:aD}{J:IH}{L:L2.St}{D:Hp}{G:Z5}{W:Unit->Z5->Prop},aB O (JZ X a) Z B P J L D G->(∀R,aB O X Z B (P.set i Zg) J (L.set i Zg) D R->W () R)->Z0 (ZA X.1 X.w) X.A (do bindName X.10 x .none;unbindBehindTheSuite X.10 x pos) W E G:=λq k=>
      Sl (AS N.1.1 q.1) hN hx hk λR I4=>k R #[I4,q.2,q.3.unset i]
     cases M:m (bD.set i<|V<|.ref n) h with|next P J=>rw[M]at K;show λG L D B F I=>fin F λR S=>K R _ D B S I|brk P J=>rw[M]at K;show λG L D B F I=>fin F λR S=>K R _ D B S I|cont P J=>rw[M]at K;show λG L D B F I=>fin F λR S=>K R _ D B S I|ret v J=>rw[M]at K;show λu G P L D B F I r3=>fin F λR S=>K u R _ _ D B S I r3|exc k P J=>rw[M]at K;show(K).elim|stuck=>rw[M]at K;show(K).elim
def Sn(hN:X.N.Nodup)(W:X.12=X.10::X.11)(S:X.10.8=V X.10.2)(R:jV O X body mb)(bC:gH O X (h₀::hs) ms):cJ O X (.Try body (h₀::hs) [] [] pos) (jE mb ms):=by
 intro Z s U H Y L h Q E N K;unfold jE at K;calc wpAny_Try_except<|R Z s U H Y L h _ _ N ?_;cases e:mb L h with|next m J=>rw[e]at K;show λu F I B j G=>sG<|K u F I B j G|brk m J=>rw[e]at K;show K|cont m J=>rw[e]at K;show K|ret v J=>rw[e]at K;show K|stuck=>rw[e]at K;show K|exc n m J=>
  rw[e]at K;dsimp only at K;cases k:J[n]? with|none=>rw[k]at K;show(K).elim|some ob=>
   cases ob with
   |exc c fs=>
    rw[k]at K;intro pl a u F I B j G D s4 fl;let j:aB O X Z B m J F I u:=#[j.1.tR λp P=>ZQ.2<|(ZQ.1 P).imp_right λz=>iZ _ z,j.2,j.3];let#[C,tv,d,fe,hC,ha,ht]:=Vj j.2 k D;refine FR j.1 fl W S ha ht λT oT h' p=>?_
    let#[N4,M]:=Sk j k D hC ha p;show Sm hN bC N4 k D<|JD.mono K<|G.trans M
   |_=>rw[k]at K;show(K).elim
def nt:IV->Wz->Wz->IH->Res IV|.str x,lo,hi,h=>if x.length<=sizeLine then .ok (.str<|vI x lo hi) h else .stuck|x,lo,hi,h=>j8 x lo hi h
def So:wc O X nt:=by
 intro Z s U H Y R h x v S W lo L M Q E N B m pl G K;cases x with
 |str x=>
  let#[xv,B,P]:=B;cases (P);let#[t,rfl]:=B;dsimp only[nt]at K;split at K
  .rename_i C;calc#["str",_,F.slot_str_getitem.1,typeIs_str _ _ _,?_];cases pl with
   |none=>cases G with|none=>show uS (l:=Zg) (u:=Zg) (st:=Zg) m 07 (uW #[Zb (vH x _ _) C,λD k=>aL N K 07 _ _ (N.1.tok _) #[_,07]])|int j I=>show uS (l:=Zg) (u:=V (j,I)) (st:=Zg) m 07 (uW #[Zb (vH x _ _) C,λD k=>aL N K 07 _ _ (N.1.tok _) #[_,07]])
   |int i J=>cases G with|none=>show uS (l:=V (i,J)) (u:=Zg) (st:=Zg) m 07 (uW #[Zb (vH x _ _) C,λD k=>aL N K 07 _ _ (N.1.tok _) #[_,07]])|int j I=>show uS (l:=V (i,J)) (u:=V (j,I)) (st:=Zg) m 07 (uW #[Zb (vH x _ _) C,λD k=>aL N K 07 _ _ (N.1.tok _) #[_,07]])
  .show(K).elim
 |_=>show tL Z s U H Y R h _ v S W lo L M Q E N B m pl G K
end
def Sr(a):mW "max" #[[a],[]]:=by unfold mW;kernel_rfl
section
variable{O:aN}{X:Cx}
def VR:IV->IH->Res IV
 |.ref i,h=>match h[i]? with
  |some (.lst xs)=>(match JT xs with
   |some ns=>if ns=[]then .stuck else .ok (.int<|Qd (λi=>ns.getD i 0) (WP ns)) h
   |none=>.stuck)
  |_=>.stuck
 |_,_=>.stuck
def Ss(R:X.15=Zl):QE O X (.builtin "max") (bx VR):=(VH λZ s U H Y bD h x xv u Q E N D M K=>by
 cases x with
 |ref i=>
  let#[a,B,ha]:=M;subst B;cases D;dsimp only[VR]at K;cases k:h[i]? with|none=>rw[k]at K;show Zf K|some ob=>
   rw[k]at K;cases ob with
   |lst xs=>
    dsimp only at K;cases m:JT xs with|none=>rw[m]at K;show Zf K|some ns=>
     rw[m]at K;dsimp only at K;split at K
     .show Zf K
     .rename_i j;let#[S,B,G]:=N.at k ha;let#[I,L,pl,W]:=N.1.list<|bZ.of B;refine Gm (d:=Zg) 07 (Sr _) (λq=>absurd q j) (N.1.cA R) pl.isList (V8 m G L) λv J P C F=>?_
      rcases C with⟨e,_⟩|⟨_,t,ev⟩
      .show absurd e j
      .subst ev;show aL N K 07 _ _ (N.1.kept (t':=P) F) #[t,07]
   |_=>show Zf K
 |_=>show Zf K)
structure kd(K:W.Frag)(C:ZF):Prop where
 sp:W.specialIn K (.ref C) "__getattribute__"=V (V<|.builtin "type.__getattribute__")
 rd:W.readsIn K C (.type "type")=Zl
 fc:∃fa,W.findIn K (.ref C) "__init__"=V (V<|.ref fa)/\W.findCls K (.ref C) (.type "type") "__init__"=V (.val<|.ref fa)/\W.keepIn K (.ref fa)=Zl
variable{k:Nat}{fa C:ZF}{fd:jm}{ps:Tj}{f:Tv->IH->Res IV}{aS:Tv}{ds:Tu}{x:Str}{p pos apos:Pos}{e:Expr}{es:Td}{ma:A1}{pl:Sem Bool}
def Su(F:bW X.1 X.w X.K X.4 X.5 (eR X.1 X.w) κ k fa fd ps<|jd O X.K ps f)(P:Roo κ k X)(hg:Gl X x)(hm:X.4 x=V (.ref C))(B:kd X.K C)(M:Mk X.K C fa)(hb:Qe X.K fd ps ds)(hd:∃vs,Vals vs ds/\∀Y H,aA X.K Y H aS vs) (ha:dR O X (e::es) ma)(m:∀U h xs h',ma U h=.ok xs h'->WP xs+WP ds=WP ps)(J:(x==("__debug__":Str))=Zo:=by decide)(he:ZT (e::es) X.10=(Zo,bj e X.10)::ZT es X.10:=by rfl)(G:(eJ pos<|ZT es X.10).any (·.1)=Zo:=by rfl) (ht:bj (.Call (.Attribute (.Name x p) "__init__" apos) (e::es) [] pos) X.10=(do
   let ov<-bj (.Name x p) X.10
   mV apos.atName
   let (f,first)<-iE [ov] (pA ov "__init__" pl)
   sO pos f first (eJ pos<|ZT (e::es) X.10) (oz pos<|oo [] X.10)):=by rfl):
  ai O X (.Call (.Attribute (.Name x p) "__init__" apos) (e::es) [] pos) (Jl f aS ma):=by
 intro Z s U H Y D h Q E N K;let#[L,f1,S,hk]:=B.3;let ef:L=fa:=by let:=f1.symm.trans M.2;cases this;rfl
 subst ef;calc W.methodCall_KW (pl:=pl) (VC N.1 hg hm ?_ J) ht;calc W.method_cls N.1.cO B.1<|W.cls_value N.1.cO B.2 S 07 ?_;let N':aB O X Z Y D h U H {s with toks:=s.4+1}:=#[N.1.tok _,N.2,N.3];calc W.callWith_K (h₀:=X.5) N.1.1.1.1 hk ?_ he G;let j:=K;unfold Jl at j;calc ha pos Z _ U H Y D h _ E N' ?_;cases u:ma D h with|exc n h'=>rw[u]at j;show j|stuck=>rw[u]at j;show j|ok xs h'=>
  rw[u]at j;intro us s1 H1 U1 I n1 R;let hl:WP xs=WP us:=by let#[vs,rv,q]:=R;rw[<-rv.length,q.length]
  let hl2:=m D h xs h' u;show#[I.1.cO,YL (us:=us) F P.r (I.1.cV P.c) hb hd 05 I R<|Kont.mono (r:=f (xs++aS) h') j n1]
end
section
variable{prog:cy}{w:bV}{A:cz}{E:aQ}{s:Z5}{x y:Str}{t u:Tok}{Q:aQ}
open Builtin Builtin.Str in
end
section
variable{O:aN}{X:Cx}
def fH:IV->IH->Res IV|.str x,h=>if x.length<=sizeLine then .ok (.str x) h else .stuck|.int i,h=>if i.natAbs.log2<1920 then .ok (.str<|toString i) h else .stuck|_,_=>.stuck
def Sv(ha:ai O X a ma):ai O X (.FormattedValue a (-1) Zg pos) (jT fH ma):=(λZ s U H Y L h Q E N K=>wpAny_FormattedValue_plain (ha.run N K λx F u M J I k n1 D j=>by
  let#[G,B,C]:=D;cases x with
  |str x=>
   cases (C);let#[t,rfl]:=B;dsimp only[fH]at j;split at j
   .rename_i m;show wpAny_formatField_str (aL k j 07 _ _ k.1 #[_,07]) (aL k j 07 _ _ (k.1.tok _) #[_,07]) m
   .show(j).elim
  |int i=>
   cases (C);let#[t,rfl]:=B;dsimp only[fH]at j;split at j
   .rename_i m;show wpAny_formatField_int m<|aL k j 07 _ _ (k.1.tok _) #[_,07]
   .show(j).elim
  |_=>show(j).elim))
def XE:Tw->Str->E1|[],acc=>λ_ h=>if acc.length<=sizeLine then .ok (.str acc) h else .stuck|m::r,acc=>λU h=>(m U h).bind λv h1=>match v with|.str y=>if (acc++y).length<=sizeLine then XE r (acc++y) U h1 else .stuck|_=>.stuck
def lJ(ms:Tw):E1:=XE ms i5
theorem Gw(m:∀e,ai O X e<|f e):∀(es:Td)(acc:Str)(s:Z5)(H:Hp)(Y:Tt)(h:IH),aB O X Z Y bD h U H s->Kont O X RU Z Y bD U H (XE (es.map f) acc bD h) Q E ->Joins (ZA X.1 X.w) X.A E (evalEach es X.10) acc (λout s₁=>out.length<=sizeLine/\Q (.str out s₁.4) {s₁ with toks:=s₁.4+1}) s
 |[],acc,s,H,Y,h,N,K=>by
  let K:Kont O X RU Z Y bD U H (if acc.length<=sizeLine then .ok (.str acc) h else .stuck) Q E:=K;split at K
  .rename_i k;show#[k,aL N K 07 _ _ (N.1.tok _) #[_,07]]
  .show(K).elim
 |e::es,acc,s,H,Y,h,N,K=>by
  refine(m e).run N K λx D u J G F I n1 L j=>?_
  let#[M,B,C]:=L;cases x with
  |str y=>
   cases (C);let#[t,rfl]:=B;dsimp only at j;split at j
   .rename_i k;show#[y,t,07,k,Gw m es (acc++y) J G F D I j]
   .show(j).elim
  |_=>show(j).elim
def Sw(j:∀e,ai O X e<|f e):ai O X (.JoinedStr (a::b::r) pos) (lJ<|(a::b::r).map f):=(λZ s U H Y k h Q E N K=>wpAny_JoinedStr<|Gw j (a::b::r) i5 s H Y h N K)
end
abbrev wD(X:Cx)(a:ZF)(oe:Obj):Cx:={X with A:=X.A.mark<|V<|.ref a,H₀:=upd X.9 a (.bK oe<|.own 0)}
section
variable{fs ex:Tt}{H₀ H H':Hp}{h h0 h':bu}{a:ZF}{oe:Obj}
def Xl(ha:H a=V (.bK oe<|.own 0))(q:H b=o)(n:∀oe u,o≠V (.bK oe u)):b≠a:=(λz=>by subst z;show n _ _<|q.symm.trans ha)
def YK(q:upd H₀ a (.bK oe<|.own 0) b=o)(n:∀oe u,o≠V (.bK oe u)):H₀ b=o:=by
 by_cases z:b=a
 .subst z;rw[Jz]at q;show absurd q.symm<|n _ _
 .rw[Jq z]at q;show q
theorem _root_.L2.Un.warm(u:Un fs ex H₀ H h h')(ha:H a=V (.bK oe<|.own 0)):Un fs ex (upd H₀ a<|.bK oe<|.own 0) H h h' where
 keep:=λb o q m=>u.1 b o q (YK m λ_ _ z=>by cases z)
 slot:=λb o q m=>u.2 b o q (YK m λ_ _ z=>by cases z)
 free:=λb o q m=>u.3 b o q (YK m λ_ _ z=>by cases z)
 there:=u.4
 cI:=λb xs q=>u.5 b xs (YK q λ_ _ z=>by cases z)
 bz:=λb o y q=>by
  by_cases z:b=a
  .subst z;rw[Jz]at q;cases q;show ha
  .rw[Jq z]at q;show u.6 b o y q
 cX:=λb ps q=>u.7 b ps (YK q λ_ _ z=>by cases z)
theorem _root_.L2.Un.AV(j:Un fs ex H₀ H h h0)(ha:H a=V (.bK oe<|.own 0))(u:Un fs ex (upd H₀ a<|.bK oe<|.own 0) H' h h'):Un fs ex H₀ H' h h' where
 keep:=λb o q m f x=>u.1 b o q (by rw[Jq<|Xl ha (j.3 b o q m x) λ_ _ z=>by cases z];show m) f x
 slot:=λb o q m f x=>u.2 b o q (by rw[Jq<|Xl ha (j.3 b o q m x) λ_ _ z=>by cases z];show m) f x
 free:=λb o q m x=>u.3 b o q (by rw[Jq<|Xl ha (j.3 b o q m x) λ_ _ z=>by cases z];show m) x
 there:=u.4
 cI:=λb xs q=>u.5 b xs (by rw[Jq<|Xl ha (j.5 b xs q) λ_ _ z=>by cases z];show q)
 bz:=λb o y q=>by
  by_cases z:b=a
  .subst z;let:=j.6 b o y q;rw[ha]at this;cases this;show u.6 b _ _ Jz
  .show u.6 b o y<|by rw[Jq z];show q
 cX:=λb ps q=>u.7 b ps (by let#[m,e]:=j.7 b ps q;rw[Jq<|Xl ha e λ_ _ z=>by cases z];show q)
end
section
variable{O:aN}{X:Cx}{Z:aZ}{U:L2.St}{H:Hp}{s:Z5}{Y:Tt}{bD:aD}{h:IH}{n:Nat}{c:Str}{fs:Wo}{a:ZF}
def Sx(N:aB O X Z Y bD h U H s)(B:h[n]?=V (.exc c fs))(hi:Y[n]?=V a):∃oe vs,aB O X Z Y bD (h.set n<|.i9 c fs) U (upd H a<|.bK oe<|.own 0) s/\bc Y H Y (upd H a<|.bK oe<|.own 0)/\oe.3=.fields vs/\vs[2]?=V .none:=by let#[C,M,d,E,D,ha,L]:=Vj N.2 B hi;let#[oe,vs,j,F,k,J,m,G]:=cB.get N.1.aw ha;let#[R2,n2]:=N.2.write hi ha (by rw[ha];trivial) (o:=.bK oe<|.own 0) (io:=.i9 c fs) #[C,oe,.own 0,vs,G▸E.mono (λb o u q=>by rw[Jq λz=>by subst z;rw[ha]at q;cases q];show q),D,Jz,F,k,m];let I:Inv X Z U (upd H a<|.bK oe<|.own 0) s:=N.1.write (x:=a) (e:=a) (h':=s.1) (t':=s.4) (by rw[ha];trivial) (.inl 07) (λ_ _ _ q=>q) #[oe,j] #[j,oe,j];show#[oe,vs,#[I,R2,N.3.mono n2],n2,k,m]
def Sy(I:Inv X Z U H s)(ha:H a=V (.bK oe<|.own 0))(d:oe.3=.fields vs)(x:vs[2]?=V .none):Inv (wD X a oe) Z U H s:=(#[#[I.1.1,I.1.2,I.1.3,I.1.4,I.1.5,I.1.6,I.1.7,I.1.8,λ_=>.inr #[a,oe,_,vs,07,Jz,d,x],I.1.10,I.1.rK,I.1.rL,λb o q=>#[(I.1.bs b o q).1,(Jq<|Xl ha (I.bs b o q).2 (λ_ _ z=>by cases z)).trans (I.1.bs b o q).2],I.1.kI,I.1.ju,I.1.iG,I.1.dF,λb j=>let ⟨_,o,ho,_⟩:=I.1.dF.mem j;(Jq<|Xl ha (I.4.3 b o ho (I.1.mz b j) λz=>I.1.iG b z j) λ_ _ z=>by cases z).trans (I.1.mz b j)],I.2,I.3,I.4.warm ha,I.5,I.6,I.7,I.8,I.9,I.aw,I.11])
def Sz(I:Inv X Z U H s)(ha:H a=V (.bK oe<|.own 0))(bB:Inv (wD X a oe) pj' U' H' s'):Inv X pj' U' H' s':=(#[I.1,bB.2,bB.3,I.4.AV ha bB.4,bB.5,bB.6,bB.7,bB.8,bB.9,bB.aw,bB.11])
end
def oU(h:bu)(C:ZF):Prop:=∃nm q N bs bm hdct sn sub ab col dd k0 k1 k2 k3 k5 newId,h.get? C=V (u7 nm q C N bs bm hdct sn sub ab col dd k0 k1 k2 k3 k5 newId)/\bm.contains (.type "BaseException")=Zl
def SD(J:A.1=Zg) (h:Z0 M A x (λv s₁=>∃e oe vs C,v=.ref e/\oU s₁.1 C/\s₁.1.get? e=V oe/\oe.1=.ref C/\oe.3=.fields vs/\Z0 M A (sM (.ref e) Zg) (λ_ s₂=>E (.ref e) s₂) E s₁) E s):Z0 M A (raiseStmt env (V x) Zg) Q E s:=by
 unfold raiseStmt;refine Ze<|dD h (λv s₁ h₁=>?_) λ_ _ x=>x
 let#[e,#[U,od,L,I],vs,C,rfl,#[nm,q,N,bs,O,B,Z,sub,Y,P,dd,k0,k1,k2,R,W,u,D,j],G,H,hd,F]:=h₁;let k:(gF C::O).contains (.type "BaseException")=Zl:=by rw[List.contains_cons,j,Bool.or_true]
 subst H hd;let#[X,g,d,tk,os]:=s₁;generalize m:sM=S at F ⊢;repeat (first|with_reducible calc sE G ?_|with_reducible calc sE D ?_|(with_reducible calc wpAny_isSubtype_exc D ?_;rw[k])|wp_step)
 subst m;show dD F (λ_ s₂ z=>wpAny_raiseNew_none J z) λ_ _ z=>z
def XT(rz:Str->Bool)(m:E1):S1:=λU h=>rS U (m U h) λv h1=>match v with|.ref n=>(match h1[n]? with|some (.exc c _)=>if rz c then .exc n U h1 else .stuck|_=>.stuck)|_=>.stuck
section
variable{O:aN}{X:Cx}{x:Expr}{m:E1}{pos:Pos}
def SE(S:X.A.1=Zg)(M:ai O X x m)(hx:∀c C,rz c=Zl->W.nsIn X.K Z4 c=V (V<|.ref C)->∀h:bu,X.K.In h->oU h C):cJ O X (.Raise (V x) Zg pos) (XT rz m):=by
 intro Z s U H Y bD h Q E N K;rw[arm_exec_Raise];calc Ze<|jO ?_;change Z0 _ _ (raiseStmt X.10 (V<|bj x X.10>>=λv=>mV pos>>=λ_=>pure v) Zg) Q E s;calc SD S ?_;refine Ze<|cP M N K λv I u s1 H1 J k n1 R j=>?_
 calc Ze<|jO<|Zs ?_;cases v with
 |ref n=>
  let#[xv,G,a,rfl,D]:=R;cases G;dsimp only at j;cases B:I[n]? with|none=>rw[B]at j;show Zf j|some ob=>
   rw[B]at j;cases ob with
   |exc c fs=>
    dsimp only at j;split at j
    .rename_i F;let#[C,tv,d,fe,hC,ha,ht]:=Vj k.2 B D;let#[oe,L,P,e2,e3,_]:=cB.get k.1.aw ha;calc#[a,oe,L,C,07,hx c C F hC _ k.1.cO,P,e2,e3,?_];refine AU k.1.aw ha ht λh' keep=>?_
     show j [] a _ U H1 J #[by rw[iC];show k.1.kept (t':=s1.4) keep,k.2,k.3] .refl D _<|.inl 07
    .show Zf j
   |_=>show Zf j
 |_=>show Zf j
end
section
variable{prog:cy}{w:bV}{A:cz}{E:aQ}{hp:bu}{ge:Wj}{dr:Drawn}{tk:Nat}{ox:OsState}
variable{nm qn:Str}{C Na:ZF}{bs bm bmB:Tu}{hdct:Bool}{sn:Tj}{sub:Tu}{ab:Bool}{col:Ww}{dd:Tc}{k0 k1 k2 k3 k5:Tb}{B Bn newId nid initId inN:String}{bmN:Tu}
def SF(Fn:u3 Bn newId inN bmN)(G:bmB.contains (.type Bn)=Zl)(F:u3 B nid initId bmB)(T:OwnTail hp bmB bm) (D:hp.get? C=V (u7 nm qn C Na bs bm hdct sn sub ab col dd k0 k1 k2 k3 k5 newId))(hn:hp.Ns Na mN)(hi:mN "__init__"=V (.ref fI))(R:hp.get? fI=V oI)(J:oI.1=.type "function")(P:WP as<=sizeLine) (go:∀h' e,yT hp h' e (.ref C) as->Z0 (ZA prog w) A (call (.ref fI)<|.ref e::as) (λr s'=>r=.none/\Q (.done<|.ret<|.ref e) s') E #[h',ge,dr,tk,ox]):Z0 (ZA prog w) A (eU.«type.__call__» #[.ref C::as,[]]) Q E #[hp,ge,dr,tk,ox]:=by
 repeat (first|with_reducible calc sE D ?_|with_reducible calc wpAny_madeBy_exc D ?_|wp_step)
 calc codeAny_call_builtin_code (vG _ Fn.quiet)<|wpAny_check_new_subU Fn G T D<|codeAny_exc_new_subU Fn G F T D ?_ P;generalize k:({cls:=.type "tuple",data:=.seq as.toArray}:Obj)=m;generalize j:({cls:=.ref C,data:=.fields (bT [.ref hp.1.size,.none,.none,.none,.bool Zo,.none])}:Obj)=u;let H:∀b o,hp.get? b=V o->((hp.push m).push u).get? b=V o:=λb o q=>Zj _<|Zj _ q
 let I:((hp.push m).push u).get? (hp.1.size+1)=V u:=by
  subst j k
  heap_get
 let W:((hp.push m).push u).get? hp.1.size=V m:=by subst j k;show Zj _<|yS 07 07
 let L:=H _ _ D;let Y:((hp.push m).push u).Ns Na mN:=let ⟨o,S,X,q,r⟩:=hn;#[o,S,X,H _ _ q,r];let cC:(gF C::bm).contains (.ref C)=Zl:=03;let T1:=T.keeps H;let made:yT hp ((hp.push m).push u) (hp.1.size+1) (.ref C) as:=#[H,vc<|fP _,hp.1.size,by rw[I,j],vc<|Zm _,by rw[W,k]];let M:=I;subst j k;repeat (first|with_reducible calc sE I ?_|(with_reducible calc wpAny_isSubtype_exc L ?_;rw[cC])|wp_step)
 calc wpAny_typeLookup_tail L Y T1 F.mroIs F.init.lookup ?_;rw[hi];calc d4<|Ze ?_;calc Ze<|yR #[_,H _ _ R,J] ?_;refine Zs<|Ze<|dD (go _ _ made) (λr s' O=>?_) λ_ _ z=>z
 let#[rfl,U]:=O
 wp_walk
 show U
def SG(Fn:u3 Bn newId inN bmN)(m:bmB.contains (.type Bn)=Zl)(F:u3 B nid initId bmB)(T:OwnTail hp bmB bm) (k:hp.get? C=V (u7 nm qn C Na bs bm hdct sn sub ab col dd k0 k1 k2 k3 k5 newId))(hn:hp.Ns Na mN)(hi:mN "__init__"=V (.ref fI))(u:hp.get? fI=V oI)(j:oI.1=.type "function")(D:WP as<=sizeLine) (go:∀h' e,yT hp h' e (.ref C) as->Z0 (ZA prog w) (A.under<|.builtin "type.__call__" #[.ref C::as,[]]) (call (.ref fI)<|.ref e::as) (λr s'=>r=.none/\Q (.ref e) s') E #[h',ge,dr,tk,ox]):Z0 (ZA prog w) A (call (.ref C) as) Q E #[hp,ge,dr,tk,ox]:=by
 let g1:=tc_lookup;let g2:=tc_bind<|.ref C;calc px<|yK ?_;repeat (any_goals (first|assumption|with_reducible calc sE k ?_|wp_step))
 show#[07,codeAny_call_builtin_at (vG _<|by decide +kernel) entry_typeCall<|wpAny_check_type_call_sub k<|SF Fn m F T k hn hi u j D go]
end
def SH{K:W.Frag}(I:K.In h)(G:h.Ns N m)(e:W.nsIn K N x=V (V v)):m x=V v:=by
 let#[o,B,C,go,u,_,k]:=G;unfold W.nsIn at e;split at e
 .rename_i q;let z:=I _ _ q;rw[go]at z;cases z;cases u;split at e
  .rename_i en j;cases e;rw[<-k];unfold nsFind findBy;rw[<-zh,j];rfl
  .split at e<;>cases e
 .cases e
def Qp(K:W.Frag)(C f:ZF):Bool:=match K.lookup C with|some ⟨.type "type",_,.cls cd,sl⟩=>(match cd.3,sl.1 with|.ref C'::bm,[_,_,_,_,V (.builtin n),_]=>C'==C&&n=="ValueError.__new__"&&!cd.11&&W.tailIn K tQ bm&&W.nsOkIn K cd.4&&W.nsIn K cd.4 "__init__"==V (V<|.ref f)&&(match K.lookup f with|some o=>o.1==.type "function"|none=>Zo)|_,_=>Zo)|_=>Zo
def Qp.obj{K:W.Frag}(x:Qp K C f=Zl)(I:K.In h):∃bm N nm q bs hdct sn sub ab col dd k0 k1 k2 k3 k5 E F,h.get? C=V (u7 nm q C N bs bm hdct sn sub ab col dd k0 k1 k2 k3 k5 "ValueError.__new__")/\h.Ns N E/\E "__init__"=V (.ref f)/\OwnTail h tQ bm/\h.get? f=V F/\F.1=.type "function":=by
 unfold Qp at x;split at x;case h_2=>cases x
 rename_i dd cd B ho;split at x;case h_2=>cases x
 rename_i D bm k0 k1 k2 k3 n k5 m u;simp at x;let#[#[#[#[#[#[e1,e2],j],e4],e5],e6],e7]:=x;subst e1 e2;let#[nm,bs,G,N,J,hd,sn,sub,ab,col,H]:=cd;let m:=m;let j:=j;subst m j;let u:B=(bT [k0,k1,k2,k3,V<|.builtin "ValueError.__new__",k5]):=by rw[<-Array.toArray_toList (xs:=B),u]
 subst u;cases k:K.lookup f with|none=>rw[k]at e7;cases e7|some o=>rw[k]at e7;show#[bm,N,nm,J,bs,hd,sn,sub,ab,col,dd,k0,k1,k2,k3,k5,_,o,I _ _ ho,.of_isNs<|W.isNs_of_in I e5,SH I (.of_isNs<|W.isNs_of_in I e5) e6,W.tail_of_in I e4,I _ _ k,beq_iff_eq.1 e7]
section
variable{X:Cx}{Z:aZ}{U:L2.St}{H:Hp}{s:Z5}{k:Nat}{f C:ZF}{fd:jm}{ps:Tj}{sp:Sp}{aS:Ub}{ds:Tu}{E:XK}{Q:VK}{us:Tu}{vs:Ub}{W:aQ}
def SI(xc:Qp X.K C f=Zl)(F:bW X.1 X.w X.K X.4 X.5 (eR X.1 X.w) κ k f fd ps sp)(hr:bJ κ (k+1) X.A)(hc:Qv X.A H)(hb:Qe X.K fd ps ds)(hd:Vals aS ds)(I:Inv X Z U H s)(r:Vals vs us)(hz:WP us<=sizeLine) (h:∀e,H e=Zg->sp (.ref e::(vs++aS)) (upd H e<|cB e C .none Zg) (λv H2=>v=.ah/\Q (.ref e) H2) E) (hx:∀e s' H',Inv X Z U H' s'->E e Zg H'->W e s'):Z0 (ZA X.1 X.w) X.A (call (.ref C) us) (EP X Z U Q) W s:=by
 let#[bm,Na,nm,qn,bs,Y,sn,sub,ab,col,dd,k0,k1,k2,k3,k5,mN,oI,O,hN,R,T,hf,P]:=Qp.obj xc I.cO;let#[G,ge,dr,tk,ox]:=s;refine SG zi 01 zi T O hN R hf P hz λm e M=>?_
 let#[t,L,_,_]:=M.3;let he:H e=Zg:=by cases z:H e with|none=>rfl|some u=>let#[o,z']:=FO<|I.aw e u z;rw[show G.get? e=Zg from M.2]at z';cases z'
 let B:∀b u,G.get? b=V u->m.get? b=V u:=λb u q=>M.1 b u q
 let j:∀{b:ZF}{u:HO},H b=V u->upd H e (cB e C .none Zg) b=V u:=λ{b u} q=>by rw[Jq λz=>by subst z;rw[he]at q;cases q];show q
 let un:Un X.fs [] H (upd H e<|cB e C .none Zg) G m:=#[λb o q _ _ _=>B b o q,λb o q _ _ _=>#[o.4,B b o q],λb o q n _=>by rw[Jq λz=>by subst z;rw[show G.get? b=Zg from M.2]at q;cases q];show n,λb o q _=>#[o,B b o q],λb xs q=>j q,λb o u q=>j q,λb ps q=>#[#[],by rw[j q];simp]];let ok:c8 X.1 X.w (upd H e<|cB e C .none Zg) m:=λb u q=>by
  by_cases z:b=e
  .subst z;rw[Jz]at q;cases q;show cB.ok L 07 07 07 07 07
  .rw[Jq z]at q;show(I.aw b u q).fw (λd v _ p=>B d v p) (λd p=>j p) λd xs p=>j p
 let D:Inv X Z U (upd H e<|cB e C .none Zg) #[m,ge,dr,tk,ox]:=I.un (t':=tk) un ok;let S:=h e he;let ra:Vals (bA.ref e::(vs++aS)) (gF e::(us++ds)):=.cons 07 (r.append hd);let la:=ra.length;let lf:=F.1 _ _ _ _ S;let hl:(gF e::us++ds).length=WP ps:=by rw[fR];lia
 refine px<|pj (F.2 _ _ _ _ #[.ref e::us,[]] _ _ _ _ (hr.make C us []) ((D.pP<|hc.mono λb o u q=>j q).make C us []) (hb _ (.ref e::us) D.cO hl) ra S) λJ s' q=>?_
 match J,q with|.error x,q=>let#[H',I',z]:=Am D q;show hx x s' H' I' z|.ok (.ret u),q=>let#[v,H',J3,rv,ev,q3]:=D.after q;subst ev;show#[rv,#[bA.ref e,H',J3,07,q3]]|.ok .next,q=>show i7 q|.ok .brk,q=>show i7 q|.ok .cont,q=>show i7 q
end
def Yy(c:Str)(f:Tv->IH->Res IV)(aS:Tv)(a:A1):E1:=λU h=>(a U h).bind λvs h1=>(f (.ref (WP h1)::(vs++aS))<|h1++[.exc c []]).bind λr J=>match r with|.ah=>.ok (.ref (WP h1)) J|_=>.stuck
section
variable{O:aN}{X:Cx}{k:Nat}{fa C:ZF}{fd:jm}{ps:Tj}{f:Tv->IH->Res IV}{aS:Tv}{ds:Tu}{x c:Str}{p pos:Pos}{e:Expr}{es:Td}{ma:A1}
def SJ(xc:Qp X.K C fa=Zl)(F:bW X.1 X.w X.K X.4 X.5 (eR X.1 X.w) κ k fa fd ps<|jd O X.K ps f)(hC:W.nsIn X.K Z4 c=V (V<|.ref C))(hr:bJ κ (k+1) X.A)(hc:Qv X.A H)(hb:Qe X.K fd ps ds) (hd:∃vs,Vals vs ds/\∀Y H,aA X.K Y H aS vs)(R:WP us+WP ds+1=WP ps)(hz:WP us<=sizeLine)(N:aB O X Z Y bD h U H s)(r:jy X.K Y H xs us) (K:Kont O X RU Z Y bD U H ((f (.ref (WP h)::(xs++aS))<|h++[.exc c []]).bind λr J=>match r with|.ah=>.ok (.ref (WP h)) J|_=>.stuck) Q E):Z0 (ZA X.1 X.w) X.A (call (.ref C) us) Q E s:=by
 let#[vs,P,q]:=r;let#[dv,rd,S]:=hd;let hl1:=P.length;let hl2:=rd.length;refine dD (SI (Q:=λz m=>∀u j,Inv X Z U m j->RelV z u->Q u j) (E:=λv _ m=>∀j,Inv X Z U m j->E v j) xc F hr hc hb rd N.1 P hz (λb hx=>#[by rw[jj,Z1];lia,?_]) λ_ j _ B z=>z j B) (λu j ⟨z,m,B,r',k'⟩=>k' u j B r') λ_ _ z=>z
 let#[R2,n2]:=N.2.alloc (o:=cB b C .none Zg) (io:=.exc c []) hx #[C,.none,Zg,.inl #[07,07],hC,Jz,.inl 07];let G:(Y++[b])[WP h]?=V b:=by rw[<-N.2.1,ZL<|Zm _];simp
 calc#[Y++[b],h++[.exc c []],.ref (WP h)::(xs++aS),R2,#[_,_,07,#[b,07,G],(aA.mono n2 _ _ q).append<|S _ _],?_];cases L:f (.ref (WP h)::(xs++aS)) (h++[.exc c []])with
 |ok v h'=>rw[L]at K;intro z m I M D qz;cases v with|ah=>cases (show z=.ah from qz);show#[07,λu j B ru=>K u j m I #[B,M,N.3.mono<|n2.trans D] (n2.trans D) #[.ref b,ru,b,07,D.at G]]|_=>show Zf K
 |exc n h'=>rw[L]at K;show λa m I M D hi j B=>K [] a j m I #[by simpa using B,M,N.3.mono<|n2.trans D] (n2.trans D) hi
 |stuck=>rw[L]at K;show Zf K
def SK(xc:Qp X.K C fa=Zl)(kp:W.keepIn X.K (.ref C)=Zl)(F:bW X.1 X.w X.K X.4 X.5 (eR X.1 X.w) κ k fa fd ps<|jd O X.K ps f)(hC:W.nsIn X.K Z4 c=V (V<|.ref C))(L:Roo κ (k+1) X)(hg:Gl X x)(hm:X.4 x=V (.ref C))(P:Qe X.K fd ps ds)(hd:∃vs,Vals vs ds/\∀Y H,aA X.K Y H aS vs) (ha:dR O X (e::es) ma)(m:∀U h xs h',ma U h=.ok xs h'->WP xs+WP ds+1=WP ps)(S:WP ps<=sizeLine)(G:(x==("__debug__":Str))=Zo:=by decide)(R:ZT (e::es) X.10=(Zo,bj e X.10)::ZT es X.10:=by rfl)(B:(eJ pos<|ZT es X.10).any (·.1)=Zo:=by rfl):ai O X (.Call (.Name x p) (e::es) [] pos) (Yy c f aS ma):=by
 intro Z s U H Y I h Q E N K;calc iD<|VC N.1 hg hm ?_ G;calc W.callWith_K (h₀:=X.5) N.1.1.1.1 kp ?_ R B;let j:=K;unfold Yy at j;calc ha pos Z s U H Y I h _ E N ?_;cases u:ma I h with|exc n h'=>rw[u]at j;show j|stuck=>rw[u]at j;show j|ok xs h'=>
  rw[u]at j;intro us s1 H1 U1 D n1 M;let hl:WP xs=WP us:=by let#[vs,rv,q]:=M;rw[<-rv.length,q.length]
  let hn:=m I h xs h' u;show#[D.1.cO,SJ (us:=us) xc F hC L.r (D.1.cV L.c) P hd 05 (Z7<|Zb (Zb (Zc (Zb (Zh hl.symm)<|Zi _ _) 1)<|Zh hn) S) D M<|Kont.mono (r:=(f (IV.ref (WP h')::(xs++aS))<|h'++[.exc c []]).bind λr J=>match r with|IV.ah=>Res.ok (IV.ref (WP h')) J|_=>Res.stuck) j n1]
end
section
variable{X:Cx}{Z:aZ}{U:L2.St}{H:Hp}{s:Z5}{f C e:ZF}{tv:Zv}{d:Tc}{us:Tu}
def SM(h:H a=V o):upd H a o=H:=by
 funext b;by_cases z:b=a
 .subst z;rw[Jz,h]
 .rw[Jq z]
def SN(xc:Qp X.K C f=Zl)(I:Inv X Z U H s)(ha:H e=V (cB e C tv d))(hz:WP us<=sizeLine) (go:∀s',Inv X Z U H s'->Q .none s'):Z0 (ZA X.1 X.w) X.A (call (.builtin "ValueError.__init__")<|.ref e::us) Q E s:=by
 let#[bm,Na,nm,qn,bs,M,sn,sub,ab,col,dd,k0,k1,k2,k3,k5,mN,oI,F,hN,hni,T,hf,Y]:=Qp.obj xc I.cO;let#[oe,O,g1,g2,D,W,g5,g6]:=cB.get I.aw ha;calc px<|qT PySem.F.excBase_ValueError.init.plain PySem.F.excBase_ValueError.initEntry ?_;let#[j,L,J,S,R]:=s;refine wpAny_check_init_subU zi T F g1 g2 ?_
 wp_walk
 let sz:=(rG.1 W).1;obtain⟨G,h0⟩:∃G,O[0]?=V G:=#[O[0],oJ<|mM 06];rw[D];calc Zs ?_;dsimp only;rw[h0];calc Zs ?_;let B:=Zj {cls:=.type "tuple",data:=.seq us.toArray} g1;calc Ze<|lY B D (mM 06) ?_;let I1:Inv X Z U H #[j.push {cls:=.type "tuple",data:=.seq us.toArray},L,J,S,R]:=I.kept λb o q=>Zj _ q
 let k:=kH D (·.setIfInBounds 0 (gF j.1.size));let m:=l8 (ij (·.setIfInBounds 0 (gF j.1.size))) B<|rF k;let P:Inv X Z U (upd H e<|cB e C tv d) #[(j.push {cls:=.type "tuple",data:=.seq us.toArray}).update e (ij (·.setIfInBounds 0 (gF j.1.size))),L,J,S,R]:=I1.write (by rw[ha];trivial) (.inl 07) (λb u n q=>(ZI _ _<|bP n).trans q) #[_,m] (cB.ok m ((vv _ _).trans g2) k (by simp_all) (by simp_all)<|(FN _ _).trans g6);rw[SM ha]at P;let q2:=go _ P;cases G with|ref b=>show kT<|Zs q2|_=>show Zs<|Zs q2
end
structure ke(K:W.Frag)(D:ZF):Prop where
 sp:W.specialIn K (.ref D) "__getattribute__"=V (V<|.builtin "type.__getattribute__")
 rd:W.readsIn K D (.type "type")=Zl
 fc:W.findCls K (.ref D) (.type "type") "__init__"=V (.val<|.builtin "ValueError.__init__")
def VJ(rz:Str->Bool)(a:A1):E1:=λU h=>(a U h).bind λvs h1=>match vs with|[.ref n,.str _]=>(match h1[n]? with|some (.exc c _)=>if rz c then .ok .ah h1 else .stuck|_=>.stuck)|_=>.stuck
section
variable{O:aN}{X:Cx}{D:ZF}{x:Str}{p pos apos:Pos}{e:Expr}{es:Td}{ma:A1}{pl:Sem Bool}
def SO(hx:∀c C,rz c=Zl->W.nsIn X.K Z4 c=V (V<|.ref C)->∃f,Qp X.K C f=Zl)(hg:Gl X x)(hm:X.4 x=V (.ref D))(B:ke X.K D) (ha:dR O X (e::es) ma)(F:(x==("__debug__":Str))=Zo:=by decide)(R:ZT (e::es) X.10=(Zo,bj e X.10)::ZT es X.10:=by rfl)(u:(eJ pos<|ZT es X.10).any (·.1)=Zo:=by rfl) (ht:bj (.Call (.Attribute (.Name x p) "__init__" apos) (e::es) [] pos) X.10=(do
   let ov<-bj (.Name x p) X.10
   mV apos.atName
   let (f,first)<-iE [ov] (pA ov "__init__" pl)
   sO pos f first (eJ pos<|ZT (e::es) X.10) (oz pos<|oo [] X.10)):=by rfl):
  ai O X (.Call (.Attribute (.Name x p) "__init__" apos) (e::es) [] pos) (VJ rz ma):=by
 intro Z s U H Y bD h Q E N K;calc W.methodCall_KW (VC N.1 hg hm ?_ F) ht;calc W.method_cls N.1.cO B.1<|W.cls_value N.1.cO B.2 B.3 07 ?_;let N':aB O X Z Y bD h U H {s with toks:=s.4+1}:=#[N.1.tok _,N.2,N.3];calc vo ?_ R u;refine(ha pos).run N' K λxs J us s1 H1 M k n1 r1 j=>?_
 let#[vs,rv,qs]:=r1;by_cases G:∃n y,xs=[.ref n,.str y]
 .let#[n,y,rfl]:=G;let#[w1,w2,rfl,#[a,rfl,L],q2]:=qs.hI;let#[u1,u2,rfl,p1,p2]:=rv.two;cases p1;dsimp only at j;cases m:J[n]? with|none=>rw[m]at j;show(j).elim|some ob=>
   rw[m]at j;cases ob with
   |exc c fs=>
    dsimp only at j;split at j
    .rename_i I;let#[C,tv,d,fe,hC,S,ht']:=Vj k.2 m L;let#[f,xc]:=hx c C I hC;let P:1<=sizeLine:=01;show SN xc k.1 S (by simpa using P) λs' I'=>j _ s' H1 M #[I',k.2,k.3] .refl #[.ah,07,07]
    .show(j).elim
   |_=>show(j).elim
 .calc(show False from ?_).elim;split at j
  .show G #[_,_,07]
  .show j
end
def Y4:Tu->Bool|.ref _::r=>Y4 r|l=>l==tQ
theorem Gx(self):∀{l:Tu},Y4 l=Zl->refuseLoop self "__setattr__" l=pure ()|.ref c::r,e=>by rw[refuseLoop_ref];show Gx self e|[],e=>by cases e|.type n::r,e=>by rw[show m3 n::r=tQ from beq_iff_eq.1 e];show PySem.F.store_ValueError.8 self|.none::_,e=>absurd (beq_iff_eq.1 e) nofun|.bool _::_,e=>absurd (beq_iff_eq.1 e) nofun|.int _ _::_,e=>absurd (beq_iff_eq.1 e) nofun|.str _ _::_,e=>absurd (beq_iff_eq.1 e) nofun|.float _ _::_,e=>absurd (beq_iff_eq.1 e) nofun|.bytes _ _::_,e=>absurd (beq_iff_eq.1 e) nofun|.ellipsis::_,e=>absurd (beq_iff_eq.1 e) nofun|.notImplemented::_,e=>absurd (beq_iff_eq.1 e) nofun|.builtin _::_,e=>absurd (beq_iff_eq.1 e) nofun
theorem Gy:∀{l:Tu},Y4 l=Zl->l.contains (.type "object")=Zl|.ref c::r,e=>by rw[List.contains_cons,Gy (l:=r) e,Bool.or_true]|[],e=>by cases e|.type n::r,e=>by rw[show m3 n::r=tQ from beq_iff_eq.1 e];decide|.none::_,e=>absurd (beq_iff_eq.1 e) nofun|.bool _::_,e=>absurd (beq_iff_eq.1 e) nofun|.int _ _::_,e=>absurd (beq_iff_eq.1 e) nofun|.str _ _::_,e=>absurd (beq_iff_eq.1 e) nofun|.float _ _::_,e=>absurd (beq_iff_eq.1 e) nofun|.bytes _ _::_,e=>absurd (beq_iff_eq.1 e) nofun|.ellipsis::_,e=>absurd (beq_iff_eq.1 e) nofun|.notImplemented::_,e=>absurd (beq_iff_eq.1 e) nofun|.builtin _::_,e=>absurd (beq_iff_eq.1 e) nofun
section
variable{prog:cy}{w:bV}{A:cz}{K:W.Frag}{C x:ZF}{s:Z5}{R:rh->Z5->Prop}{ox:Obj}{name:Str}{v:Zv}
structure gj(K:W.Frag)(C:ZF)(name:Str):Prop where
 line:(W.clsIn K C).any (λcd=>Y4 cd.3&&cd.6)=Zl
 free:W.takerIn K C name=V Zg
 way:W.findIn K (.ref C) "__setattr__"=V (V<|.builtin "object.__setattr__")
def SQ(S:gj K C name)(X:K.In s.1)(I:W.InstAt s.1 x ox C Zg) (h:∀b,Z0 (ZA prog w) A.in1 (Builtin.ObjectAttr.storeInOwnDict (.ref x) (.ref C) (.str name tk) name v b) (λfin s'=>match fin with|.done f=>R (.ok f) s'|.again c=>c.quiet=Zl/\i1 (ZA prog w) A c R s') (λe s'=>R (.error e) s') s):i1 (ZA prog w) A (.call (.builtin "object.__setattr__") #[[.ref x,.str name tk,v],[]]) R s:=by
 let#[cd,u,D]:=W.any_some S.1;let#[ho,E]:=sQ.1 D;let ne:cd.3.isEmpty=Zo:=by cases q:cd.3 with|cons _ _=>rfl|nil=>rw[q]at ho;cases ho
 let m:W.Looks (ZA prog w) s.1 (isInstance (.ref x)<|.type "object") Zl:=I.type.andThen (W.looks_mroIn X (by unfold W.mroIn;rw[u,Option.bind_some,if_neg (by rw[ne];decide),Gy ho]));let k:=PySem.F.store_object;let#[j,ha,B]:=yi.1 S.2;let st:W.Looks (ZA prog w) s.1 (Builtin.ObjectAttr.storeTaker? j) Zg:=by
  cases j with
  |some a=>let#[b,F,e]:=ZK.1 B;calc(W.looks_takesIn X F).andThen ?_;cases b with|false=>show .now|true=>cases e
  |none=>show .now
 calc qT k.2.4 k.3 ?_;calc @W.check_slot (ZA prog w) _ _ s "object.__setattr__" "object" "__setattr__" (.ref x) [.str name tk,v] [] _ k.4 k.5 m (k.7 _ _ _) ?_;rw[W.osa_eq,refuse_eq];let G:W.Looks (ZA prog w) s.1 (mroOf<|.ref C) cd.3:=(W.looks_clsIn X u).andThen .now;calc Ze<|Ze<|I.type.here<|Ze<|G.here ?_;rw[Gx _ ho];show Zs<|Ze<|I.type.here<|Ze<|(W.looks_findIn X ha).here<|Ze<|st.here<|h _
end
section
variable{prog:cy}{w:bV}{A:cz}{K:W.Frag}{C x:ZF}{s:Z5}{ox:Obj}{name:Str}{v:Zv}
def SR(S:gj K C name)(X:K.In s.1)(I:W.InstAt s.1 x ox C Zg)(hd:ox.2=Zg)
  (go:∀h' t',h'.get? x=V {ox with dict:=V s.1.1.size}->h'.Ns1 s.1.1.size (λy=>if y=name then V v else Zg)->(∀b o,b≠x->s.1.get? b=V o->h'.get? b=V o)->Q () {s with heap:=h',toks:=t'}):
  Z0 (ZA prog w) A (setAttr (.ref x) name v) Q E s:=by
 refine W.set_plain X I S.3<|SQ S X I λb=>?_
 let#[cd,M,J]:=W.any_some S.1;let u:=(sQ.1 J).2;obtain⟨k,j,hn,-⟩:=I;let#[Y,L,m,O]:=ox;dsimp only at j hd go;subst j hd;let#[B,U,R,Z,os]:=s;dsimp only at k X go ⊢;calc Ze<|Zs<|Ze<|Ze<|yM k<|Ze<|(W.looks_clsIn X M).here ?_;rw[u];let fr:=(Heap.get?_some_iff.1 k).2;let lt:=Zu<|Z9 k;let F:=Zj {cls:=.type "dict",data:=.dict #[]} k;change Z0 _ _ (if (!true||!typeHasDict (.ref C))=Zl then pure Zg else match m with|Data.cls c=>pure Zg|_=>(alloc {cls:=m3 "dict",data:=Data.dict #[]}>>=λd=>update x (λo=>{o with dict:=V d})>>=λ_=>dictMade (.ref C) x d)) _ _ _;rw[if_neg<|by simp[typeHasDict]];split
 .cases hn
 .calc Ze<|wpAny_alloc'<|Ze<|wpAny_update' F<|Zs ?_;let D:=(Heap.get?_update_ne (B.push {cls:=.type "dict",data:=.dict #[]}) B.1.size x (λo:Obj=>{o with dict:=V B.1.size}) lt.symm).trans<|yS 07 07;refine Ze<|Zs<|Ze<|wpAny_nsSet1 (Heap.Ns1.of_empty #[_,#[],_,D,07,λe z=>absurd z 03,λ_=>07]) λh' H G=>?_
  let#[oD,es,ep,g,P,gl]:=H.count<|Within.cons name v Within.nil;calc Ze (wpAny_lookBehind g (by rw[P];show pastItsLine_dict<|Zb gl<|kx 1 _)<|Zs ?_);refine go h' _ ?_ H λb o nb q=>(G.2 b<|Zu<|Z9 q).trans<|(Heap.get?_update_ne _ _ _ _ nb).trans<|Zj _ q
  calc(G.2 x lt).trans<|l8 _ F ?_;revert fr;cases m<;>show id
end
def SS{h:bu}(n:h.Ns1 a m)(e:m f=V v):∃o,h.get? a=V o/\o.isFreed=Zo/\W.lookIn f o=V (V v):=by let#[o,B,C,g,k,_,_,j]:=n;calc#[o,g,(Heap.get?_some_iff.1 g).2,?_];let z:=j f;rw[e]at z;let#[en,q1,q2]:=ZK.1 z;unfold W.lookIn;rw[k];dsimp only;rw[zh,q1];show congrArg (λu=>V<|V u) q2
def AW:IV->Bool|.int _=>Zl|.ref _=>Zl|_=>Zo
def Xt(st:Str->Bool)(f:Str)(o e:E1):S1:=λU h=>rS U (e U h) λv h1=>rS U (o U h1) λov J=>match ov with|.ref i=>(match J[i]? with|some (.exc c [])=>if st c&&AW v then .next U (J.set i<|.exc c [(f,v)])else .stuck|_=>.stuck)|_=>.stuck
section
variable{O:aN}{X:Cx}{o value:Expr}{mo mv:E1}{pos pos':Pos}{fl:Str}
def SU (hu:XV Y y u)(S:gj X.K C fl)(J:W.nsIn X.K Z4 c=V (V<|.ref C))(N:aB O X Z Y bD h U H s)(P:h[n]?=V (.exc c []))(hi:Y[n]?=V a) (go:∀s' H',aB O X Z Y bD (h.set n<|.exc c [(fl,y)]) U H' s'->bc Y H Y H'->Q () s'):Z0 (ZA X.1 X.w) X.A (setAttr (.ref a) fl u) Q E s:=by
 let#[C',B,d,fe,k,ha,ht]:=Vj N.2 P hi;rw[J]at k;cases k;let#[oe,vs,g1,g2,I,g4,g5,M]:=cB.get N.1.aw ha;obtain rfl:d=Zg:=by
  rcases fe with⟨_,q⟩|⟨_,_,_,_,_,q,_⟩
  .show q
  .cases q
 refine SR S N.1.cO #[g1,g2,by unfold W.notCls;rw[I],by rw[M];trivial] M λR D G x2 x3=>?_
 let#[j,d1,d2,d3]:=SS x2<|if_pos 07;let hn:=N.1.aw.fresh<|Zm _;let ne:s.1.1.size≠a:=λz=>by rw[z,ha]at hn;cases hn
 let L:(s.1.push j).get? s.1.1.size=V j:=yS 07 d2;let I1:Inv X Z U (upd H s.1.1.size<|.bK j<|.own 0) {s with heap:=s.1.push j,toks:=D}:=N.1.laid (λb u q=>Zj _ q) (Zm _) #[L,#[_,L]];let#[R1,n1]:=N.2.grow hn;let m:upd H s.1.1.size (.bK j<|.own 0) a=V (cB a C B Zg):=by rw[Jq ne.symm];show ha
 let F:oO (upd H s.1.1.size (.bK j<|.own 0) a):=by rw[m];trivial
 let#[R2,n2]:=R1.write hi m F (io:=.exc c [(fl,y)]) #[C,B,V s.1.1.size,.inr #[fl,y,s.1.1.size,j,u,07,07,by rw[Jq ne,Jz],d3,hu],J,Jz,ht.mono λb o u q=>by rw[Jq (λz=>by subst z;rw[ha]at q;cases q),Jq λz=>by subst z;rw[hn]at q;cases q];show q];let I2:Inv X Z U (upd (upd H s.1.1.size<|.bK j<|.own 0) a<|cB a C B<|V s.1.1.size) {s with heap:=R,toks:=D}:=I1.write F (.inl 07) (λb u nb q=>by
   by_cases z:b=s.1.1.size
   .lia
   .show x3 b u nb<|(Heap.get?_push_ne _ b _ z).symm.trans q) #[_,G] (cB.ok G g2 I g4 g5 07)
 show go _ _ #[I2,R2,N.3.mono<|n1.trans n2]<|n1.trans n2
def SV{st:Str->Bool}(ho:ai O X o mo)(F:ai O X value mv)(hx:∀c C,st c=Zl->W.nsIn X.K Z4 c=V (V<|.ref C)->gj X.K C fl)(hs:ow value (V<|.Attribute o fl pos') pos.1 X.10=pure Zo:=by rfl):
  cJ O X (.Assign [.Attribute o fl pos'] value pos) (Xt st fl mo mv):=by
 intro Z s U H Y bD h Q E N K;calc Es (cP F N K λv h1 u s1 H1 U1 N1 n1 r1 K1=>cP ho N1 K1 λov J w s2 H2 W2 R n2 r2 k=>?_) hs;cases ov with
 |ref i=>
  let#[w,I,a,e1,L]:=r2;subst e1;cases I;dsimp only at k;cases D:J[i]? with
  |none=>rw[D]at k;show(k).elim
  |some ob=>
   rw[D]at k;by_cases M:∃c,ob=.exc c []
   .let#[c,rfl]:=M;dsimp only at k;split at k
    .rename_i G;let#[G,F]:=sQ.1 G;let#[C,_,_,_,P,_]:=Vj R.2 D L;refine SU ?_ (hx c C G P) P R D L λs3 H3 N3 n3=>k s3 U H3 W2 N3 n3
     let#[w1,B,S]:=r1;cases v with
     |int y=>cases S;show B
     |ref j=>let#[b,rfl,q]:=S;let#[#[m,rfl],_]:=n2;show#[b,B,by rw[ZN (Zp.1 q).1];show q]
     |_=>cases F
    .show(k).elim
   .cases ob with
    |exc c fs=>cases fs with
     |nil=>show absurd #[c,07] M
     |cons _ _=>show(k).elim
    |_=>show(k).elim
 |_=>show(k).elim
end
end L3
namespace L3
open PySem PySem.Spec PySem.Calls PyProof.Rows L2
section
variable{prog:cy}{w:bV}{A:cz}{E:aQ}{s:Z5}{K:W.Frag}{x D:ZF}{ox od:Obj}{f:Str}{v:Zv}
def SW(X:K.In s.1)(I:W.InstAt s.1 x ox D<|V od)(C:W.hasDictIn K D=Zl)(m:W.findIn K (.ref D) f=V Zg)(B:W.lookIn f od=V (V v)) (G:Q (.done<|.ret v) s):Z0 (ZA prog w) A (eU.«object.__getattribute__» #[[.ref x,.str f tk],[]]) Q E s:=by
 let#[cd,F,hd]:=W.any_some C;let u:W.Looks (ZA prog w) s.1 (l5<|.ref x) (.ref D):=I.type;let k:=W.looks_findIn (M:=ZA prog w) X m;let j:=W.looks_own (M:=ZA prog w) X I F<|by unfold W.ownOf;rw[if_pos hd];show B
 let#[H,g,d,t,os]:=s;repeat (any_goals (first|assumption|with_reducible calc u.at ?_|with_reducible calc k.at ?_|with_reducible calc j.at ?_|wp_step))
def SY(e:hE K D)(X:K.In s.1)(I:W.InstAt s.1 x ox D<|V od)(G:W.findIn K (.ref D) f=V Zg)(C:W.lookIn f od=V (V v))(u:∀id,v≠.builtin id) (B:Q v s):Z0 (ZA prog w) A (getAttrBy (.ref x) (.str f tk) Zl b) Q E s:=by
 let k:W.Looks (ZA prog w) s.1 (l5<|.ref x) (.ref D):=I.type;let m:=W.looks_findIn (M:=ZA prog w) X e.1;let j:=W.looks_findIn (M:=ZA prog w) X e.3;let#[L,g,d,t,os]:=s;dsimp only at k m j;let H:=F.attr_ValueError.1.2<|.ref x;let n2:(sW "BaseException.__getattribute__"==sW "object.__getattribute__")=Zo:=by decide +kernel
 let J:(b&&onTheHeap (sW "BaseException.__getattribute__"))=Zo:=by cases b<;>rfl
 repeat (any_goals (first|assumption|with_reducible calc k.at ?_|with_reducible calc m.at ?_|with_reducible calc j.at ?_|wp_step))
 calc qT F.attr_ValueError.1.4 F.entry_bexc_ga<|FV X I.1 I.2 e.2<|SW X I e.6 G C ?_;repeat (any_goals (first|assumption|wp_step))
 split
 .show absurd 07 (u _)
 .show Zs B
def S0(e:hE K D)(X:K.In s.1)(I:W.InstAt s.1 x ox D<|V od)(u:W.findIn K (.ref D) f=V Zg)(k:W.lookIn f od=V (V v))(j:∀id,v≠.builtin id) (m:Q v {s with toks:=s.4+1}):Z0 (ZA prog w) A (getAttr (.ref x) f b) Q E s:=(Ze (wpAny_mkText<|SY e X I u k j m))
def XV.nb(h:XV Y y u):∀id,u≠.builtin id:=by cases y with|int i=>let#[t,rfl]:=h;show nofun|ref j=>let#[b,rfl,_]:=h;show nofun|_=>cases h
end
def Yw(xa:Str->Bool)(f:Str)(o:E1):E1:=λU h=>(o U h).bind λv h1=>match v with|.ref i=>(match h1[i]? with|some (.exc c [(g,y)])=>if xa c&&decide (g=f)then .ok y h1 else .stuck|some (.i9 c [(g,y)])=>if xa c&&decide (g=f)then .ok y h1 else .stuck|_=>.stuck)|_=>.stuck
section
variable{O:aN}{X:Cx}{o:Expr}{mo:E1}{pos:Pos}{fl:Str}
def S2(ho:ai O X o mo)(hx:∀c C,xa c=Zl->W.nsIn X.K Z4 c=V (V<|.ref C)->hE X.K C/\W.findIn X.K (.ref C) fl=V Zg)(hb:qV o fl X.10 (bj o X.10)=bj o X.10:=by rfl):ai O X (.Attribute o fl pos) (Yw xa fl mo):=by
 intro Z s U H Y bD h Q E N K;refine E7 hb<|ho.run N K λv h1 u s1 H1 F B n1 r1 m=>?_
 let J:∀{i a:Nat}{c:Str}{C:ZF}{D:Obj}{S:Th}{g:Str}{y:IV},xa c=Zl->g=fl->W.nsIn X.K Z4 c=V (V<|.ref C)->s1.1.get? a=V D->D.1=.ref C->D.3=.fields S->gY F H1 D.2 [(g,y)] ->(∀t,XV F y t->Q t {s1 with toks:=s1.4+1})->Z0 (ZA X.1 X.w) X.A (getAttr (.ref a) fl Zl) Q E s1:=by
  intro i a c C D S g y R P M g1 g2 L G k;subst P;let#[ei,hf]:=hx c C R M;rcases G with⟨q,_⟩|⟨f',i',dx,od,t,q,qd,qH,ql,qx⟩
  .cases q
  .cases q;let gd:=(B.1.aw dx _ qH).1;show S0 ei B.1.cO #[g1,g2,by unfold W.notCls;rw[L],by rw[qd];show gd] hf ql qx.nb<|k t qx
 cases v with
 |ref i=>
  let#[wv,rw',a,e1,hi]:=r1;subst e1;cases rw';dsimp only at m;cases hh:h1[i]? with|none=>rw[hh]at m;show(m).elim|some ob=>
   rw[hh]at m;let I:∀fs:Wo,(∃g y,fs=[(g,y)])\/¬ ∃g y,fs=[(g,y)]:=λ_=>zb _
   let rep:∀{y:IV}{t:Zv}{H2:Hp},XV F y t->RU X.K F H2 y t:=by intro y t H2 q;cases y with|int i=>show#[.int i,q,07]|ref j=>let#[b,rfl,q]:=q;show#[.ref b,07,b,07,q]|_=>cases q
   cases ob with
   |exc c fs=>
    rcases I fs with⟨g,y,rfl⟩|no
    .dsimp only at m;split at m
     .rename_i hz;let#[R,P]:=sQ.1 hz;let#[C,tv,d,G,M,ha,_]:=Vj B.2 hh hi;let#[D,S,g1,g2,L,_,_,g6]:=cB.get B.1.aw ha;rw[<-g6]at G;show J (i:=i) R (of_decide_eq_true P) M g1 g2 L G λt q=>m t _ H1 F #[B.1.tok _,B.2,B.3] .refl<|rep q
     .show(m).elim
    .match fs,no,m with|[],_,m=>show(m).elim|_::_::_,_,m=>show(m).elim|[(g,z)],no,m=>show absurd #[g,z,07] no
   |i9 c fs=>
    rcases I fs with⟨g,y,rfl⟩|no
    .dsimp only at m;split at m
     .rename_i hz;let#[R,P]:=sQ.1 hz;let#[C,D,u,S,G,M,ha,g2,L,_]:=Vj B.2 hh hi;show J (i:=i) R (of_decide_eq_true P) M (B.1.aw a _ ha).1 g2 L G λt q=>m t _ H1 F #[B.1.tok _,B.2,B.3] .refl<|rep q
     .show(m).elim
    .match fs,no,m with|[],_,m=>show(m).elim|_::_::_,_,m=>show(m).elim|[(g,z)],no,m=>show absurd #[g,z,07] no
   |_=>show(m).elim
 |_=>show(m).elim
end
end L3
namespace L3
open PySem PySem.Spec PyProof.Rows L2
def Xu(i:Nat)(m:S1):S1:=λU h=>match U[i]? with|some (V (.ref n))=>(match h[n]? with|some (.exc c fs)=>m U<|h.set n<|.i9 c fs|_=>.stuck)|_=>.stuck
def JD.conv(k:JD O X Z Y H r Q E)(I:X.K=Y_.K)(G:X.10=Y_.10)(hs:X.12=Y_.12)(c:∀{Z Y bD h U H s},aB O Y_ Z Y bD h U H s->aB O X Z Y bD h U H s):JD O Y_ Z Y H r Q E:=by cases r with|next U h=>show λD B C j N n2=>k D B C j (c N) n2|brk U h=>show λD B C j N n2=>k D B C j (c N) n2|cont U h=>show λD B C j N n2=>k D B C j (c N) n2|ret v h=>show λu D F B C j N n2 r=>k u D F B C j (c N) n2<|I▸r|exc m U h=>show λpl a D B C j N n2 z J f=>k pl a D B C j (c N) n2 z J<|G▸hs▸f|stuck=>show k
def S3(C:X.N[i]?=V e)(hm:∀oe,jV O (wD X a oe) suite m):tT O X a (V i) suite (Xu i m):=by
 intro Z s U H Y u h Q E n c fs ok j D F B K;let G:i<WP u:=by rw[j.3.1,j.1.11];show(Zp.1 C).1
 unfold Xu at K;rw[B i 07 G]at K;dsimp only at K;rw[D]at K;let I:aB O X Z Y u h U H s:=#[AS ok j.1,j.2,j.3];let#[oe,J,k,n2,d,x]:=Sx I D F;show hm oe Z s U _ Y u _ Q E #[Sy k.1 Jz d x,k.2,k.3]<|(JD.mono (r:=m u<|h.set n<|.i9 c fs) K n2).conv 07 07 07 λq=>#[wC (Sz k.1 Jz q.1) a,q.2,q.3]
section
variable{O:aN}{X:Cx}
section
variable{A:cz}{R:rh->Z5->Prop}{Q E:aQ}{Z:aZ}{bD:aD}{U:L2.St}{G:Hp->Prop}{fq:ZF}{mk:IV->IH->Res IV}{gt:IV->IV->Ww}{i n:Nat}{l I C:ZF}{kw:Wn}
def S4(m:∀{H:Hp}{z:Z5},Inv X Z U H z->aI A z.1)(cm:jD O X A.in1 .Lt gt)(j:X1 O X A.in1 bD U Z G (.ref fq) mk)(k:∀H H',Ext H H'->G H->G H')(N:aB O X Z Y bD h U H z)(g:G H)(hi:Y[i]?=V l) (K:Kont O X RU Z Y bD U H (QU gt mk i Zg h) Q E):Z0 (ZA X.1 X.w) A (call (.builtin "min") [.ref l] [(eA "key",.ref fq)]) Q E z:=by calc kmk_tree PySem.F.kind_min PySem.F.plain_min PySem.F.entry_min (kmk_min_key _ _) ?_;change Z0 _ A.in1 (rJ "min" ["key","default"] 0 #[[],[(eA "key",.ref fq)]]>>=_) _ _ z;calc Ze<|qX (show rJ "min" ["key","default"] 0 #[[],[(eA "key",.ref fq)]]=pure [V<|.ref fq,Zg]from 07) ?_;calc Ze<|Zs ?_;show Gu (dv:=Zg) Rq m cm j k N g hi (λy e=>by cases e) (λv u q=>q) (λc u q r=>#[q,r]) K
end
def XC(gt:IV->IV->Ww)(q:Str)(j:Nat)(js:Tp)(aa:A1)(m:E1):E1:=λU h=>(aa U h).bind λxs h1=>match h1[j]? with|some (.tab q')=>if q'=q then(match xs with|[.ref i]=>QU gt (λv h'=>m (V v::js.map λj=>(U[j]?).join) h') i Zg h1|_=>.stuck)else .stuck|_=>.stuck
def S5(hg:Gl X "min")(hm:X.4 "min"=Zg)(ha:dR O X [a] aa)(cm:∀A:cz,A.5+64<cLine->jD O X A .Lt lt)(hs:ZT [a] X.10=[(Zo,bj a X.10)])
  (F:Roo κ (k+2) X)(hcd:W.codeIn X.K X.10.7 q=Zl)(hq:X.10.5=q++".<locals>.")(B:QD X.4 X.5)(hx:QW params=V x)(S:iR X.N X.10.1.2 x caps js scope)
  (hb:∀f cd s' H',ai O (mF X X.A.in1 (x::caps) q scope f cd s' H') body m):
  ai O X (.Call (.Name "min" p) [a] [#[V "key",.Lambda params body scope lp,kp]] pos) (XC lt q j js aa m):=(λZ s U H Y bD h Q E N K=>by
 let P:pz scope X.10=pure (cb X.10.4 scope.2 []):=wm λy hm hk=>N.1.1.7 y.1<|.inl<|S.6 y hm hk
 calc iD<|Qk N.1 hg hm 07 ?_;calc vr ?_ (by rw[hs];rfl) (by rw[hs];rfl) 07 07;refine(ha pos).run N K λxs h1 us s1 H1 U1 N1 n1 r1 C=>?_
 cases L:h1[j]? with|none=>rw[L]at C;show Zf C|some ob=>
  rw[L]at C;cases ob with
  |tab R=>
   dsimp only at C;split at C
   .rename_i eq;subst eq;refine rA<|Ze<|AN N1 L hcd hq (AR hx) P B λf c pm D s2 H2 N2 n2 LC=>Ze<|jO<|Zs ?_
    calc vp ?_;let J:=Kont.more (pl:=[(f,hV R params body scope (cb X.10.4 scope.2 []) pm D c)])<|Kont.mono C n2;let#[vs,rv,qs]:=r1.mono n2;cases xs with|nil=>show Zf J|cons x t=>
     cases t with|cons _ _=>cases x<;>show Zf J|nil=>
      cases x with
      |ref i=>
       let#[w,rfl,ad,rfl,M]:=qs.bM;let#[u,rfl,ru]:=QC rv;cases ru;refine S4 (G:=λH=>QR H R<|.ref c) (mk:=λv h'=>m (V v::js.map λj=>(bD[j]?).join) h') (λI=>I.cA F.c) (cm _ F.r.in1.units) ?_ (λH H' e g=>g.mono e.2) N2 LC M ?_
       .intro pl s4 H4 U4 h4 v u Q4 N4 g4 ru4 K4;let pf:=N4.1.9 (f,hV R params body scope (cb X.10.4 scope.2 []) pm D c)<|Zr _<|iZ _<|Zr _<|ZB.2 07;show AO (A:=X.A.in1) N.1.1.10 F.r.in1 (N4.1.cV F.c) N4 pf.1 g4 hx S (hb f<|.ref c) ru4 K4
       .show J
      |_=>show Zf J
   .show Zf C
  |_=>show Zf C)
end
def da:To->To->Bool|a::as,b::bs=>if a=b then da as bs else decide (a<b)|_,_=>Zo
abbrev tU(l:Wl):Tu:=l.map λp=>.int p.1 p.2
section
open PySem.AutoSeq1 (wpAny_loadPart')
open PySem.MeetsSeq PySem.MeetsSeq2 PySem.MeetsSeq3 PySem.SeqRoads2
theorem S6(l b)(as bs)(H:WP as=WP bs)(n n2)(dd dd2)(sl sl2):
  Meets (eU.«tuple.__lt__» #[[.ref l,.ref b],[]])
   (λA R s=>s.1.get? l=V {cls:=.type "tuple",dict:=dd,data:=.seq (tU as).toArray n,slots:=sl}/\s.1.get? b=V {cls:=.type "tuple",dict:=dd2,data:=.seq (tU bs).toArray n2,slots:=sl2} /\
    R (.ok (.ret (.bool (da (as.map (·.1)) (bs.map (·.1)))))) s):=
 .of_wp λprog w A R s h=>by
  let#[G,g,d,I,os]:=s;let#[ho,J,h]:=h;let P:=AutoSeq1.sub_tuple_tuple
  wp_walk using sC ho,sC J,wpAny_forIn_list _ (λu b F=>b.1=Zg/\F=#[G,g,d,I,os]/\∃xs m:Wl,WP xs=WP m/\u=(tU xs).zip (tU m) /\
   R (.ok (.ret (.bool (da (xs.map (·.1)) (m.map (·.1)))))) #[G,g,d,I,os]) _
  case turn=>
   rintro⟨y,x⟩ u b F ⟨B,rfl,xs,m,C,j,k⟩;match xs,m,C,j,k with
   |p::xs,q::m,C,j,k=>
    injection j with hyx hrest
    let L:=(congrArg Prod.fst hyx).symm;let M:=(congrArg Prod.snd hyx).symm;subst L M;calc Ze<|wpAny_eqBool_int ?_;by_cases e:p.1=q.1
    .rw[beq_iff_eq.2 e]
     wp_walk
     show#[07,07,xs,m,by simpa using C,hrest,by simpa[da,e]using k]
    .rw[beq_eq_false_iff_ne.2 e];let D:=zw (prog:=prog) (w:=w) (A:=A.in1) (λi=>if i=0 then p.1 else q.1) λ_ _ q=>q
     let O:=λQ E s h=>by let:=D 0 1 (.int p.1 p.2) (.int q.1 q.2) s Q E #[p.2,03] #[q.2,03];show this h
     calc Ze<|kU<|Ze<|O _ _ _<|Ze<|Zs<|Zs<|Zs #[_,07,?_];simpa[da,e]using k
   |[],m,C,j,k=>cases j
   |_::_,[],C,j,k=>cases j
  case fin=>
   rintro⟨U,S⟩ F ⟨B,rfl,xs,m,C,j,k⟩;simp only at B;subst B;match xs,m,C,j,k with
   |[],[],_,_,k=>
    wp_walk
    show#[_,07,by simpa[Builtin.Tuple.tupleCompareSizes,H,da]using k]
   |_::_,_::_,_,j,_=>cases j
  case h=>show#[07,07,as,bs,H,03,h]
end
theorem AX:∀{us:Tu}{ns:To},i6 us ns->∃l:Wl,us=tU l/\l.map (·.1)=ns|[],[],_=>#[[],07,07]|[],_::_,h=>by cases h|_::_,[],h=>by cases h|u::us,n::ns,h=>by cases h;rename_i t r;let#[l,e1,e2]:=AX r;show#[(n,t)::l,by rw[e1];rfl,by rw[<-e2];rfl]
def j1:IV->IV->Ww|.tup xs,.tup ys=>(match JT xs,JT ys with|some as,V bs=>if (WP as)=WP bs then V (da as bs)else Zg|_,_=>Zg)|_,_=>Zg
section
variable{O:aN}{X:Cx}
def S7(hu:A.5<cLine)(N:aB O X Z Y bD h U H s)(r:RU X.K Y H k u)(rb:RU X.K Y H kb ub)(e:j1 k kb=V b)(q:Q (.bool b) s):Z0 (ZA X.1 X.w) A (u6 .Lt u ub) Q E s:=by
 cases k with
 |tup xs=>
  cases kb with
  |tup ys=>
   let#[x,S,a,vs,rfl,sa,ra]:=r;let#[y,ry,c,ws,rfl,sc,R]:=rb;let ru:=S;let I:=ry;subst ru I;unfold j1 at e;dsimp only at e;cases B:JT xs with|none=>rw[B]at e;cases e|some as=>
    cases L:JT ys with|none=>rw[B,L]at e;cases e|some bs=>
     rw[B,L]at e;dsimp only at e;split at e
     .rename_i hl;cases e;let#[its,v1,#[#[cls,dd,M,sl],ho,hc,n,hd],_]:=N.1.tuple sa;let#[W,v2,#[#[P,C,F,D],j,G,n2,J],_]:=N.1.tuple sc;subst hc hd G J;let#[l,rfl,rfl]:=AX<|V8 B ra v1;let#[m,rfl,rfl]:=AX<|V8 L R v2;show richCompare_meets_room #[_,ho,07] #[_,j,07] PySem.F.slot_tuple_lt PySem.F.entry_tuple_lt (PySem.F.args_tuple_lt_2 _ _) (S6 a c l m (by simpa using hl) n n2 dd C sl D) #[ho,j,show rE (da (l.map (·.1)) (m.map (·.1)))≠Value.notImplemented/\Q (.bool (da (l.map (·.1)) (m.map (·.1)))) s from#[(λx=>nomatch x),q]] hu
     .cases e
  |_=>cases e
 |_=>cases e
def S8(k:A.5<cLine):jD O X A .Lt j1:=(λ_ _ _ _ _ _ s _ _ _ _ _ _ _ N r j e q=>S7 k N r j e<|q s.1 s.4 λ_ _ e=>e)
end
end L3
namespace L3
open PySem PySem.Spec PyProof.Rows L2 PySem.W
noncomputable def J7 {α:Type}(lt:Nat->Nat->Bool):KasT α->α|.ret a=>a|.ask i j k=>J7 lt<|k<|lt i j
def bQ{α:Type}(n:Nat)(P:α->Prop):KasT α->Prop|.ret a=>P a|.ask i j k=>i<n/\j<n/\∀b,bQ n P<|k b
theorem bQ.mono{P j:α->Prop}(f:∀a,P a->j a):∀{t:KasT α},bQ n P t->bQ n j t|.ret _,h=>f _ h|.ask _ _ _,⟨h1,J,h3⟩=>#[h1,J,λb=>bQ.mono f<|h3 b]
theorem bQ.bind{P:α->Prop}(j:∀a,P a->bQ n P' (f a)):∀{t:KasT α},bQ n P t->bQ n P' (t.bind f)|.ret _,h=>j _ h|.ask _ _ _,⟨h1,J,h3⟩=>#[h1,J,λb=>bQ.bind j<|h3 b]
theorem bQ.run:∀{t:KasT α},bQ n P t->P (J7 lt t)|.ret _,h=>h|.ask i j k,⟨_,_,h⟩=>bQ.run (t:=k<|lt i j)<|h<|lt i j
theorem bQ.wp(m:∀i j,i<n->j<n->∀C:Bool->Z5->Prop,C (lt i j) s->cmp i j C s):∀{t:KasT α},bQ n P t->Q (J7 lt t) s->t.kasWp cmp Q s|.ret _,_,q=>q|.ask i j k,⟨h1,J,h3⟩,q=>m i j h1 J _<|bQ.wp m (h3<|lt i j) q
def Bd(n:Nat)(p:Tf):Prop:=0<n/\p.1.Perm (Z6 n)
def Bd.at(h:Bd n p)(i):p.getD i 0<n:=by
 by_cases j:i<p.size
 .rw[sX,oJ j];let:p[i]∈p.1:=03;show ig.1<|h.2.mem_iff.1 this
 .rw[sX,Array.getElem?_eq_none<|ZM j];show h.1
theorem AY(h:Bd n p):∀f m,bQ n (λ_=>True) (jR p f m)|0,_=>trivial|f+1,m=>#[h.at _,h.at _,λb=>by
   dsimp only;split
   .trivial
   .show AY h f _]
theorem AZ(h:Bd n p)(k):∀f l r,bQ n (λ_=>True) (pH p k f l r)
 |0,_,_=>trivial
 |f+1,l,r=>by
  unfold pH;split
  .trivial
  .show#[h.at _,h.at _,λb=>by
    dsimp only;split
    .show AZ h k f _ _
    .show AZ h k f _ _]
def Bd.perm(h:Bd n p)(r:q.Perm p):Bd n q:=(#[h.1,(Array.perm_iff_toList_perm.1 r).trans h.2])
def Bd.rev(h:Bd n p)(i j):Bd n (jr p i j):=(h.perm<|mirror_perm _ _ _ _)
theorem wF:∀f (p:Tf) m q,Bd n p->bQ n (λr=>Bd n r.1) (pJ f p m q)|0,_,_,_,h=>h|f+1,p,m,q,h=>#[h.at _,h.at _,λb=>by
   dsimp only;split
   .split
    .show wF f _ _ _<|h.rev _ _
    .show wF f _ _ _ h
   .show#[h.at _,h.at _,λd=>by
     dsimp only;split
     .show h
     .show wF f _ _ _ h]]
def Gz(h:Bd n p)(m r):bQ n (λr=>Bd n r.2) (kas_tail3 m r p):=by calc bQ.bind (λx _=>?_)<|AY (h.rev _ _) _ _;show h.rev _ _
def GA(h:Bd n p)(m r):bQ n (λr=>Bd n r.2) (vD m r p):=(bQ.bind (λx j=>by
  split
  .show Gz (j.rev _ _) _ _
  .show Gz j _ _) (wF _ _ _ _ h))
def S9(h:Bd n p)(r):bQ n (λr=>Bd n r.2) (vE r p):=(bQ.bind (λm _=>by
  split
  .show h
  .split
   .show#[h.at _,h.at _,λb=>by
     dsimp only;split
     .show h
     .show GA (h.rev _ _) _ _]
   .show GA h _ _) (AY h _ _))
theorem GB:∀f (p:Tf) k,Bd n p->bQ n (Bd n) (kas_bin f p k)|0,_,_,h=>h|f+1,p,k,h=>bQ.bind (λl _=>GB f _ _<|h.perm<|bubble_perm _ _ _)<|AZ h k _ _ _
def GC(hn:0<n):bQ n (Bd n) (oN n):=(bQ.bind (λr j=>by
  split
  .show GB _ _ _ j
  .show j) (S9 #[hn,List.Perm.refl _] n))
theorem GD(r:Vals vs us):∀p:Tp,(∀i∈p,i<WP vs)->Vals (p.map λi=>vs.getD i .ah) (p.map λi=>us.getD i dO)
 |[],_=>.nil
 |i::p,h=>by
  let k:=h i<|Z2 ..;let#[u,B,C]:=r.get<|Zd k;refine .cons ?_<|GD r p λj m=>h j<|Zq _ m
  change L2.RelV (vs.getD i .ah)<|us.getD i dO;rw[Zk,Zk,Zd k,B];show C
theorem GF{K:W.Frag}(r:aA K Y H xs vs):∀p:Tp,(∀i∈p,i<WP xs)->aA K Y H (p.map λi=>xs.getD i .ah) (p.map λi=>vs.getD i .ah)
 |[],_=>07
 |i::p,h=>by let k:=h i<|Z2 ..;let#[v,ev,u]:=r.get<|Zd k;calc#[_,_,07,?_,GF r p λj m=>h j<|Zq _ m];change RV K Y H (xs.getD i .ah)<|vs.getD i .ah;rw[Zk,Zk,Zd k,ev];show u
theorem XF:∀(t:KasT α),J7 lt (t.bind f)=J7 lt (f<|J7 lt t)|.ret _=>07|.ask i j k=>XF<|k<|lt i j
section
variable{kf:Nat->Int}{p:Tf}{n i j:Nat}
abbrev dA(kf:Nat->Int)(i j:Nat):Bool:=decide (kf i<kf j)
def bG(kf:Nat->Int)(p:Tf)(i:Nat):Int:=kf<|p.getD i 0
def kg(kf:Nat->Int)(p:Tf)(n:Nat):Prop:=∀i j,i<=j->j<n->bG kf p i<=bG kf p j
def rR(kf:Nat->Int)(p:Tf)(n:Nat):Prop:=∀i j,i<=j->j<n->bG kf p j<=bG kf p i
def YA(h:p[i]?=q[j]?):bG kf p i=bG kf q j:=by unfold bG;rw[sX,sX,h]
def A0(k:j<=p.size)(m):bG kf (jr p i j) m=if i<=m/\m<j then bG kf p (i+j-1-m)else bG kf p m:=by
 let e:=getElem?_mirror_all (i:=i) k m;split at e
 .rename_i c;rw[if_pos c];show YA e
 .rename_i c;rw[if_neg c];show YA e
def GG(hs:k<p.size)(hd:d<=k)(m):bG kf (bubble p k d) m=if m=k-d then bG kf p k else if k-d<m/\m<=k then bG kf p (m-1)else bG kf p m:=by
 let e:=getElem?_bubble hs d hd m;split at e
 .rename_i c;rw[if_pos c];show YA e
 .rename_i c;rw[if_neg c];split at e
  .rename_i c;rw[if_pos c];show YA e
  .rename_i c;rw[if_neg c];show YA e
def A2(k:j<=p.size)(h:∀m,i<=m->m<j->bG kf p m=bG kf p (j-1))(m):bG kf (jr p i j) m=bG kf p m:=by
 rw[A0 k];split
 .rw[h _ 00 00,h m 05 05]
 .rfl
def kg.succ(h:kg kf p n)(h1:1<=n)(q:bG kf p (n-1)<=bG kf p n):kg kf p (n+1):=(λi j k u=>by
 by_cases e:j<n
 .show h i j k e
 .obtain rfl:j=n:=ZW (jL (b:=1) u)<|ZM e;by_cases m:i=j
  .subst m;show ZD _
  .show ZH (h i (j-1) (jL (b:=1)<|Zb (iA k m)<|o4<|Zm _)<|si _ _ 06) q)
def rR.succ(h:rR kf p n)(h1:1<=n)(q:bG kf p n<=bG kf p (n-1)):rR kf p (n+1):=(λi j k u=>by
 by_cases e:j<n
 .show h i j k e
 .obtain rfl:j=n:=ZW (jL (b:=1) u)<|ZM e;by_cases m:i=j
  .subst m;show ZD _
  .show ZH q<|h i (j-1) (jL (b:=1)<|Zb (iA k m)<|o4<|Zm _)<|si _ _ 06)
theorem A3:∀(f n:Nat),1<=n->kg kf p n->n<=J7 (dA kf) (jR p f n)/\J7 (dA kf) (jR p f n)<=n+f/\kg kf p (J7 (dA kf)<|jR p f n)/\(J7 (dA kf) (jR p f n)=n+f\/bG kf p (J7 (dA kf)<|jR p f n)<bG kf p (J7 (dA kf) (jR p f n)-1))
 |0,n,_,h=>#[Zm _,Zm _,h,.inl 07]
 |f+1,n,h1,h=>by
  change n<=J7 (dA kf) (if decide (bG kf p n<bG kf p (n-1))=Zl then .ret n else jR p f (n+1))/\_;let e:J7 (dA kf) (jR p (f+1) n)=J7 (dA kf) (if decide (bG kf p n<bG kf p (n-1))=Zl then .ret n else jR p f (n+1)):=07;rw[e];split
  .rename_i c;show#[Zm _,by change n<=_;show Zi _ _,h,.inr<|of_decide_eq_true c]
  .rename_i c;let c:¬bG kf p n<bG kf p (n-1):=by simpa using c
   let#[a,b,d,g]:=A3 f (n+1) (iX _)<|h.succ h1<|ZU.1 c;show#[Z7 a,05,d,g.imp (λz=>05) id]
structure Dn(kf:Nat->Int)(p:Tf)(n q:Nat):Prop where
 f:rR kf p n
 q1:q+1<=n
 e:∀m,n-(q+1)<=m->m<n->bG kf p m=bG kf p (n-1)
theorem wG:∀(f:Nat)(p:Tf)(n q:Nat),p.size=z->n+f<=z->Dn kf p n q->∀r,J7 (dA kf) (pJ f p n q)=r->r.1.size=z/\n<=r.2.1/\r.2.1<=n+f/\Dn kf r.1 r.2.1 r.2.2
 |0,p,n,q,hz,hf,d,r,e=>by subst e;show#[hz,Zm _,Zm _,d]
 |f+1,p,n,q,hz,hf,d,r,e=>by
  let O:=d.2;let D:J7 (dA kf) (if decide (bG kf p n<bG kf p (n-1))=Zl then(if q>0 then pJ f (jr p (n-(q+1)) n) (n+1) 0 else pJ f p (n+1) 0)
   else .ask (p.getD (n-1) 0) (p.getD n 0) λd=>if d=Zl then .ret (p,n,q)else pJ f p (n+1) (q+1))=r:=e
  split at D
  .rename_i c;let c:bG kf p n<bG kf p (n-1):=by simpa using c
   split at D
   .let k:=λm=>A2 (kf:=kf) (i:=n-(q+1)) (j:=n) (p:=p) (Zb (Zb (Zi _ _) hf)<|Zh hz.symm) d.e m
    let d2:Dn kf (jr p (n-(q+1)) n) (n+1) 0:=by calc#[λi j G M=>?_,iX _,λm H J=>by rw[show m=n+1-1 by lia]];rw[k,k];show d.f.succ (mP 06) (ZJ c) i j G M
    let#[B,E,I,C]:=wG f _ (n+1) 0 ((rB _ _ _ _).trans hz) 05 d2 r D;show#[B,Z7 E,05,C]
   .let d2:Dn kf p (n+1) 0:=#[d.f.succ (mP 06)<|ZJ c,iX _,λm H J=>by rw[show m=n+1-1 by lia]];let#[B,E,I,C]:=wG f _ (n+1) 0 hz 05 d2 r D;show#[B,Z7 E,05,C]
  .rename_i c;let c:¬bG kf p n<bG kf p (n-1):=by simpa using c
   let u:J7 (dA kf) (if decide (bG kf p (n-1)<bG kf p n)=Zl then .ret (p,n,q)else pJ f p (n+1) (q+1))=r:=D;split at u
   .subst u;show#[hz,Zm _,by change n<=_;show Zi _ _,d]
   .rename_i F;let F:¬bG kf p (n-1)<bG kf p n:=by simpa using F
    let d2:Dn kf p (n+1) (q+1):=by
     calc#[d.f.succ (mP 06)<|ZU.1 F,mO 06,λm H J=>?_];by_cases L:m=n
     .subst L;rfl
     .rw[d.e m 05<|iA (jL (b:=1) J) L];change _=bG kf p n;show gU (ZU.1 c)<|ZU.1 F
    let#[B,E,I,C]:=wG f _ (n+1) (q+1) hz 05 d2 r u;show#[B,Z7 E,05,C]
def GH(h1:1<=m)(hm:m<=r)(C:r<=p.size)(h:rR kf p m):∀x,J7 (dA kf) (kas_tail3 m r p)=x->x.2.size=p.size/\1<=x.1/\x.1<=r/\kg kf x.2 x.1:=by
 intro x e;let e:J7 (dA kf) ((jR (jr p 0 m) (r-m) m).bind λk=>.ret (k,jr p 0 m))=x:=e;rw[XF]at e;let D:kg kf (jr p 0 m) m:=λi j u B=>by rw[A0<|Zb hm C,A0<|Zb hm C,if_pos<|#[(ZX _),(Zb (Zc u 1) B)],if_pos<|#[(ZX _),B]];show h _ _ (Nat.sub_le_sub_left u _)<|by(rw[nS];show Zb (Zc (nU _ _) 1)<|Zh<|o5 h1)
 let#[a,b,c,_]:=A3 (r-m) m h1 D;subst e;show#[rB _ _ _ _,by change 1<=J7 (dA kf) (jR (jr p 0 m) (r-m) m);show Zb h1 a,by change J7 (dA kf) (jR (jr p 0 m) (r-m) m)<=r;show Zb b<|iW hm<|Zm _,c]
def GI(hm:m+1<=r)(D:r<=p.size)(h:rR kf p<|m+1):∀x,J7 (dA kf) (vD m r p)=x->x.2.size=p.size/\1<=x.1/\x.1<=r/\kg kf x.2 x.1:=by
 intro x e;unfold vD at e;rw[XF]at e;let#[B,H,E,C]:=wG (z:=p.size) (r-(m+1)) p (m+1) 0 07 (Zb (iW hm<|Zm _) D) #[h,iX _,λk I J=>by rw[show k=m+1-1 by lia]] _ 07;generalize J7 (dA kf) (pJ (r-(m+1)) p (m+1) 0)=y at B H E C e;let q1:=C.2;split at e
 .let u:=λk=>A2 (kf:=kf) (i:=y.2.1-(y.2.2+1)) (j:=y.2.1) (p:=y.1) (Zb (Zb (Zb E<|iW hm<|Zm _) D)<|Zh B.symm) C.e k
  let:=GH (m:=y.2.1) (r:=r) (p:=jr y.1 (y.2.1-(y.2.2+1)) y.2.1) (mP 06) (Zb E<|iW hm<|Zm _) (by change r<=(mirror _ _ _ _).size;rw[rB];show Zb D<|Zh B.symm) (λi j F G=>by rw[u,u];show C.f i j F G) x e;rw[show(jr y.1 (y.2.1-(y.2.2+1)) y.2.1).size=y.1.size from rB _ _ _ _,B]at this;show this
 .let:=GH (m:=y.2.1) (r:=r) (p:=y.1) (mP 06) (Zb E<|iW hm<|Zm _) (Zb D<|Zh B.symm) C.f x e;rw[B]at this;show this
def TB(h1:1<=r)(E:r<=p.size):∀x,J7 (dA kf) (vE r p)=x->x.2.size=p.size/\1<=x.1/\x.1<=r/\kg kf x.2 x.1:=by
 intro x e;unfold vE at e;rw[XF]at e;let#[a,b,c,d]:=A3 (kf:=kf) (p:=p) (r-1) 1 (Zm _) (λi j u D=>by
  obtain rfl:j=0:=by show qI 06
  obtain rfl:i=0:=by show ZW u<|ZX _
  show ZD _)
 generalize J7 (dA kf) (jR p (r-1) 1)=n at a b c d e;split at e
 .subst e;show#[07,a,by change n<=r;show Zb b<|iW h1<|Zm _,c]
 .rename_i hn;let hn:n≠r:=by simpa using hn
  let dn:bG kf p n<bG kf p (n-1):=d.resolve_left<|by show Zu<|Zb (iA (Zb b<|iW h1<|Zm _) hn)<|Zh (mK h1).symm
  split at e
  .let F:J7 (dA kf) (if decide (bG kf p 0<bG kf p (n-1))=Zl then .ret (n,p)else vD n r (jr p 0 n))=x:=e;split at F
   .subst F;show#[07,a,by change n<=r;show Z7<|iA (Zb b<|iW h1<|Zm _) hn,c]
   .rename_i G;let G:¬bG kf p 0<bG kf p (n-1):=by simpa using G
    let C:∀m,0<=m->m<n->bG kf p m=bG kf p (n-1):=λm _ hm=>by
     let:=c 0 m 06 hm;let:=c m (n-1) (by show sj 06)<|by show si _ _ 06
     show gU this<|ZH (ZU.1 G) 06
    let B:=λk=>A2 (kf:=kf) (i:=0) (j:=n) (p:=p) (by show Z7<|Zb (iA (Zb b<|iW h1<|Zm _) hn) E) C k
    let:=GI (m:=n) (r:=r) (p:=jr p 0 n) (by show iA (Zb b<|iW h1<|Zm _) hn) (by change r<=(mirror _ _ _ _).size;rw[rB];show E) (λi j u D=>by
     rw[B,B];by_cases H:j<n
     .rw[C i (by show ZX _) (by show kN 06 06),C j (by show ZX _) H];show ZD _
     .obtain rfl:j=n:=by show ZW (jL (b:=1) D)<|ZM H
      by_cases I:i=j
      .subst I;show ZD _
      .rw[C i (by show ZX _)<|by show iA u I];show ZJ dn) x F
    rw[show(jr p 0 n).size=p.size from rB _ _ _ _]at this;show this
  .obtain rfl:n=1:=by show ZW (ZM 06) a
   calc GI (m:=1) (r:=r) (p:=p) (by show iA h1 hn) E (λi j u D=>?_) x e;let dn:bG kf p 1<bG kf p 0:=dn;match i,j with|0,0=>show ZD _|0,1=>show ZJ dn|1,1=>show ZD _|_,j+2=>lia|i+2,_=>lia|1,0=>show absurd 06<|jM _
theorem A4(h:kg kf p k):∀(f l r:Nat),r<=k->l<=r->r-l<=f->(∀i,i<l->bG kf p i<=bG kf p k)->(∀i,r<=i->i<k->bG kf p k<bG kf p i)->∀x,J7 (dA kf) (pH p k f l r)=x->x<=k/\(∀i,i<x->bG kf p i<=bG kf p k)/\∀i,x<=i->i<k->bG kf p k<bG kf p i
 |0,l,r,hr,hl,hf,h1,J,x,e=>by obtain rfl:l=r:=05;subst e;show#[hr,h1,J]
 |f+1,l,r,hr,hl,hf,h1,J,x,e=>by
  unfold pH at e;split at e
  .obtain rfl:l=r:=ZW hl 06;subst e;show#[hr,h1,J]
  .let j:J7 (dA kf) (if decide (bG kf p k<bG kf p ((l+r)/2))=Zl then pH p k f l ((l+r)/2)else pH p k f ((l+r)/2+1) r)=x:=e;split at j
   .rename_i c;let c:bG kf p k<bG kf p ((l+r)/2):=by simpa using c
    show A4 h f _ _ 05 05 05 h1 (λi a b=>Z8 c<|h _ _ a b) x j
   .rename_i c;let c:¬bG kf p k<bG kf p ((l+r)/2):=by simpa using c
    show A4 h f _ _ hr 05 00 (λi a=>ZH (h i _ (show i<=(l+r)/2 by show sj 06) 05)<|ZU.1 c) J x j
theorem GJ:∀(f:Nat)(p:Tf)(k:Nat),k+f<=p.size->kg kf p k->∀x,J7 (dA kf) (kas_bin f p k)=x->kg kf x (k+f)
 |0,p,k,_,h,x,e=>by subst e;show h
 |f+1,p,k,hk,h,x,e=>by
  unfold kas_bin at e;rw[XF]at e;let#[a,b,c]:=A4 h k 0 k (Zm _) (ZX _) (Zm _) (λi q=>absurd 06<|mQ _) (λi q r=>absurd 06<|ur 06) _ 07;generalize J7 (dA kf) (pH p k k 0 k)=l at a b c e;let:=GJ f (bubble p k<|k-l) (k+1) (by rw[bubble_size];lia) (λi j m B=>by
   let u:k-(k-l)=l:=Nat.sub_sub_self 06;rw[GG (kN (Zi _ _) 06)<|nU _ _,GG (kN (Zi _ _) 06)<|nU _ _,u];split
   .rename_i C;split
    .show ZD _
    .split
     .show ZJ<|c _ 05 00
     .lia
   .split
    .rename_i n1 y;split
     .lia
     .split
      .show h _ _ (Nat.sub_le_of_le_add<|Zb m<|o4<|Zm _) 00
      .lia
    .split
     .show b i<|iA (Zb m<|Zh 06) 06
     .split
      .show h _ _ 05 05
      .show h _ _ m 05) x e
  rwa [show k+(f+1)=k+1+f by lia]
def TC(hn:0<n):kg kf (J7 (dA kf)<|oN n) n:=by
 unfold oN;rw[XF];let j:(bT<|Z6 n).size=n:=03;let#[a,b,c,d]:=TB (kf:=kf) (p:=bT<|Z6 n) (r:=n) (hn) (by rw[j];show Zm _) _ 07;generalize J7 (dA kf) (vE n<|bT<|Z6 n)=y at a b c d;rw[j]at a;split
 .let k:max y.1 1=y.1:=ZW (Nat.max_le.2 #[(Zm _),b])<|Nat.le_max_left _ _;rw[k];let:=GJ (kf:=kf) (n-y.1) y.2 y.1 (Zb (iW (Z7 06)<|Zm _)<|Zh a.symm) d _ 07;rwa [show y.1+(n-y.1)=n by show mK 06]at this
 .obtain e:y.1=n:=ZW c<|ZM 06;rw[<-e];show d
end
def cY(ks:To)(n:Nat):Tp:=(J7 (dA λi=>ks.getD i 0)<|oN n).1
theorem GK(ks)(hn:0<n):(cY ks n).Perm (Z6 n):=((GC hn).run).2
theorem wH(ks):cY ks 0=[]:=rfl
theorem A5(ks):∀n:Nat,(cY ks n).Perm (Z6 n)|0=>by rw[wH];show .refl _|n+1=>GK ks<|iX n
def YF(ks):∀i∈cY ks n,i<n:=(λ_ j=>ig.1<|(A5 ks n).mem_iff.1 j)
theorem GL(ks)(n):(cY ks n).length=n:=(A5 ks n).length_eq.trans kz
def TF(ks)(n):(cY ks n).Pairwise λi j=>ks.getD i 0<=ks.getD j 0:=by
 rcases Nat.eq_zero_or_pos n with e|e
 .subst e;rw[wH];show .nil
 .let r:=TC (kf:=λi=>ks.getD i 0) e;let l:=GL ks n;rw[uC];intro i j C B u;let:=r i j (Z7 u)<|mL 06 06;let g:∀(m:Nat)(hm:m<(cY ks n).length),(J7 (dA λi=>ks.getD i 0)<|oN n).getD m 0=(cY ks n)[m]:=λm hm=>by
   let k:m<(J7 (dA λi=>ks.getD i 0)<|oN n).size:=by rw[<-oK];show hm
   rw[sX,oJ k];rfl
  unfold bG at this;rw[g i C,g j B]at this;show this
def TG(I:Inv X Z U H s)(k:∀b u,b≠it->s.1.get? b=V u->h'.get? b=V u)(F:aE X Z H it)(new:JX X.1 X.w (upd H it o) h' it o):
  Inv X Z U (upd H it o) {s with heap:=h',toks:=t'}:=by
 let#[hn,D,_,E,J,L]:=F;let j:∀b u,H b=V u->b≠it:=λb u e z=>by rw[z,hn]at e;cases e
 refine I.step (ch:=[it]) (λb C=>?_) (λb o _ _ B e _=>k b o (λz=>B<|by simp[z]) e) (λb o _ _ B e _=>#[o.4,k b o (λz=>B<|by simp[z]) e]) (λb o B _ n=>by rw[Jq λz=>B<|by simp[z]];show n)
  (λb o B e=>#[o,k b o (λz=>B<|by simp[z]) e]) (λb _ e=>by rw[Jq<|j b _ e];show e) (λb _ _ e=>by rw[Jq<|j b _ e];show e) (λb ps e=>#[#[],by rw[Jq<|j b _ e,e];simp]) (λm hm=>?_) (λb u e=>?_) I.3
 .let e:b=it:=by simpa using C
  subst e;show#[E,D,J,L]
 .let#[o,G,M,ho,r]:=hm;show#[o,G,M,k _ o (bP D) ho,r]
 .by_cases C:b=it
  .subst C;rw[Jz]at e;cases e;show new
  .rw[Jq C]at e;refine(I.aw b u e).fw (λc v B q=>k c v ?_ q) (λc q=>by rw[Jq<|j c _ q];show q) λc _ q=>by rw[Jq<|j c _ q];show q
   rcases B with z|z
   .rw[z];show C
   .show j c _ z
def QV(mk:IV->IH->Res IV):Tv->To->IH->Res (To)|[],ks,h=>.ok ks h|y::r,ks,h=>(mk y h).nx.bind λk h'=>match k with|.int n=>QV mk r (ks++[n]) h'|_=>.stuck
def YN(ys:Tv)(ks:To)(h:IH):Res IV:=.ok (.ref (WP h))<|h++[.lst ((cY ks (WP ys)).map λi=>ys.getD i .ah).reverse]
def XU(ys:Tv)(ks:To)(h:IH):Res IV:=YN ys.reverse ks.reverse h
section
variable{O:aN}{X:Cx}
section
variable{A:cz}{Q E:aQ}{P:PySem.Fin->Z5->Prop}{Z:aZ}{bD:aD}{U:L2.St}{G:Hp->Prop}{fq D kS:ZF}{mk:IV->IH->Res IV}{ys:Tv}{ws:Ub}{its:Tu}{ks:To}{e e1:Nat}{H:Hp}{Y:Tt}{h:IH}{s:Z5}
def GN{st:SortSt}(N:aB O X Z Y bD h U H s)(B:aE X Z H D)(fK:aE X Z H kS)(C:D≠kS)(gD:s.1.get? D=V (cH "list" #[] e1))(W:s.1.get? kS=V (cH "list" kA e))(hz:kA.size<64) (J:Vals ws its)(L:aA X.K Y H ys ws)(k:WP ys<64)(m:(arrOf st).map (·.2)=bT ((cY ks (WP ys)).map λi=>its.getD i dO))(hf:failedOf st=Zg)(hP:∀s',Q (.ref D) s'->P (.done<|.ret .none) s')(K:Kont O X RU Z Y bD U H (YN ys ks h) Q E):Z0 (ZA X.1 X.w) A (ksk_tail D Zl e1 (.ref kS) st) P E s:=by
 let lo:=GL ks (WP ys);let lt:=YF ks (n:=WP ys);let l1:=L.length;let l2:=J.length;let v:=(GD J (cY ks (WP ys)) λi hi=>by let:=lt i hi;show Zb this<|Zh l1.symm).reverse;let F:((cY ks (WP ys)).map λi=>its.getD i dO).reverse.length=WP ys:=by rw[ky,Zn,lo]
 unfold ksk_tail;dsimp only;rw[m,if_pos 07,List.reverse_toArray];generalize ((cY ks (WP ys)).map λi=>its.getD i dO).reverse=G at v F;calc Ze (vq W 07 ?_ (by rw[j3];show Zb (Z7 hz)<|Zi _ 16777152) (ZX _));let I:∀b u,b≠kS->s.1.get? b=V u->(s.1.update kS<|fU λ_=>(#[]:Th)).get? b=V u:=λb u nb q=>(ZI _ _<|bP nb).trans q
 generalize s.1.update kS (fU λ_=>(#[]:Th))=M at I;let j:=I D _ C gD;let R:=N.turned (h':=M) (t':=s.4) fK I;calc Ze<|kT ?_;calc Ze<|seqEpoch_at j 07 ?_;calc Ze (vq j 07 ?_ (ZX _) (by rw[ZV,j3];show Zb (Z7<|Zb (Zc (Zh F) 1) k)<|Zi _ 16777153));rw[hf];simp![bne_self_eq_false,l9,if_false];calc Zs<|hP _ ?_;let hc:=sV j λ_=>G.toArray
 let S:=TG R.1 (o:=.lst ((cY ks (WP ys)).map λi=>ws.getD i bA.ah).reverse) (h':=M.update D<|fU λ_=>G.toArray) (t':=s.4) (λb u nb q=>(ZI _ _<|bP nb).trans q) B #[by rw[v.length,j3];show Zb (Z7<|Zb (Zc (Zh F) 1) k)<|Zi _ 16777152,G,_,v,hc];show fE R K D B.1 #[_,Jz,aA.new B.1 (GF L _ lt).rev] _ _ S 07
def TH(vs)(ks)(h:WP vs<2):(cY ks (WP vs)).map (λi=>vs.getD i dO)=vs:=by
 rcases vs with _|⟨v,_|⟨w,r⟩⟩
 .rw[uO,wH];rfl
 .rw[show cY ks [v].length=[0]from List.perm_singleton.1<|A5 ks 1];rfl
 .show absurd h 03
def TJ(N:aB O X Z Y bD h U H s)(fD:aE X Z H D)(fK:aE X Z H kS)(B:D≠kS)(gD:s.1.get? D=V (cH "list" #[] e1))(gK:s.1.get? kS=V (cH "list" kA e))(hk:i6 kA.1 ks)(lk:WP ks=WP ys)
  (rv:Vals ws its)(r3:aA X.K Y H ys ws)(h64:WP ys<64)(hP:∀s',Q (.ref D) s'->P (.done<|.ret .none) s')(K:Kont O X RU Z Y bD U H (XU ys ks h) Q E):
  Z0 (ZA X.1 X.w) A (ksk_end D Zl its.toArray e1 (.ref kS) kA) P E s:=by
 let l1:=r3.length;let l2:=rv.length;let l3:=hk.length;let u:kA.size=WP its:=by rw[<-oK];lia
 unfold ksk_end;dsimp only;rw[if_pos 07];calc Ze<|kU ?_;let ez:(kA.zip its.toArray).reverse=kA.1.reverse.toArray.zip its.reverse.toArray:=by apply Array.toList_inj.1;rw[Array.toList_reverse,Array.toList_zip,Array.toList_zip];show List.reverse_zipWith<|by simpa using u
 rw[if_pos 07,ez,ZV];let F:=rv.reverse;let I:=r3.rev;let M:=hk.reverse;let K:Kont O X RU Z Y bD U H (YN ys.reverse ks.reverse h) Q E:=K;let L:WP ys.reverse=WP its:=by rw[ky];lia
 let m:WP ks.reverse=WP its:=by rw[ky];lia
 let W:WP kA.toList.reverse=WP its:=by rw[ky,oK,u]
 let R:WP its<64:=Zb (Zb (Zc (Zh l2.symm) 1)<|Zc (Zh l1) 1) h64;rw[<-ky (as:=its)]at u L m W R ⊢;by_cases J:WP its.reverse<2
 .rw[if_pos J,if_pos J];calc Ze<|Zs ?_;rw[StateT.run_pure];calc Ze<|Zs ?_;dsimp only;calc GN N fD fK B gD gK (Zb (Zb (Zc (Zh u) 1) J)<|Zi _ 62) F I (Zb (Zb (Zc (Zh L) 1) J)<|Zi _ 62) ?_ 07 hP K;generalize its.reverse=its at *;let e1:(arrOf<|SortSt.mk' general' (kA.1.reverse.toArray.zip its.toArray) #[] 7 Zg).map (·.2)=its.toArray:=by apply Array.toList_inj.1;change((kA.1.reverse.toArray.zip its.toArray).map (·.2)).1=_;rw[Array.toList_map,ksk_zip];show List.map_snd_zip<|by rw[List.toList_toArray];show Zh W.symm
  rw[e1,L];show congrArg bT (TH its _<|J).symm
 .rw[if_neg J,if_neg J,ksk_kind hk<|Zb (ZM J)<|Zh u.symm];calc Ze<|Zs ?_;generalize its.reverse=its at *;generalize kA.1.reverse=kl at *;generalize ks.reverse=ks at *;let sp:=GC (n:=WP its)<|Z7<|ZM J;refine Ze (dD (kat_run (ks:=kl) (vs:=its) (Q:=λk s'=>s'=s/\failedOf k=Zg/\arrOf k=(J7 (dA λi=>ks.getD i 0)<|oN (WP its)).map (kas_item<|kl.toArray.zip its.toArray)) (G:=λp s'=>s'=s/\p=J7 (dA λi=>ks.getD i 0) (oN (WP its))) W (ZM J) (R)
   (λp k s' a1 a2 a3 a4=>#[a4.1,a3,a4.2▸a2]) (bQ.wp (n:=WP its) (lt:=dA λi=>ks.getD i 0) (λi j hi hj C S=>?_) sp #[07,07])) ?_ λ_ _ e=>e)
  .unfold kas_ask;let#[t1,e1]:=M.get i _ (Zd<|show i<WP ks by show Zb hi<|Zh m.symm);let#[t2,e2]:=M.get j _ (Zd<|show j<WP ks by show Zb hj<|Zh m.symm);rw[Zk,Zk,e1,e2];calc kat_lt_int ?_;let S:C (decide (ks.getD i 0<ks.getD j 0)) s:=S;rw[Zk,Zk,Zd (show i<WP ks by lia),Zd<|show j<WP ks by lia]at S;show S
  .rintro⟨⟨⟩,k⟩ s' ⟨rfl,hfl,har⟩;dsimp only;calc GN N fD fK B gD gK (Zb (Zc (Zh u) 1) R) F I (Zb (Zc (Zh L) 1) R) ?_ hfl hP K;rw[kat_snds (ks:=kl) (vs:=its) W har,L];rfl
def TK(ko:X1 O X A bD U Z G (.ref fq) mk)(hG:∀H H',Ext H H'->G H->G H')(N:aB O X Z Y bD h U H s)(g:G H)(fD:aE X Z H D)(fK:aE X Z H kS)(L:D≠kS)(gD:s.1.get? D=V (cH "list" #[] e1))(gK:s.1.get? kS=V (cH "list" #[] 0)) (rv:Vals ws its)(r3:aA X.K Y H ys ws)(J:WP ys<64)(hP:∀s',Q (.ref D) s'->P (.done<|.ret .none) s')(K:Kont O X RU Z Y bD U H ((QV mk ys [] h).bind<|XU ys) Q E):Z0 (ZA X.1 X.w) A (ksk_rest D (.ref fq) Zl its.toArray e1<|.ref kS) P E s:=by
 let l1:=r3.length;let l2:=rv.length;unfold ksk_rest;calc Ze<|kU ?_;rw[List.forIn_toArray];calc Ze (ksk_fold (λj s'=>∃H' W h' R C e,aB O X Z W bD h' U H' s'/\G H'/\bc Y H W H'/\s'.1.get? D=V (cH "list" #[] e1)/\s'.1.get? kS=V (cH "list" C e)/\i6 C.1 R/\WP R=j/\H' D=Zg/\H' kS=Zg/\Kont O X RU Z W bD U H' ((QV mk (ys.drop j) R h').bind<|XU ys) Q E) its 0 s #[H,Y,h,[],#[],0,N,g,.refl,gD,gK,.nil,07,fD.1,fK.1,K] ?step ?done);case step=>
  rintro j x s' hx ⟨H',W,h',R,C,e,N',g',n',I,F,hk,m,M,S,B⟩;simp![uw]at m B ⊢;let fD':=aE.at fD M;let fK':=aE.at fK S;let#[xv,ex,rx]:=AP rv hx;let#[yv,eyv,qy]:=(r3.mono n').get' ex;let hj:j<WP ys:=(Zp.1 eyv).1;let ed:ys.drop j=yv::ys.drop (j+1):=by rw[nV hj,(Zp.1 eyv).2]
  rw[ed]at B;let B:Kont O X RU Z W bD U H' (((mk yv h').nx.bind λk h''=>match k with|.int n=>QV mk (ys.drop<|j+1) (R++[n]) h''|_=>.stuck).bind<|XU ys) Q E:=B;rw[Res.dm]at B;let hz:C.size=j:=by rw[<-oK,hk.length,m]
  let N2:=(N'.hX F fK' λv z=>by cases z).hX I (aE.more (p:=(kS,cH "list" C e)) fD'<|bP L) λv z=>by cases z
  rw[fQ]at N2;refine Ze<|uX<|jX<|ko _ _ _ _ _ yv x _ N2 g' #[xv,rx,qy]<|AQ B λk h3 u s3 H3 W3 N3 n3 ru K3=>?_
  let pK:=N3.1.9 (kS,cH "list" C e)<|Zr _<|Zr _ 03;let pD:=N3.1.9 (D,cH "list" #[] e1)<|Zr _<|Zr _ 03;let N4:=N3.pins;cases k with
  |int n=>
   let#[v,rv',ev]:=ru;let ev:v=.int n:=ev;subst ev;let#[t,rfl]:=rv';try dsimp only
   calc Ze (vq pK.1 07 ?_ (by rw[j3];show Zb (Zb (Zi _ 2)<|Zb (Zc (Zb (Zc (Zh hz) 1) hj) 1) J)<|Zi _ 16777152) (Zb (Zh<|Array.size_push ..)<|by rw[j3];show Zb (Z7<|Zb (Zc (Zb (Zc (Zh hz) 1) hj) 1) J)<|Zi _ 16777153));obtain⟨c2,hc2⟩:∃c2,(s3.1.update kS (fU (·.push (.int n t)))).get? kS=V (cH "list" (C.push<|.int n t) c2):=#[_,sV pK.1 (·.push (.int n t))];let s1:∀b u,b≠kS->s3.1.get? b=V u->(s3.1.update kS (fU (·.push (.int n t)))).get? b=V u:=λb u nb q=>(ZI _ _<|bP nb).trans q
   let N5:=N4.turned (h':=s3.1.update kS (fU (·.push (.int n t)))) (t':=s3.4) (aE.at fK pK.2.1) s1;calc Zs #[07,H3,W3,h3,R++[n],C.push<|.int n t,c2,N5,hG _ _ n3.2 g',n'.trans n3,s1 D _ L pD.1,hc2,by rw[Array.toList_push];show ksk_snoc hk,by simp[m],pD.2.1,pK.2.1,K3]
  |_=>show Zf K3
 case done=>
  rintro s' ⟨H',W,h',R,C,e,N',g',n',I,F,hk,m,M,S,B⟩;rw[uw]at m B;rw[List.drop_of_length_le<|Zb (Zh l1.symm)<|Zh l2]at B;try dsimp only
  calc Ze<|listItems_at F 07 ?_;show TJ N' (aE.at fD M) (aE.at fK S) L I F hk 05 rv (r3.mono n') J hP B
def TL(S:∀a,eU.«list.sort» #[[.ref a],kw]=ksk_tree a (.ref fq) Zl)(W:∀a,mW "list.sort" #[[a],kw])(ko:X1 O X B.in1 bD U Z G (.ref fq) mk)(hG:∀H H',Ext H H'->G H->G H')(N:aB O X Z Y bD h U H s)(g:G H) (keep:∀b o,s.1.get? b=V o->J.get? b=V o)(C:s.1.1.size<=J.1.size)(M:Vals ws its)(r3:aA X.K Y H ys ws)(u:WP ys<64)(hP:∀D s',Q (.ref D) s'->P (.done<|.ret<|.ref D) s') (K:Kont O X RU Z Y bD U H ((QV mk ys [] h).bind<|XU ys) Q E):Z0 (ZA X.1 X.w) B (do let l<-newList its;let _<-iE [l] (call (.builtin "list.sort") [l] kw);ret l) P E {s with heap:=J,toks:=tk}:=by
 let l1:=r3.length;let l2:=M.length;calc Ze (sI ?_<|by rw[j3];show Zb (Z7<|Zb (Zc (Zb (Zh l2.symm)<|Zh l1) 1) u)<|Zi _ 16777152);let m:(J.push<|cH "list" its.toArray 0).get? J.1.size=V (cH "list" its.toArray 0):=Zw _ 07;let j:∀b o,s.1.get? b=V o->(J.push<|cH "list" its.toArray 0).get? b=V o:=λb o q=>Zj _<|keep b o q
 let I:(J.push<|cH "list" its.toArray 0).1.size=J.1.size+1:=rC ..;change Z0 _ _ _ _ _ {s with heap:=J.push<|cH "list" its.toArray 0,toks:=tk};generalize J.push (cH "list" its.toArray 0)=F at m j I;calc Ze<|d4<|wpAny_call_entry_kw slot_list_sort #[_,m,07] entry_list_sort ?body<|W _;case body=>
  change Z0 (ZA X.1 X.w) B.in1 (eU.«list.sort» #[[.ref J.1.size],kw]) _ _ _;rw[S];unfold ksk_tree;calc Ze<|listItems_at m 07 ?_;calc Ze (vq m 07 ?_ (by rw[ZV,j3];show Zb (Z7<|Zb (Zc (Zb (Zh l2.symm)<|Zh l1) 1) u)<|Zi _ 16777152) (ZX _));obtain⟨ep,L⟩:∃ep,(F.update J.1.size<|fU λ_=>(#[]:Th)).get? J.1.size=V (cH "list" #[] ep):=#[_,sV m λ_=>#[]];calc Ze<|seqEpoch_at L 07 ?_;calc Ze (wpAny_newTuple ?_ (by change (WP its)<=_;rw[j3];show Zb (Z7<|Zb (Zc (Zb (Zh l2.symm)<|Zh l1) 1) u)<|Zi _ 16777152));calc Ze<|sI ?_<|ZX _;calc d4 ?_;let sz5:((F.update J.1.size<|fU λ_=>(#[]:Th)).push<|cH "tuple" its.toArray 0).1.size=J.1.size+2:=by rw[rC,Heap.size_update,I]
  obtain⟨R,k⟩:∃R,R=((F.update J.1.size<|fU λ_=>(#[]:Th)).push<|cH "tuple" its.toArray 0).1.size:=#[_,07];let gK:(((F.update J.1.size<|fU λ_=>(#[]:Th)).push<|cH "tuple" its.toArray 0).push<|cH "list" #[] 0).get? R=V (cH "list" #[] 0):=by rw[k];show Zw _ 07
  let gD:(((F.update J.1.size<|fU λ_=>(#[]:Th)).push<|cH "tuple" its.toArray 0).push<|cH "list" #[] 0).get? J.1.size=V (cH "list" #[] ep):=Zj _<|Zj _ L;let old:∀b o,s.1.get? b=V o->(((F.update J.1.size<|fU λ_=>(#[]:Th)).push<|cH "tuple" its.toArray 0).push<|cH "list" #[] 0).get? b=V o:=λb o q=>Zj _<|Zj _<|(ZI _ _<|ZY<|ZO (Z9 q) C).trans<|j b o q
  rw[<-k];rw[sz5]at k;let fD:aE X Z H J.1.size:=N.1.c9 C<|N.1.aw.fresh C;let le:s.1.1.size<=R:=by rw[k];show Zb C<|Zi _ _
  let fK:aE X Z H R:=N.1.c9 le<|N.1.aw.fresh le;show TK ko hG (N.jZ (t':=tk) old) g fD fK (by rw[k];show Zu<|Nat.lt_add_of_pos_right 01) gD gK M r3 u (λs' q=>#[_,07,Zs<|hP _ _ q]) K
end
end
noncomputable def VQ (x:IV)(h:IH):Option (Nat×Tv):=match x with|.ref i=>(match h[i]? with|some (.lst xs)=>V (i,xs)|_=>Zg)|_=>Zg
def GO(e:VQ x h=V (i,xs)):x=.ref i/\h[i]?=V (.lst xs):=by
 unfold VQ at e;split at e
 .lia
 .cases e
def XN(x:IV)(as:Tv)(h:IH):Res IV:=match VQ x h,as with|some (i,xs),[]=>(match xs[WP xs-1]? with|some y=>.ok y<|h.set i<|.lst xs.dropLast|none=>.stuck)|_,_=>.stuck
def XO(x:IV)(as:Tv)(h:IH):Res IV:=match VQ x h,as with|some (i,xs),[.int k]=>(match JT xs with|some ns=>(match ns.findIdx? (· ==k)with|some j=>.ok .ah<|h.set i<|.lst<|xs.eraseIdx j|none=>.stuck)|none=>.stuck)|_,_=>.stuck
section
variable{O:aN}{X:Cx}
def TM:nh O X "list" "list.pop" XN:=by
 intro Z s U H Y S h x xs v P Q E N k J K;unfold XN at K;split at K
 .rename_i i L e;let#[rfl,u]:=GO e;split at K
  .rename_i y C;let#[R,k,a,rfl,ha]:=k;let#[M,G,D]:=J;cases (D);let#[F,m,j]:=N.at u ha;let#[z,B,I]:=j.get C;show wy (Oe) N.1 k G #[a,F,z,07,07,m,by rw[j.length];show B,lD N K ha m (by rw[Eo,Eo,j.length];show j.take _) I]
  .show(K).elim
 .show(K).elim
def TN:nh O X "list" "list.remove" XO:=by
 intro Z s U H Y bD h x xs v us Q E N G rs K;unfold XO at K;split at K
 .rename_i i zs k e;let#[rfl,hi]:=GO e;split at K
  .rename_i ns hb;split at K
   .rename_i j W;let#[xv,G,a,rfl,ha]:=G;let#[vs,rv,qs]:=rs;let#[w,rfl,qw]:=qs.bM;cases (qw);let#[u,rfl,t,rfl]:=QC rv;cases G;let#[ws,I,S]:=N.at hi ha;let#[z,B,n,r,hl,L]:=N.1.gf I;let D:=V8 hb S r;let ln:=Y8 D;let#[C,hp,J]:=ux.1 W;let at_:∀m (hm:m<B.toArray.size),∃t,B.toArray[m]=.int (ns.getD m 0) t:=λm hm=>zr D m _<|by simp at hm;simp[hm]
    refine pv F.slot_list_remove #[_,L,07] F.entry_list_remove (F.args_list_remove_2 _ _)
     (MeetsSeq.list_remove a B.toArray n (.int k t) (AK k) (λy hy=>?_) j (by simp;show Zb C<|Zh ln.symm) ?_ (λm hm P=>?_)<|by rw[ZV];show Zb (Zh hl.symm) z) #[L,?_]
    .let#[m,hm,rfl]:=Array.mem_iff_getElem.1 hy;let#[R,e]:=at_ m hm;rw[e];show MeetsSeq.EqGives.int _ _ _ _
    .let#[R,e]:=at_ j<|by simp;show Zb C<|Zh ln.symm
     rw[e];simpa[AK,Zk,C]using hp
    .let#[R,e]:=at_ m hm;rw[e];let:=J m P;let M:m<WP ns:=nR 06 06;simpa[AK,Zk,M]using this
    .show lD N K ha I (S.erase _) 07 _ _ (N.1.k7 I L (by simp_all) (r.eraseIdx j) (by let:=zW ws j;show Zb this z)) 07
   .show(K).elim
  .show(K).elim
 .show(K).elim
end
section
variable{pr:cy}{wd:bV}{A:cz}{E:aQ}{s:Z5}
def TQ{n:Nat}(D:A.1=Zg)(B:IsRange s.1 r a b c t u v)(hsmall:Builtin.Range.small a b c=Zl) (hn:EN a b c=n)(j:n<=2^24)(C:∀h' tk acc,(∀b o,s.1.get? b=V o->h'.get? b=V o)->s.1.1.size<=h'.1.size->ItemsOf (λi v=>∃t,v=.int (a+i*c) t) acc n->Q acc.1 {s with heap:=h',toks:=tk}):Z0 (ZA pr wd) A (collect<|.ref r) Q E s:=by
 unfold collect;calc Ze<|yL<|jN PySem.F.entry_proto_collect ?_;calc Ze<|sI ?_<|ZX _;calc Zs #[kR EF _,jN PySem.F.entry_list_iadd ?_];rw[m5 EF _];refine wpAny_extend_range (R:=λr m=>match r with|.ok (.ret v)=>Z0 (ZA pr wd) A (match v with|.ref a=>(do match (<-load a).3 with|.seq xs _=>pure xs.1|_=>unsupported "internal:collect")|_=>unsupported "internal:collect") Q E m|.ok _=>False|.error e=>E e m) D (Zj _ B) hsmall hn j s.1.1.size _ 0 (Zw _ 07) λh' tk acc F keep g k=>?_
 calc Ze<|wpAny_load g ?_;show Zs<|C h' tk acc (λb o e=>keep b o (Zu<|Z9 e)<|Zj _ e) (Z7<|Z9 g) k
end
section
variable{O:aN}{X:Cx}
def Y0(q:Str)(j:Nat)(js:Tp)(aa:A1)(m:E1):E1:=λU h=>(aa U h).bind λxs h1=>match xs,h1[j]? with|[.int n],V (.tab q')=>if q'=q/\0<=n/\n<64 then(QV (λv h'=>m (V v::js.map λj=>(U[j]?).join) h') (aR 0 n) [] h1).bind (XU<|aR 0 n)else .stuck|_,_=>.stuck
def TR(hh:X.A.1=Zg)(hg:Gl X "sorted")(hm:X.4 "sorted"=Zg)(g2:Gl X "range")(m2:X.4 "range"=Zg)(ha:dR O X [a] aa)(hs:ZT [a] X.10=[(Zo,bj a X.10)])
  (hn:X.A.1=Zg)(hr:bJ κ (k+3) X.A)(R:W.codeIn X.K X.10.7 q=Zl)(hq:X.10.5=q++".<locals>.")(B:QD X.4 X.5)(hx:QW params=V x)(S:iR X.N X.10.1.2 x caps js scope)
  (hb:∀f cd s' H',ai O (mF X X.A.in1.in1 (x::caps) q scope f cd s' H') body m):
  ai O X (.Call (.Name "sorted" p) [.Call (.Name "range" p2) [a] [] pos2] [#[V "key",.Lambda params body scope lp,kp],#[V "reverse",.Constant (.bool Zl) ck cp,kp2]] pos) (Y0 q j js aa m):=(λZ s U H Y bD h Q E N K=>by
 let L:pz scope X.10=pure (cb X.10.4 scope.2 []):=wm λy hm hk=>N.1.1.7 y.1<|.inl<|S.6 y hm hk
 calc iD<|Qk N.1 hg hm 07 ?_;calc vr ?_ 07 07 07 07;calc zc ?_;calc iD<|Qk N.1 g2 m2 vt ?_;calc mn ?_ hs 07;refine(ha pos2).run N K λxs h1 us C H1 U1 N1 n1 r1 I=>?_
 let#[vs,rv,qs]:=r1;split at I
 .rename_i n M ej;split at I
  .rename_i hc;let#[rfl,n0,je]:=hc;let#[w,rfl,qw]:=qs.bM;cases (show w=.int n from qw);let#[u,rfl,t,rfl]:=QC rv;calc yQ<|zd ?_;let gr:(C.1.push {cls:=.type "range",data:=.fields (bT [.int 0 C.4,.int n t,.int 1<|C.4+1])}).get? C.1.1.size=V {cls:=.type "range",data:=.fields (bT [.int 0 C.4,.int n t,.int 1<|C.4+1])}:=Zw _ 07;let N1':=(N1.jZ (h':=C.1.push {cls:=.type "range",data:=.fields (bT [.int 0 C.4,.int n t,.int 1<|C.4+1])}) (t':=C.4+1+1) λb o e=>Zj _ e);let F1:aE X Z H1 C.1.1.size:=N1.1.c9 (Zm _)<|N1.1.aw.fresh<|Zm _;let N2:=N1'.hX gr F1 λv z=>by cases z
   let K2:=Kont.more (pl:=[(C.1.1.size,({cls:=.type "range",data:=.fields (bT [.int 0 C.4,.int n t,.int 1<|C.4+1])}:Obj))]) I;refine rA<|Ze<|AN N2 ej R hq (AR hx) L B λf c pm J s3 H3 N3 n3 LC=>Ze<|jO<|Zs ?_
   calc rA<|Ze<|Zs<|Ze<|jO<|Zs<|vp ?_;let K3:=Kont.more (pl:=[(f,hV M params body scope (cb X.10.4 scope.2 []) pm J c)])<|Kont.mono K2 n3;let pr:=N3.1.9 (C.1.1.size,{cls:=.type "range",data:=.fields (bT [.int 0 C.4,.int n t,.int 1<|C.4+1])})<|Zr _<|iZ _<|Zr _<|ZB.2 07;calc call_function_entry_kw kind_sorted plain_sorted entry_sorted (ksk_s2 _ _ _) ?_;unfold eU.«sorted»;calc Ze (m:=checkCount "sorted" 1 1 _)<|Zs ?_;refine Ze<|TQ (n:=n.toNat) hh pr.1 (small_one 01 01 05 05) ?_ 05 λh4 tk P keep le F=>?_
   .rw[yN];split<;>lia
   let are:i6 P.1 ((Z6 n.toNat).map λk=>((k:Nat):Int)):=by
    refine AL _ _ (by simp[F.1]) λi v hv=>?_
    let#[t,rfl]:=F.2 i v<|by simpa using hv
    let hi:i<n.toNat:=by let:=(Zp.1 hv).1;simp![oK,F.1]at this;show this
    show#[t,by simp[Zk,hi]]
   calc TL (G:=λH=>QR H M<|.ref c) (mk:=λv h'=>m (V v::js.map λj=>(bD[j]?).join) h') (ys:=aR 0 n) (λa=>ksk_t2 f a Zl) (λa=>ksk_l2 a _ _) ?_ (λH H' e g=>g.mono e.2) N3 LC keep le (Xw are) (by rw[VT];show wB _) (by rw[VT];simp;show je) (λD s' q=>#[_,07,q]) K3;intro pl s4 H4 U4 h4 v u Q4 N4 g4 ru4 K4;let pf:=N4.1.9 (f,hV M params body scope (cb X.10.4 scope.2 []) pm J c)<|Zr _<|iZ _<|Zr _<|ZB.2 07;show AO (A:=X.A.in1.in1) N.1.1.10 hr.in1.in1 (.inl hn) N4 pf.1 g4 hx S (hb f<|.ref c) ru4 K4
  .show Zf I
 .show Zf I)
end
end L3
namespace L3
open PySem PySem.Spec PyProof.Rows L2
def TU(c:aI A s.1)(j:s.1.IsRevIter it l (-1)) (m:∀h',gB it s.1 h'->Q Zg {s with heap:=h'}):Z0 (ZA prog w) A (f9<|.ref it) Q E s:=by
 let#[o,ho,_,hd]:=id j;calc XI F.slot_lri_next j.typeIs F.entry_lri_next (F.args_lri_next_1 _) (λu k=>?_) m;calc Ze<|qX (a:=(gF it,[])) 07 (Ze<|ft (x:=dN (-1)) ho hd 07 ?_);change Z0 _ _ (if (-1:Int)<0 then _ else _) _ _ s;rw[if_pos 01];calc Ze<|kU ?_;first
 |show Ya (s:=s) c (zq it s.1) k
 |show Ze (Ya (s:=s) c (zq it s.1) k)
def A6(K:W.Frag)(a:ZF)(n:Nat):It:=#[λi H=>∃xs x,bZ K H a xs/\WP xs=n/\xs.reverse[i]?=V x,λi H x H'=>H'=H/\∀xs,bZ K H a xs->xs.reverse[i]?=V x,λi _=>n<=i]
theorem TV{P:cy}{w:bV}{K:W.Frag}{tg:Expr}(a it:ZF)(n:Nat):Turn P w K tg (A6 K a n) [it] it (λi h=>i<=n/\h.IsRevIter it a ((n:Int)-1-i)) where
 mem:=03
 obj:=λi h st b m=>by
  let e:b=it:=by simpa using m
  subst e;let#[_,o,e,c,d]:=st;show#[o,e,λv z=>by rw[d]at z;cases z]
 keep:=λi h C st k=>#[st.1,st.2.at λo e=>k it 03 o e]
 item:=by
  intro X hP M O hc i Z s U H E I D st J;subst hP M O;let#[xs,x,hq,F,G]:=J;let#[its,rv,p,hz]:=I.list hq;let Y:i<n:=by let:=(Zp.1 G).1;rw[ky]at this;show mL 06 06
  rw[uH<|Zb Y<|Zh F.symm,F]at G;let#[u,hu,ru]:=rv.get G;let#[Q,f1,f2,S,R,L]:=D it 03;let j:=st.2;rw[show(n:Int)-1-i=((n-1-i:Nat):Int) by omega]at j;refine wpAny_pyNext_rev_item j p.isList (x:=u) (by simpa using hu) λC B sb=>?_
  let I1:Inv X Z U H {s with heap:=C}:=I.turned (t':=s.4) (λb o m e=>(sb.2 b m).trans e) Q f1 S R L;let#[o,e,c,d]:=id B;refine#[u,07,Y7 (s:={s with heap:=C}) e c d 01 #[x,H,I1,ru,#[07,λys hy=>?_],#[Y,?_],λb m=>(D b m).1]]
  .rw[I.fy hy hq,uH<|Zb Y<|Zh F.symm,F];show G
  .rw[show(n:Int)-1-((i+1:Nat):Int)=((n-1-i:Nat):Int)-1 by omega];show B
 done:=by intro X hP M O hc i Z s U H E I D st J;subst hP M O;let J:n<=i:=J;let#[Q,f1,f2,S,R,L]:=D it 03;let j:=st.2;let l:=st.1;rw[show(n:Int)-1-i=-1 by lia]at j;show TU (I.cA hc) j λC eb=>#[07,I.turned (t':=s.4) (λb o m e=>eb b o m e) Q f1 S R L]
 self:=λ_ _ _ _ _ st h=>wpAny_pyIter_revIter st.2 h
def VA:Tv->IH->Res jW|[.ref i],h=>(match h[i]? with|some (.lst xs)=>.ok #[xs.reverse,λh'=>h'[i]?=V (.lst xs)] h|_=>.stuck)|_,_=>.stuck
section
variable{O:aN}{X:Cx}{tg:Expr}
def TX{i:Nat}(ha:Y[i]?=V a):gh O X.K Y H₀ (A6 X.K a (WP xs)) #[xs.reverse,λh'=>h'[i]?=V (.lst xs)]:=by
 refine#[λk x h H J E R u j=>?_,λk h H J E R u j=>?_]
 .let#[B,G,I]:=R.get u<|E.at ha;let F:k<WP xs:=by let:=(Zp.1 j).1;rwa [ky]at this
  let j:xs.reverse[k]?=V x:=j;let D:=I.length;rw[uH F]at j;let#[v,L,M]:=I.get j;let m:B.reverse[k]?=V v:=by rw[uH<|Zb F<|Zh D.symm,D];show L
  calc#[#[B,v,bZ.of G,D,m],λy P C=>?_];let#[rfl,C]:=C;let:=C B<|bZ.of G;rw[m]at this;cases this;show#[R,.refl,M]
 .change (WP xs)<=k;rwa [<-ky]
def TY(hg:Gl X "reversed")(hm:X.4 "reversed"=Zg)(ha:dR O X [a] ma)(hs:ZT [a] X.10=[(Zo,bj a X.10)]:=by rfl):jc O X tg (.Call (.Name "reversed" p) [a] [] pos) (cR VA ma):=by
 intro Z s U H Y J h Q E N K;calc Call_<|Qk N.1 hg hm 07 (mn ?_ hs 07);calc ha pos Z s U H Y J h _ E N ?_;unfold cR at K;cases F:ma J h with|exc n G=>rw[F]at K;show K|stuck=>rw[F]at K;show K|ok P G=>
  rw[F]at K;intro us m H1 L j n1 W;let#[xs,rv,S]:=W;match P,K with
  |[.ref i],K=>
   let#[w,R,q]:=S.bM;subst R;let#[b,e3,I]:=q;subst e3;let#[u,rfl,M]:=QC rv;cases M;cases B:G[i]? with|none=>simp![Res.bind,VA,B]at K|some ob=>
    cases ob with|lst D=>simp![Res.bind,VA,B]at K;let#[ws,eH,rH]:=j.at B I;let#[k,C,pl,hz]:=j.1.list<|bZ.of eH;let l1:=C.length;let l2:=rH.length;calc call_reversed_list pl.isList ?_;let st:(m.1.push<|revObj b<|(k.toArray.size:Int)-1).IsRevIter m.1.1.size b ((WP D:Int)-1-((0:Nat):Int)):=#[_,Zw _ 07,07,by change vJ (bT [gF b,dN<|(k.toArray.size:Int)-1])=_;rw[show((k.toArray.size:Int)-1)=((WP D:Int)-1-((0:Nat):Int)) by simp;lia]];calc wpAny_pyIter_revIter st<|K _ _ H1 L #[j.1.kept (t':=m.4) λb o e=>Zj _ e,j.2,j.3] n1 ?_;calc#[m.1.1.size,[m.1.1.size],_,A6 X.K b (WP D),07,TV b _ _,#[ZX _,st],λc hc=>?_,TX I];rw[ZB.1 hc];show j.1.c9 (Zm _)<|j.1.aw.fresh<|Zm _|_=>simp![Res.bind,VA,B]at K
  |[],K=>show Zf K
  |.ah::_,K=>show Zf K
  |.bl _::_,K=>show Zf K
  |.str _::_,K=>show Zf K
  |.tup _::_,K=>show Zf K
  |.cG _::_,K=>show Zf K
  |.int _::_,K=>show Zf K
  |.ref _::_::_,K=>show Zf K
end
end L3
namespace L4
open PySem PySem.Spec PyProof.Rows L2 L3
noncomputable def bX:E1:=λ_ _=>.stuck
noncomputable def nu:T1:=λ_ _=>.stuck
noncomputable def TZ:O1:=λ_ _=>.stuck
noncomputable def stI:I1:=λ_ _=>.stuck
noncomputable def nv:G1:=λ_ _ _=>.stuck
noncomputable def cj:S1:=λ_ _=>.stuck
structure Fn where
 np:Nat
 aS:Tv
 run:Tv->IH->Res IV
 cl:Bool
abbrev _root_.Tg:=Option Fn
set_option genInjectivity false in
structure Pg where
 fn:Str->Tg
 cls:Str->Tg
 fJ:Str->Str->Tg
 mw:Str->Bool
 con:Str->Te
 mG:Str->Option (Str->Bool)
 fld:Str->Bool
 free:Str->Bool
 tabs:Str->Ta
 mH:Str->Bool
 xi:Str->Option (Str->Ww)
 xo:Str->Tg
 xf:Str->Str->Bool
 xb:Str->Bool
structure Sc where
 N:Tj
 names:Wh
 own:Bool
 q:Str
 cl:Bool
noncomputable def dW (x:Str):Tj->Ta|[]=>Zg|y::r=>if y==x then V 0 else(dW x r).map (· + 1)
noncomputable def Sc.ny (S:Sc)(x:Str):Ta:=match S.2.lookup x with|some .local=>if x=="__debug__"||x=="__classdict__" then Zg else dW x S.N|some .cell=>if x=="__debug__"||x=="__classdict__" then Zg else dW x S.N|some .free=>if x=="__debug__"||x=="__classdict__" then Zg else dW x S.N|_=>Zg
noncomputable def Sc.gl (S:Sc)(x:Str):Bool:=S.2.lookup x==V .globalImplicit&&!(x=="__debug__")&&!(x=="__name__")
noncomputable def Sc.iq (S:Sc)(x:Str):Ta:=match S.2.lookup x with|some .local=>dW x S.N|some .cell=>if S.3 then dW x S.N else Zg|_=>Zg
def GP:Const->E1|.int i=>eC<|.int i|.bool b=>eC<|.bl b|.none=>eC .ah|.str x=>eC<|.str x|_=>bX
def binI:sP->IV->IV->IH->Res IV|.Add=>Js|.Sub=>JQ|.Mult=>Qs|.FloorDiv=>Qa|.Mod=>J8|.Pow=>Qb|_=>λ_ _ _=>.stuck
def gk:CmpOp->IV->IV->IH->Res IV|.Lt=>jU|.LtE=>eM|.Gt=>g9|.GtE=>rO|.Eq=>il|.NotEq=>jz|.Is=>lq|.IsNot=>Xj|_=>λ_ _ _=>.stuck
def vR:UnaryOp->IV->IH->Res IV|.Not=>vZ cF|.USub=>v5|_=>λ_ _=>.stuck
def A7:Tw->E1|[]=>bX|[a]=>a|a::b::r=>eX a (A7<|b::r) cF
def p6:Tw->E1|[]=>bX|[a]=>a|a::b::r=>rN a (p6<|b::r) cF
def A8:List T1->T1|[]=>nu|[a]=>a|a::b::r=>QO a<|A8<|b::r
def p7:List T1->T1|[]=>nu|[a]=>a|a::b::r=>fB a<|p7<|b::r
def cq:Tw->A1|[]=>Je|a::r=>Jb a<|cq r
noncomputable def J1:Expr->Bool|.Starred .. =>Zo|_=>Zl
def XJ:Expr->Bool|.Set .. =>Zo|_=>Zl
def Xr:Expr->Bool|.Slice .. =>Zo|_=>Zl
def VE:Expr->Bool|.ListComp .. =>Zo|.SetComp .. =>Zo|.DictComp .. =>Zo|_=>Zl
def Vz:Expr->Bool|.Call (.Name ..) [] [] _=>Zo|_=>Zl
noncomputable def Fn.fill (f:Fn)(c:Bool)(n:Nat):Option (Tv):=if n<=f.1/\f.1<=n+WP f.aS/\(!f.4||c)=Zl then V (f.2.drop<|WP f.aS-(f.1-n))else Zg
def Xk(c:Bool)(f:Fn)(n:Nat)(a:A1):E1:=match f.fill c n with|some d=>Jl f.3 d a|none=>bX
def wI(b:Bool)(c:Str)(f:Fn)(n:Nat)(a:A1):E1:=match f.fill b (n+1)with|some d=>JI c f.3 d a|none=>bX
def tV(x:Str):Tv->IH->Res IV:=if x=="len" then bx bq else if x=="all" then bx allI else if x=="sum" then bx iQ else if x=="sorted" then bx XX else if x=="min" then bx VS else if x=="max" then bx VR else λ_ _=>.stuck
def tW(x:Str):Tv->IH->Res IV:=if x=="list" then bx Q3 else if x=="tuple" then bx Xb else λ_ _=>.stuck
noncomputable def A9 (x:Str):Bool:=x=="len"||x=="all"||x=="sum"||x=="sorted"||x=="min"||x=="max"
noncomputable def Ba (x:Str):Bool:=x=="list"||x=="tuple"
def wJ(P:Pg)(x:Str):Option (Ty->Ww):=match P.6 x with
 |some g=>V λt=>match t with|.ins c=>V (g c)|.exc _=>Zg|_=>V Zo
 |none=>if P.8 x then(if x=="int" then V Ay else if x=="bool" then V Az else if x=="str" then V AA else if x=="list" then V Xg else if x=="tuple" then V wi else Zg)else Zg
def Bc(o:Option<|Ty->Ww)(e:E1):E1:=match o with|some dG=>dw dG e|none=>bX
def dX(T:String)(m:Str)(n:Nat):Option (IV->Tv->IH->Res IV):=if T=="list"&&m=="append"&&n==1 then V Xh else if T=="list"&&m=="pop"&&n==1 then V kc else if T=="list"&&m=="extend"&&n==1 then V XD else if T=="list"&&m=="pop"&&n==0 then V XN else if T=="list"&&m=="remove"&&n==1 then V XO else if T=="dict"&&m=="setdefault"&&n==2 then V VW else Zg
def Qg(P:Pg)(m:Str)(n:Nat):Str->Option ((Tv->IH->Res IV)×Tv):=λc=>match P.3 c m with|some f=>(match f.fill Zl (n+1)with|some d=>V (f.3,d)|none=>Zg)|none=>Zg
def Xp(v:IV)(h:IH):Bool:=match v with|.ref i=>(match h[i]? with|some (.ins ..)=>Zl|_=>Zo)|_=>Zo
def p8(v:IV)(h:IH):String:=match v with|.str _=>"str"|.cG _=>"list"|.ref i=>(match h[i]? with|some (.lst _)=>"list"|some (.aV _)=>"dict"|_=>"")|_=>""
def Jm(P:Pg)(m:Str)(n:Nat)(o:E1)(a:A1):E1:=λU h=>match o U h with|.ok v h1=>if Xp v h1 then v7 m (Qg P m n) o a U h else(match dX (p8 v h1) m n with|some g=>rQ (p8 v h1) g o a U h|none=>.stuck)|_=>.stuck
def GQ(n:Nat)(a:A1):I1:=match n with|1=>cR Qi a|2=>cR VP a|_=>stI
def nz:List G1->Tv->aD->IH->bS|[]=>gN|g::r=>gC g<|nz r
noncomputable def VD (sc:fg):Tj:=sc.2.filterMap λx=>if x.2==.local&&!(x.1==(".0":Str))then V x.1 else Zg
noncomputable def QJ (sc:fg):Tj:=sc.2.filterMap λx=>if x.2==.free then V x.1 else Zg
def dY(S:Sc)(sc:fg):Tp:=(QJ sc).map λx=>(dW x S.N).getD 0
def Sc.comp(S:Sc)(sc:fg):Sc where
 N:=VD sc++QJ sc
 names:=sc.2.map λx=>if x.2==.free&&S.2.lookup x.1==V .cell then(x.1,.cell)else x
 own:=Zo
 q:=""
 cl:=S.5
def Sc.lam(S:Sc)(x:Str)(sc:fg):Sc where
 N:=x::QJ sc
 names:=sc.2
 own:=Zo
 q:=""
 cl:=S.5
def QB(S:Sc)(x:Str)(sc:fg):Bool:=sc.1==.function&&!sc.4&&!sc.3&&sc.2.all (λy=>!(y.2==.cell))&&sc.2.lookup x==V .local&&sc.2.all (λy=>!(y.2==.free)||S.2.lookup y.1==V .cell) && (QJ sc).all (λy=>decide (S.N[(dW y S.N).getD 0]?=V y)&&sc.2.lookup y==V .free)&&decide (x::QJ sc).Nodup
def Sc.lK(S:Sc):fg:={kind:=.function,names:=S.2,isGenerator:=Zo,isCoroutine:=Zo}
noncomputable def Be:Expr->Bool|.Name x _=>x=="last_come"||x=="tops"||x=="last"||x=="_law_last"||x=="_law_last_here"||x=="_law_lows_here"|_=>Zo
def Bf(a:Expr):IV->IV->IH->Res IV:=if Be a then Vi else Jh
def Bh:Expr->Bool|.Name x _=>x=="_law_word_here"||x=="_law_name"|.Subscript .. =>Zl|.Constant (.str _) _ _=>Zl|_=>Zo
def Bi(a:Expr):IV->Wz->Wz->IH->Res IV:=if Bh a then nt else j8
def kh(o:CmpOp)(b:Expr):IV->IV->IH->Res IV:=match o with|.In=>if Be b then jB else λ_ _ _=>.stuck|o=>gk o
def p9(a:Expr)(o i:E1):G1:=if Be a then jC o i else tM o i
def GR:Expr->Wv|.Call (.Name y _) [e] [] _=>if y=="set"&&J1 e then V e else Zg|_=>Zg
def wK:Expr->Wv|.Call (.Name y _) [e] [] _=>if y=="range"&&J1 e then V e else Zg|_=>Zg
def Bj(P:Pg)(S:Sc)(x:Str)(f:Expr->E1):Td->E1|[a,b]=>if x=="max" then bp (j9 iP) (Jb (f a)<|Jb (f b) Je)else if x=="min" then bp (j9 lE) (Jb (f a)<|Jb (f b) Je)else(match b with|.Name y _=>if x=="isinstance"&&S.gl y then Bc (wJ P y) (f a)else bX|_=>bX)|[a]=>(match (if x=="len"&&S.gl "set"&&P.8 "set" then GR a else Zg)with|some e=>Yx<|Jb (f e) Je|none=>match (if x=="list"&&S.gl "range"&&P.8 "range" then wK a else Zg)with|some e=>oS<|Jb (f e) Je|none=>if A9 x then bp (tV x) (Jb (f a) Je)else if Ba x then bp (tW x) (Jb (f a) Je)else bX)|_=>bX
def isNm:Expr->Bool|.Call .. =>Zo|_=>Zl
def wL(x:Str)(args:Td):Bool:=x=="max"||x=="isinstance"||((x=="len"||x=="list")&&args.all isNm)
def wM(P:Pg)(S:Sc)(x:Str)(f:Expr->E1)(args:Td):E1:=if (S.5||wL x args)=Zo then bX else Bj P S x f args
def GS:Expr->Bool|.Constant (.bool Zl) _ _=>Zl|_=>Zo
def Bk(P:Pg)(S:Sc)(f:Sc->Expr->E1)(x:Str)(a:Expr)(k:Str)(ps:u9)(body:Expr)(sc:fg)(k2:Str)(d:Expr):E1:=match wK a,QW ps,P.9 S.q with|some e,V y,V j=>if x=="sorted"&&k=="key"&&k2=="reverse"&&GS d&&S.gl x&&P.8 x&&S.gl "range"&&P.8 "range"&&S.3&&QB S y sc then Y0 S.q j (dY S sc) (Jb (f S e) Je) (f (S.lam y sc) body)else bX|_,_,_=>bX
def tX(P:Pg)(S:Sc)(f:Sc->Expr->E1)(x:Str)(a:Expr)(k:Str):Expr->E1|.Lambda ps body sc _=>(match QW ps,P.9 S.q with|some y,V j=>if x=="min"&&k=="key"&&S.gl x&&P.8 x&&J1 a&&S.3&&QB S y sc then XC j1 S.q j (dY S sc) (Jb (f S a) Je) (f (S.lam y sc) body)else bX|_,_=>bX)|_=>bX
def Bl(P:Pg)(S:Sc)(f:Sc->Expr->E1)(x:Str)(args:Td)(kws:Tn):E1:=match args,kws with|[a],[⟨V k,d,_⟩]=>if x=="max"&&k=="default"&&S.gl x&&P.8 x&&J1 a then XB (Jb (f S a) Je) (f S d)else tX P S f x a k d|[a],[⟨V k,.Lambda ps body sc _,_⟩,⟨V k2,d,_⟩]=>if x=="sorted" then(if S.5 then Bk P S f x a k ps body sc k2 d else bX)else(match QW ps,P.9 S.q with|some y,V j=>if x=="max"&&k=="key"&&k2=="default"&&S.gl x&&P.8 x&&J1 a&&S.3&&QB S y sc then Yz nk S.q j (dY S sc) (Jb (f S a) Je) (f (S.lam y sc) body) (f S d)else bX|_,_=>bX)|_,_=>bX
def wN(P:Pg)(S:Sc)(m:Str):Expr->Tg|.Name x _=>if m=="__init__"&&S.gl x&&P.mH x then P.2 x else Zg|_=>Zg
def Bm(P:Pg)(S:Sc)(m:Str):Expr->Bool|.Name x _=>m=="__init__"&&S.gl x&&P.xb x|_=>Zo
def wO(P:Pg)(S:Sc)(m:Str)(n:Nat)(o:Expr)(a:A1)(e:E1):E1:=if Bm P S m o&&decide (n≠0)then VJ (λc=>(P.xo c).isSome) a else e
def Bo(P:Pg)(c:Bool)(m:Str)(n:Nat)(b:Tg)(o:E1)(a:A1):E1:=match b with|some f=>if n=0 then bX else Xk c f n a|none=>if c||P.4 m then Jm P m n o a else bX
def Bp(ifs:Td)(f:Expr->T1)(m:T1->E1):E1:=match ifs with|[]=>m JC|[c]=>m<|f c|_=>bX
section
mutual
def ev(P:Pg):Nat->Sc->Expr->E1|0,_,_=>bX|n+1,S,e=>match e with
  |.Constant c _ _=>GP c
  |.Name x _=>(match S.ny x with|some i=>Ja i|none=>if S.gl x then(match P.5 x with|some v=>eC v|none=>bX)else bX)
  |.BinOp a op b _=>Jc (binI op) (ev P n S a)<|ev P n S b
  |.UnaryOp op a _=>jT (vR op)<|ev P n S a
  |.BoolOp .And vs _=>A7<|vs.map<|ev P n S
  |.BoolOp .Or vs _=>p6<|vs.map<|ev P n S
  |.IfExp t a b _=>k9 (lL P n S t) (ev P n S a)<|ev P n S b
  |.Compare a [o] [b] _=>if qW o b then bX else Jc (kh o b) (ev P n S a) (ev P n S b)
  |.Compare a [o,o'] [b,c] _=>if qZ [o,o'] [b,c]then bX else JS (gk o) (gk o') (ev P n S a) (ev P n S b) (ev P n S c)
  |.JoinedStr (a::b::r) _=>lJ<|(a::b::r).map<|ev P n S
  |.FormattedValue a c Zg _=>if c=-1 then jT fH (ev P n S a)else bX
  |.Tuple es _ _=>if es.all J1 then cT (cq<|es.map<|ev P n S)else bX
  |.Dict [] [] _=>Yv
  |.List es _=>if es.all J1 then JA (cq<|es.map<|ev P n S)else bX
  |.Subscript a (.Slice lo hi Zg _) _=>jY (Bi a) (ev P n S a) (Bq P n S lo)<|Bq P n S hi
  |.Subscript a i _=>if Xr i then Jc (Bf a) (ev P n S a) (ev P n S i)else bX
  |.Attribute o f _=>if Vz o then(if P.7 f then Jp f (ev P n S o)else Yw (P.xf f) f (ev P n S o))else bX
  |.Call (.Name x _) args [] _=>if S.gl x&&args.all J1 then Br P n S x args else bX
  |.Call (.Name x _) args (kw::kws) _=>Bl P S (λS e=>ev P n S e) x args<|kw::kws
  |.Call (.Attribute o m ap) args [] p=>if args.all J1&&Vz o&&(ap.3==p.1)&&decide (WP args<30)then wO P S m (WP args) o (cq<|args.map<|ev P n S) (Bo P S.5 m (WP args) (wN P S m o) (ev P n S o)<|cq<|args.map<|ev P n S)else bX
  |.ListComp elt [⟨tg,iter,ifs,as⟩] sc _=>
   if as=0/\XJ iter=Zl/\QT S.N (VD sc) (QJ sc) (dY S sc) S.lK sc=Zl then Bp ifs (lL P n<|S.comp sc) λmt=>Jy (rT P n S tg iter) (VD sc).length (dY S sc) (mI P n (S.comp sc) tg) mt<|ev P n (S.comp sc) elt
   else bX
  |_=>bX
def lL(P:Pg):Nat->Sc->Expr->T1|0,_,_=>nu|n+1,S,e=>match e with|.UnaryOp .Not a _=>JJ<|lL P n S a|.BoolOp .And vs _=>A8<|vs.map<|lL P n S|.BoolOp .Or vs _=>p7<|vs.map<|lL P n S|.IfExp .. =>nu|.Compare a [o] [b] _=>if qW o b then nu else Ji bg (Jc (kh o b) (ev P n S a)<|ev P n S b)|.Compare a [o,o'] [b,c] _=>if qZ [o,o'] [b,c]then nu else Ji bg (JS (gk o) (gk o') (ev P n S a) (ev P n S b)<|ev P n S c)|.Compare .. =>nu|e=>Ji cF<|ev P n S e
def Bq(P:Pg):Nat->Sc->Wv->O1|0,_,_=>TZ|_+1,_,Zg=>V0|n+1,S,V e=>Qz<|ev P n S e
def Br(P:Pg):Nat->Sc->Str->Td->E1|0,_,_,_=>bX|n+1,S,x,args=>match P.1 x with|some f=>Xk S.5 f (WP args)<|cq<|args.map<|ev P n S|none=>match P.2 x with|some f=>wI S.5 x f (WP args)<|cq<|args.map<|ev P n S|none=>if P.8 x then wM P S x (ev P n S) args else bX
def rT(P:Pg):Nat->Sc->Expr->Expr->I1|0,_,_,_=>stI|n+1,S,tg,e=>match e with
  |.Call (.Name x _) args [] _=>
   if S.gl x&&P.8 x&&args.all J1&&(x=="range")then GQ (WP args) (cq<|args.map<|ev P n S)
   else if S.gl x&&P.8 x&&args.all J1&&(x=="enumerate")then(match tg,args with|.Tuple ..,[a]=>cR Vw<|Jb (ev P n S a) Je|_,_=>stI)
   else if S.gl x&&P.8 x&&args.all J1&&(x=="reversed")then(match args with|[a]=>cR VA<|Jb (ev P n S a) Je|_=>stI)
   else Jv (ev P n S e)
  |e=>Jv<|ev P n S e
def mI(P:Pg):Nat->Sc->Expr->G1|0,_,_=>nv|n+1,S,e=>match e with|.Name x _=>(match S.iq x with|some i=>bw i|none=>nv)|.Tuple es _ _=>if es.all J1 then mE (WP es) (nz<|es.map<|mI P n S)else nv|.Subscript o i _=>if Xr i then p9 o (ev P n S o) (ev P n S i)else nv|_=>nv
end
end
noncomputable def V3 (t:T1)(b:S1):Nat->S1|0,_,_=>.stuck|n+1,U,h=>match t U h with|.ok c h1=>if c then(match b U h1 with|.next U2 J=>V3 t b n U2 J|.cont U2 J=>V3 t b n U2 J|.brk U2 J=>.next U2 J|.ret v J=>.ret v J|.exc m U2 J=>(match J[m]? with|some (.exc _ _)=>.exc m U2 J|_=>.stuck)|_=>.stuck)else .next U h1|_=>.stuck
@[irreducible] def Xc:Nat:=1000000
def Bt(o:Bool)(t:T1)(b:S1):S1:=match o with|true=>V3 t b Xc|false=>cj
def V1(t:T1)(b:S1):S1:=Bt Zl t b
theorem GU(t)(b):V1 t b=V3 t b Xc:=rfl
noncomputable def mJ:sP->IV->IV->IH->Res IV|.Add,.int i,.int j,h=>.ok (.int<|i+j) h|_,_,_,_=>.stuck
def nA(op:sP)(i:Nat)(e:E1):S1:=λU h=>rS U (Ja i U h) λx h1=>rS U (e U h1) λy J=>rS U (mJ op x y J) λz h3=>.next (U.set i<|V z) h3
def XR(op:sP)(f:Str)(o e:E1):S1:=λU h=>rS U (o U h) λov h1=>match ov with|.ref i=>(match h1[i]? with|some (.ins _ fs)=>(match fs.lookup f with|some x=>rS U (e U h1) λy J=>rS U (mJ op x y J) λz h3=>(match h3[i]? with|some (.ins c gs)=>if (WP gs)<1000 then .next U (h3.set i<|.ins c<|bL f z gs)else .stuck|_=>.stuck)|none=>.stuck)|_=>.stuck)|_=>.stuck
def wQ:IV->IV->IH->Res IV
 |.ref i,.int k,h=>match h[i]? with
  |some (.lst xs)=>(match bI xs k with
   |some v=>if 0<=k then .ok v h else .stuck
   |none=>.stuck)
  |_=>.stuck
 |_,_,_=>.stuck
def XS(op:sP)(o k e:E1):S1:=λU h=>rS U (o U h) λov h1=>rS U (k U h1) λkv J=>rS U (wQ ov kv J) λx h3=>rS U (e U h3) λy h4=>rS U (mJ op x y h4) λz h5=>hJ ov kv z U h5
def eG:List S1->S1|[]=>Jx|[a]=>a|a::b::r=>Jg a<|eG<|b::r
def Bu:Expr->Bool|.Tuple .. =>Zo|_=>Zl
def wR:Expr->Bool|.Tuple .. =>Zl|_=>Zo
def lM:Expr->Bool|.ListComp .. =>Zl|_=>Zo
def wU:Expr->Bool|.Subscript .. =>Zl|_=>Zo
abbrev Xi:=Str->Option (Str->Ww)
section
def Bv(S:Sc):Wx->Option (Ta)|none=>V Zg|some x=>if S.2.lookup x==V .local then(dW x S.N).map V else Zg
def qe(S:Sc):fu->S1|.Assign [.Name x _] (.Constant c _ _) _=>(match S.iq x with|some i=>Jj i<|GP c|none=>cj)|_=>cj
def Bw(S:Sc)(m:fu->S1)(sl:Ta)(suite:Tl):S1:=match sl with|some i=>if i<WP S.N then Xu i (eG<|suite.map m)else cj|none=>eG<|suite.map<|qe S
def Bx(P:Pg)(S:Sc)(m:fu->S1):Er->Option Gv|.ExceptHandler (V (.Name D _)) nm (b::suite) _=>if S.gl D then(match P.xi D,Bv S nm with|some g,V sl=>V (g,sl,Bw S m sl<|b::suite)|_,_=>Zg)else Zg|_=>Zg
def lN(P:Pg)(S:Sc)(m:fu->S1):Tr->Option (Tq)|[]=>V []|h::r=>match Bx P S m h,lN P S m r with|some q,V l=>V<|q::l|_,_=>Zg
end
def qf(K:W.Frag)(mg:Str->Tb)(xi:Xi)(xf:Str->Str->Bool):Prop:=(∀D g,xi D=V g->∃v,(mg D=V v\/(mg D=Zg/\kE D=V v)) /\ ∀c C b,g c=V b->W.nsIn K Z4 c=V (V<|.ref C)->hE K C/\W.kitOne K (.ref C) v=V b/\W.exmOne K (.ref C) v=V b) /\ ∀f c C,xf f c=Zl->W.nsIn K Z4 c=V (V<|.ref C)->gj K C f/\hE K C/\W.findIn K (.ref C) f=V Zg
section
def By(P:Pg)(S:Sc)(m:Expr->E1)(x:Str)(e:Expr):S1:=match P.xo x with|some f=>if S.5&&S.gl x&&J1 e&&decide (f.1<=8)then(match f.fill S.5 2 with|some d=>XT (λc=>c==x)<|Yy x f.3 d<|cq<|[e].map m|none=>cj)else cj|none=>cj
def Bz(P:Pg)(S:Sc)(m:Expr->E1)(exc cause:Wv):S1:=match exc,cause with|some (.Call (.Name x _) [e] [] _),Zg=>By P S m x e|_,_=>cj
def qg(P:Pg)(S:Sc)(m mw:fu->S1)(body:Tl)(hs:Tr)(o f:Tl):S1:=match hs,o,f with|h::r,[],[]=>if S.3 then(match lN P S mw (h::r)with|some ms=>jE (eG<|body.map m) ms|none=>cj)else cj|_,_,_=>cj
end
def BA(P:Pg)(f:Str)(o e:E1):S1:=if P.7 f then JL f o e else Xt (P.xf f) f o e
section
def ex(P:Pg):Nat->Sc->fu->S1|0,_,_=>cj|n+1,S,st=>match st with|.Pass _=>FI|.Break _=>FJ|.Continue _=>FK|.Expr e _=>if VE e then JH (ev P n S e)else cj|.Return Zg _=>FL|.Return (V e) _=>Jk<|ev P n S e|.If c a b _=>bU (lL P n S c) (eG<|a.map<|ex P n S)<|eG<|b.map<|ex P n S|.While c a [] _=>Bt S.3 (lL P n S c)<|eG<|a.map<|ex P n S|.For tg it a [] _=>if XJ it&&S.3 then cD (rT P n S tg it) (mI P n S tg) (eG<|a.map<|ex P n S)else cj|.Assign [.Name x _] e _=>if VE e||lM e then(match S.iq x with|some i=>Jj i<|ev P n S e|none=>cj)else cj|.Assign [.Attribute o f _] e _=>if VE e||lM e then BA P f (ev P n S o) (ev P n S e)else cj|.Assign [tg] e _=>if VE e&&((wR tg&&Bu e)||wU tg)then fG (ev P n S e) (mI P n S tg)else cj|.Raise exc cause _=>Bz P S (ev P n S) exc cause|.Try body hs o f _=>qg P S (ex P n S) (ex P n {S with cl:=Zo}) body hs o f|.AugAssign (.Name x _) op e _=>(match S.iq x with|some i=>nA op i<|ev P n S e|none=>cj)|.AugAssign (.Attribute o f _) op e _=>if P.7 f then XR op f (ev P n S o) (ev P n S e)else cj|.AugAssign (.Subscript o k _) op e _=>if Xr k then XS op (ev P n S o) (ev P n S k) (ev P n S e)else cj|_=>cj
end
structure qh(O:aN)(prog:cy)(w:bV)(K:W.Frag)(mg:Str->Tb)(base:bu)(k:Nat)(f:Fn)(fa:ZF)(fd:jm)(ps:Tj):Prop where
 len:WP ps=f.1
 ok:bW prog w K mg base (eR prog w) f.4 k fa fd ps<|jd O K ps f.3
 dv:∀j,j<=WP f.aS->∃ds,Qe K fd ps ds/\WP ds=WP f.aS-j/\∃vs,Vals vs ds/\∀Y H,aA K Y H (f.2.drop j) vs
structure tY(O:aN)(k:Nat)(P:Pg)(prog:cy)(w:bV)(K:W.Frag)(mg:Str->Tb)(base:bu):Prop where
 fn:∀x f,P.1 x=V f->∃fa fd ps,mg x=V (.ref fa)/\W.keepIn K (.ref fa)=Zl/\qh O prog w K mg base k f fa fd ps
 cls:∀x f,P.2 x=V f->∃C fa fd ps,mg x=V (.ref C)/\O x=V C/\Mk K C fa/\qh O prog w K mg base k f fa fd ps
 fJ:∀c m f,P.3 c m=V f->∃C fa fd ps,O c=V C/\mB K C/\Meth K C m fa/\qh O prog w K mg base k f fa fd ps
 mw:∀m,P.4 m=Zl->∀c f,P.3 c m=V f->f.4=Zo
 con:∀x v,P.5 x=V v->∃u y,mg x=V u/\RelV y u/\∀Y H,RV K Y H v y
 mG:∀D g,P.6 D=V g->∃c,mg D=V c/\gi O K c λt=>match t with|.ins c=>V (g c)|.exc _=>Zg|_=>V Zo
 fld:∀f,P.7 f=Zl->Yn O K f
 free:∀x,P.8 x=Zl->mg x=Zg
 blt:∀q j,P.9 q=V j->QD mg base
 xi:qf K mg P.xi P.xf
 mH:∀x,P.mH x=Zl->∃C,mg x=V (.ref C)/\kd K C
 xo:∀x f,P.xo x=V f->∃C fa fd ps,mg x=V (.ref C)/\W.nsIn K Z4 x=V (V<|.ref C)/\Qp K C fa=Zl/\W.keepIn K (.ref C)=Zl/\(∀h:bu,K.In h->oU h C)/\qh O prog w K mg base k f fa fd ps
 xb:∀x,P.xb x=Zl->∃C,mg x=V (.ref C)/\ke K C
structure Good(O:aN)(k:Nat)(P:Pg)(S:Sc)(X:Cx):Prop where
 n:X.N=S.N
 sc:X.10.1.2=S.2
 nd:S.N.Nodup
 fk:X.10.1.1=.function
 calm:X.15=Zl
 room:bJ S.5 (k+1) X.A
 st:S.3=Zl->∀x,X.fn x=Zl
 pg:tY O k P X.1 X.w X.K X.4 X.5
 code:S.3=Zl->W.codeIn X.K X.10.7 S.q=Zl/\X.10.5=S.q++".<locals>."
 fL:S.3=Zl->bJ S.5 (k+3) X.A
 top:S.3=Zl->X.12=X.10::X.11/\X.10.8=V X.10.2
section
variable{O:aN}{k:Nat}{P:Pg}{S:Sc}{X:Cx}{α β:Type}{R:pU α β}
def Jo:PX O X R t (λ_ _=>.stuck):=(λ_ _ _ _ _ _ _ _ _ _ K=>(K).elim)
def T2(k:∀bD h,∃j,m bD h=j bD h/\PX O X R t j):PX O X R t m:=by intro Z s U H Y bD h Q E N K;let#[j,e,p]:=k bD h;rw[e]at K;show p Z s U H Y bD h Q E N K
def YH:jc O X tg e stI:=(λ_ _ _ _ _ _ _ _ _ _ K=>(K).elim)
def YG:jb O X e nv:=(λ_ _ _ _ _ _ _ _ _ _ _ _ _ K=>(K).elim)
def JK:Af O X t cj:=(λ_ _ _ _ _ _ _ _ _ _ K=>(K).elim)
theorem Y9:∀{l:Tj}{i:Nat},dW x l=V i->l[i]?=V x
 |[],_,h=>by cases h
 |y::r,i,h=>by
  unfold dW at h;split at h
  .rename_i e;cases h;simp[beq_iff_eq.1 e]
  .let#[j,k,rfl]:=ZK.1 h;simpa using Y9 k
def Good.kind(G:Good O k P S X)(x):X.10.kindOf x=S.2.lookup x:=by change X.10.1.2.lookup x=_;rw[G.2]
def Good.ny(G:Good O k P S X)(h:S.ny x=V i):X.N[i]?=V x/\pM X.10.1 x/\(x==("__debug__":Str))=Zo/\(x==("__classdict__":Str))=Zo:=by
 unfold Sc.ny at h;let fin:∀{o:oh},(o=.local\/o=.cell\/o=.free)->S.2.lookup x=V o->(if (x==("__debug__":Str)||x==("__classdict__":Str))=Zl then Zg else dW x S.N)=V i ->X.N[i]?=V x/\pM X.10.1 x/\(x==("__debug__":Str))=Zo/\(x==("__classdict__":Str))=Zo:=λho e h=>by
  split at h
  .cases h
  .rename_i hd;let j:=rm.2 hd;rw[Bool.or_eq_false_iff]at j;calc#[by rw[G.n];show Y9 h,?_,j.1,j.2];unfold pM;rw[G.2,e];rcases ho with rfl|rfl|rfl
   .show .inl 07
   .show .inr<|.inl 07
   .show .inr<|.inr 07
 cases e:S.2.lookup x with|none=>rw[e]at h;cases h|some o=>rw[e]at h;cases o with| «local» =>show fin (.inl 07) e h|cell=>show fin (.inr<|.inl 07) e h|free=>show fin (.inr<|.inr 07) e h|_=>cases h
def Good.gl(G:Good O k P S X)(h:S.gl x=Zl):Gl X x/\(x==("__debug__":Str))=Zo/\x≠"__name__":=by
 unfold Sc.gl at h;simp![Zt,beq_iff_eq,pE]at h;refine#[?_,h.1.2,λe=>?_]
 .change X.10.kindOf x=_;rw[G.kind];show h.1.1
 .lia
def Good.iq(G:Good O k P S X)(h:S.iq x=V i):X.N[i]?=V x/\Loc X.10.1 x/\(X.fn x=Zl\/X.10.1.2.lookup x=V .local):=by
 unfold Sc.iq at h;unfold L2.Loc;rw[G.2];cases e:S.2.lookup x with|none=>rw[e]at h;cases h|some o=>
  rw[e]at h;cases o with
  | «local» =>show#[by rw[G.n];show Y9 h,.inl 07,.inr 07]
  |cell=>
   dsimp only at h;split at h
   .rename_i ho;show#[by rw[G.n];show Y9 h,.inr 07,.inl<|G.7 ho x]
   .cases h
  |_=>cases h
def Good.nodup(G:Good O k P S X):X.N.Nodup:=by rw[G.n];show G.3
def Good.rV(G:Good O k P S X)(h:b=Zl->S.5=Zl):Roo b (k+1) X:=(#[#[λz=>G.6.1<|h z,G.6.2,G.6.3],G.5])
def J2(h:J1 a=Zl):ZT (a::es) env=(Zo,bj a env)::ZT es env:=by cases a<;>first|rfl|cases h
theorem VY:∀{es:Td},es.all J1=Zl->(eJ pos<|ZT es env).any (·.1)=Zo|[],_=>07|a::es,h=>by simp![fT,Zt]at h;rw[J2 h.1];change(Zo||(eJ pos (ZT es env)).any (·.1))=Zo;rw[VY h.2]<;>rfl
theorem BB:∀{es:Td},es.all J1=Zl->(eJ pos<|ZT es env).all (λx=>!x.1)=Zl|[],_=>07|a::es,h=>by simp![fT,Zt]at h;rw[J2 h.1];change(Zl&&(eJ pos<|ZT es env).all (λx=>!x.1))=Zl;rw[BB h.2]<;>rfl
def T3(ha:es.all J1=Zl)(hn:WP es<30):((eJ pos<|ZT es env).all (λx=>!x.1)&&(oz pos<|oo [] env).all (λx=>x.1.isSome) && decide (WP es+([]:Tn).length+(if ([]:Tn).isEmpty then 0 else 1)<30))=Zl:=by change((eJ pos<|ZT es env).all (λx=>!x.1)&&Zl&&decide (WP es+0+0<30))=Zl;rw[BB ha];simpa using hn
theorem X2:∀(l:Tw),nc (WP l) (cq l)|[]=>PQ|_::r=>PR<|X2 r
theorem Ve:∀{es:Td},es.all J1=Zl->(∀e,ai O X e<|f e)->dR O X es (cq<|es.map f)|[],_,_=>QS|a::es,h,hf=>by simp![fT,Zt]at h;show QG (hf a) (Ve h.2 hf)<|J2 h.1
theorem GV(j:∀e,ai O X e<|f e):∀(vs:Td),ai O X (.BoolOp .And vs pos) (A7<|vs.map f)|[]=>Jo|[a]=>FG<|j a|a::b::r=>OH YS (j a)<|GV j<|b::r
theorem GW(j:∀e,ai O X e<|f e):∀(vs:Td),ai O X (.BoolOp .Or vs pos) (p6<|vs.map f)|[]=>Jo|[a]=>FG<|j a|a::b::r=>z9 YS (j a)<|GW j<|b::r
theorem GX(j:∀e,g7 O X e<|f e):∀(vs:Td),mC O X (.BoolOp .And vs pos) (A8<|vs.map f)|[]=>λ_=>Jo|[a]=>OC<|j a|a::b::r=>OE (j a)<|GX j<|b::r
theorem GY(j:∀e,g7 O X e<|f e):∀(vs:Td),mC O X (.BoolOp .Or vs pos) (p7<|vs.map f)|[]=>λ_=>Jo|[a]=>OD<|j a|a::b::r=>OF (j a)<|GY j<|b::r
theorem GZ:∀{es:Td},es.all J1=Zl->(∀e,jb O X e<|f e)->lg O X es (nz<|es.map f)|[],_,_=>Pa|a::es,h,hf=>by simp![fT,Zt]at h;calc Pb (hf a) (GZ h.2 hf) ?_;cases a<;>first|rfl|show absurd h.1 Zx
theorem G0:∀{es:Td},es.all J1=Zl->(gA es env).length=WP es
 |[],_=>07
 |a::es,h=>by
  simp![fT,Zt]at h;let:gA (a::es) env=(Zo,kW a env)::gA es env:=by cases a<;>first|rfl|show absurd h.1 Zx
  rw[this,jj,jj,G0 h.2]
theorem G2:∀{es:Td},es.all J1=Zl->(gA es env).findIdx? (·.1)=Zg
 |[],_=>07
 |a::es,h=>by
  simp![fT,Zt]at h;let:gA (a::es) env=(Zo,kW a env)::gA es env:=by cases a<;>first|rfl|show absurd h.1 Zx
  rw[this,List.findIdx?_cons,G2 h.2];rfl
def T4(op):dU O X (f7 op) (binI op):=by
 cases op with
 |Add=>show ON
 |Sub=>show OO
 |Mult=>show RJ
 |FloorDiv=>show OS
 |Mod=>show OT
 |Pow=>show OU
 |_=>show λ_ _ _ _ _ _ _ _ _ _ _ _ _ _ _ _ K=>(K).elim
def YD(j:X.A.5+64<cLine)(op):dU O X (fb op) (gk op):=by cases op with|Lt=>show Aa|LtE=>show Ab|Gt=>show Ac|GtE=>show Ad|Eq=>show Av j|NotEq=>show Aw j|Is=>show Ax|IsNot=>show PT|_=>show λ_ _ _ _ _ _ _ _ _ _ _ _ _ _ _ _ K=>(K).elim
def G3(j:X.A.5+64<cLine)(op)(b):dU O X (fb op) (kh op b):=by
 unfold kh;split
 .split
  .show RN
  .show λ_ _ _ _ _ _ _ _ _ _ _ _ _ _ _ _ K=>(show False from K).elim
 .show YD j op
def T5(a):wc O X (Bi a):=by
 unfold Bi;split
 .show So
 .show tL
def T6(a):v9 O X (Bf a):=by
 unfold Bf;split
 .show RM
 .show As
def BC(op):vY O X (unaryOp op) (vR op):=by cases op with|Not=>show OI YS|USub=>show OV|_=>show λ_ _ _ _ _ _ _ _ _ _ _ _ _ K=>(K).elim
def Yp(h:Vz o=Zl):qV o m env w=w:=by
 cases o with
 |Call f j k p=>
  cases f with
  |Name x q=>
   cases j with
   |nil=>cases k with|nil=>cases h|cons _ _=>rfl
   |cons _ _=>rfl
  |_=>rfl
 |_=>rfl
def Y6(h:XJ e=Zl)(x):sD e env x=pure x:=by cases e<;>first|rfl|cases h
def YQ(h:VE e=Zl):ow e t l env=pure Zo:=by cases e<;>first|rfl|cases h
def T7(h:Xr i=Zl):Fj i:=(λ_ _=>by cases i<;>first|rfl|cases h)
def wV(B:Vz o=Zl)(hs:es.all J1=Zl)(u:(ap.3==pos.1)=Zl)(hn:WP es<30):bj (.Call (.Attribute o m ap) es [] pos) env=(do
   let ov<-bj o env
   mV ap.atName
   let (f,first)<-iE [ov] (pA ov m (do return(<-importBound o env).getD Zl))
   sO pos f first (eJ pos<|ZT es env) (oz pos<|oo [] env)):=by
 let j:methodCallForm (WP es+([]:Tn).length) (eJ pos<|ZT es env) (oz pos<|oo [] env)=Zl:=by change((eJ pos<|ZT es env).all (λx=>!x.1)&&Zl&&decide (WP es+0+0<30))=Zl;rw[BB hs];simpa using hn
 let k:methodCallPos Zl o env ap pos=pure pos:=by unfold methodCallPos;simp[u]
 rw[arm_eval_Call,Yp B];unfold methodCall;rw[j,k];rfl
end
section
variable{O:aN}{k:Nat}{P:Pg}{S:Sc}{X:Cx}
def G4(G:Good O k P S X)(N0 l c)(js)(sc):QT N0 l c js X.10.1 sc=QT N0 l c js S.lK sc:=by unfold QT;rw[G.4,G.2];rfl
def Good.comp(G:Good O k P S X){sc:fg}(h:QT S.N (VD sc) (QJ sc) (dY S sc) S.lK sc=Zl)(C)(s)(H)(fp):Good O k P (S.comp sc) (fX X (VD sc++QJ sc) sc C s H fp):=by
 simp![QT,Zt,decide_eq_true_eq]at h;let#[#[#[#[#[#[#[#[#[kF,kF0],kNC],kL],kFr],kFx],kJ],kLen],kNd],kLo]:=h;calc#[07,?_,kNd,kF,G.5,G.6,λz=>absurd z Zx,G.8,λz=>absurd z Zx,λz=>absurd z Zx,λz=>absurd z Zx];change(relabel sc X.10).2=_;unfold relabel Sc.comp;dsimp only;refine yw λx _=>?_
 let#[n,j]:=x;dsimp only;rw[G.4,G.kind];simp
end
structure wW(O:aN)(k:Nat)(P:Pg)(n:Nat):Prop where
 e:∀S X e,Good O k P S X->ai O X e (ev P n S e)
 t:∀S X e,Good O k P S X->g7 O X e (lL P n S e)
 o:∀S X e,Good O k P S X->tI O X e (Bq P n S e)
 c:∀S X x args p pos,Good O k P S X->S.gl x=Zl->args.all J1=Zl->ai O X (.Call (.Name x p) args [] pos) (Br P n S x args)
 i:∀S X tg e,Good O k P S X->jc O X tg e (rT P n S tg e)
 g:∀S X e,Good O k P S X->jb O X e (mI P n S e)
section
variable{O:aN}{k:Nat}{P:Pg}{n:Nat}{S:Sc}{X:Cx}
def T8:wW O k P 0:=(#[λ_ _ _ _=>Jo,λ_ _ _ _=>Jo,λ_ _ _ _=>Jo,λ_ _ _ _ _ _ _ _ _=>Jo,λ_ _ _ _ _=>YH,λ_ _ _ _=>YG])
def Yu{K:W.Frag}(D:qh O prog w K mg base k f fa fd ps)(h:f.fill b m=V d):(f.4=Zl->b=Zl)/\∃ds,Qe K fd ps ds/\m+WP ds=WP ps/\∃vs,Vals vs ds/\∀Y H,aA K Y H d vs:=by
 unfold Fn.fill at h;split at h
 .rename_i j;cases h;let#[ds,B,u,q]:=D.3 (WP f.aS-(f.1-m))<|nU _ _;show#[λz=>by simpa[z]using j.2.2,ds,B,by rw[u,D.1];lia,q]
 .cases h
def T9(G:Good O k P S X)(H:P.1 x=V f)(J:S.gl x=Zl)(ha:args.all J1=Zl)(L:∀e,ai O X e<|g e):ai O X (.Call (.Name x p) args [] pos) (Xk S.5 f (WP args)<|cq<|args.map g):=by
 let#[M,Q,ps,hm,E,D]:=G.8.1 x f H;let#[gl,m,_]:=G.gl J;unfold Xk;cases hd:f.fill S.5 (WP args) with|none=>show Jo|some d=>let#[u,ds,C,F,q]:=Yu D hd;let B:=(G.rV u).mono<|fP k;cases args with|nil=>show PB D.2 B gl hm E C q (by simpa using F) m|cons a R=>let j:=ha;simp![fT,Zt]at j;calc PA D.2 B gl hm E C q (Ve ha L) (λU h xs I e=>?_) m (J2 j.1)<|VY j.2;let:=X2 _ U h xs I e;rw[Zn]at this;rw[this];show F
def Uc(G:Good O k P S X)(H:P.2 x=V f)(J:S.gl x=Zl)(ha:args.all J1=Zl)(L:∀e,ai O X e<|g e):ai O X (.Call (.Name x p) args [] pos) (wI S.5 x f (WP args)<|cq<|args.map g):=by
 let#[C,Q,R,ps,hm,E,M,D]:=G.8.2 x f H;let#[gl,m,_]:=G.gl J;unfold wI;cases hd:f.fill S.5 (WP args+1)with|none=>show Jo|some d=>let#[u,ds,F,B,q]:=Yu D hd;cases args with|nil=>show PD M D.2 E (G.rV u) gl hm F q (by simp at B;(rw[nS];show ZW (Zh B)<|Zh B.symm)) m|cons a W=>let j:=ha;simp![fT,Zt]at j;calc PC M D.2 E (G.rV u) gl hm F q (Ve ha L) (λU h xs I e=>?_) m (J2 j.1)<|VY j.2;let:=X2 _ U h xs I e;rw[Zn]at this;lia
def G5(G:Good O k P S X)(J:(S.5||P.4 m)=Zl)(n):Ar O X m n (Qg P m n):=by
 intro c f aS h;unfold Qg at h;cases hm:P.3 c m with|none=>rw[hm]at h;cases h|some fn=>rw[hm]at h;dsimp only at h;cases hd:fn.fill Zl (n+1)with|none=>rw[hd]at h;cases h|some d=>rw[hd]at h;cases h;let#[C,B,I,ps,E,j,H,D]:=G.8.3 c m fn hm;let#[_,ds,F,u,q]:=Yu D hd;show#[C,B,I,_,k,ps,ds,E,j,H,D.2,(G.rV λz=>(yU.1 J).elim id λy=>by rw[G.8.4 m y c fn hm]at z;cases z).mono<|fP k,F,q,by(rw[qJ];show ZW (Zh u)<|Zh u.symm)]
def Ud(h:dX T m n=V g):∃id,PlainAttrs T/\Slot T m id/\l5 (.builtin id)=pure (.type "method_descriptor")/\nh O X T id g:=by
 unfold dX at h;split at h
 .rename_i hm;simp![Zt,beq_iff_eq]at hm;let#[#[rfl,rfl],_]:=hm;cases h;show#[_,sY,PySem.F.slot_list_append,PySem.F.type_list_append,Rj]
 .split at h
  .rename_i hm;simp![Zt,beq_iff_eq]at hm;let#[#[rfl,rfl],_]:=hm;cases h;show#[_,sY,EH,EI,RW]
  .split at h
   .rename_i hm;simp![Zt,beq_iff_eq]at hm;let#[#[rfl,rfl],_]:=hm;cases h;show#[_,sY,PySem.F.slot_list_extend,PySem.F.type_list_extend,RX]
   .split at h
    .rename_i hm;simp![Zt,beq_iff_eq]at hm;let#[#[rfl,rfl],_]:=hm;cases h;show#[_,sY,EH,EI,TM]
    .split at h
     .rename_i hm;simp![Zt,beq_iff_eq]at hm;let#[#[rfl,rfl],_]:=hm;cases h;show#[_,sY,PySem.F.slot_list_remove,PySem.F.type_list_remove,TN]
     .split at h
      .rename_i hm;simp![Zt,beq_iff_eq]at hm;let#[#[rfl,rfl],_]:=hm;cases h;show#[_,PySem.F.plainAttrs_dict,EC,PySem.F.type_dict_setdefault,RL]
      .cases h
def Ue(E:dX T m n=V g)(ho:ai O X o mo)(F:∀e,ai O X e<|f e)(ha:args.all J1=Zl)(D:Vz o=Zl)(C:(ap.3==pos.1)=Zl)(hn:WP args<30):ai O X (.Call (.Attribute o m ap) args [] pos) (rQ T g mo<|cq<|args.map f):=by let#[id,B,k,ty,u]:=Ud E;cases args with|nil=>show Ri B k ty u ho (Yp D) C|cons a G=>let j:=ha;simp![fT,Zt]at j;show AG B k ty u ho (Ve ha F) (Yp D) (T3 ha hn) C (J2 j.1)<|VY j.2
def Uh(G:Good O k P S X)(D:(S.5||P.4 m)=Zl)(ho:ai O X o mo)(E:∀e,ai O X e<|f e)(ha:args.all J1=Zl)(u:Vz o=Zl)(B:(ap.3==pos.1)=Zl)(hn:WP args<30):ai O X (.Call (.Attribute o m ap) args [] pos) (Jm P m (WP args) mo<|cq<|args.map f):=by
 refine T2 λJ h=>?_
 unfold Jm;cases e:mo J h with|exc n C=>show#[λ_ _=>.stuck,07,Jo]|stuck=>show#[λ_ _=>.stuck,07,Jo]|ok v C=>
  dsimp only;split
  .calc#[_,07,?_];cases args with|nil=>show PG ho (G5 G D 0)<|wV u ha B hn|cons a I=>let j:=ha;simp![fT,Zt]at j;calc PF ho (G5 G D (a::I).length) (Ve ha E) (λU h xs F e=>?_) (J2 j.1) (VY j.2)<|wV u ha B hn;let:=X2 _ U h xs F e;rwa [Zn]at this
  .cases H:dX (p8 v C) m (WP args) with|none=>show#[λ_ _=>.stuck,07,Jo]|some g=>show#[_,07,Ue H ho E ha u B hn]
def Ui(G:Good O k P S X)(ho:ai O X o mo)(W:∀e,ai O X e<|f e)(ha:args.all J1=Zl)(R:Vz o=Zl)(Y:(ap.3==pos.1)=Zl)(hn:WP args<30):ai O X (.Call (.Attribute o m ap) args [] pos) (Bo P S.5 m (WP args) (wN P S m o) mo<|cq<|args.map f):=by
 cases J:wN P S m o with
 |none=>
  change ai O X _ (if S.5||P.4 m then _ else _);split
  .rename_i hw;show Uh G hw ho W ha R Y hn
  .show Jo
 |some g=>
  cases o with
  |Name x q=>
   let j:(if m=="__init__"&&S.gl x&&P.mH x then P.2 x else Zg)=V g:=J;clear J;split at j
   .rename_i Q;simp![Zt,beq_iff_eq]at Q;let#[#[rfl,hg],hx]:=Q;let#[C,fa,fd,ps,hm,hC,M,D]:=G.8.2 x g j;let#[C',E,B]:=G.8.mH x hx;rw[hm]at E;cases E;let#[gl,I,_]:=G.gl hg;change ai O X _ (if (WP args)=0 then bX else Xk S.5 g (WP args) (cq<|args.map f));split
    .show Jo
    rename_i hz;unfold Xk;cases hd:g.fill S.5 (WP args) with|none=>show Jo|some d=>let#[H,ds,F,L,q]:=Yu D hd;let Z:=(G.rV H).mono<|fP k;cases args with|nil=>show absurd 07 hz|cons a es=>let u:=ha;simp![fT,Zt]at u;calc Su D.2 Z gl hm B M F q (Ve ha W) (λU h xs h' e=>?_) I (J2 u.1) (VY u.2)<|wV R ha Y hn;let:=X2 _ U h xs h' e;rw[Zn]at this;rw[this];show L
   .cases j
  |_=>cases J
def Uj(G:Good O k P S X)(U:ai O X (.Call (.Attribute o m ap) args [] pos) e)(Y:∀e,ai O X e<|f e)(ha:args.all J1=Zl)(M:Vz o=Zl)(Z:(ap.3==pos.1)=Zl)(hn:WP args<30):ai O X (.Call (.Attribute o m ap) args [] pos) (wO P S m (WP args) o (cq<|args.map f) e):=by
 unfold wO;split
 .rename_i E;cases o with
  |Name x q=>simp![Bm,Zt,beq_iff_eq,decide_eq_true_eq]at E;let#[#[#[rfl,F],J],Q]:=E;let#[D,hm,B]:=G.8.xb x J;let#[gl,u,_]:=G.gl F;cases args with|nil=>show absurd 07 Q|cons a es=>let j:=ha;simp![fT,Zt]at j;calc SO (λc C R L=>?_) gl hm B (Ve ha Y) u (J2 j.1) (VY j.2)<|wV M ha Z hn;let#[g,F]:=oZ.1 R;let#[C',I,fd,ps,_,H,W,_]:=G.8.xo c g F;rw[L]at H;cases H;show#[I,W]
  |_=>simp[Bm]at E
 .show U
def Ul(G:Good O k P S X)(ha:ai O X a ma)(hs:J1 a=Zl)(E:S.gl "isinstance"=Zl)(B:P.8 "isinstance"=Zl)(F:S.gl y=Zl):ai O X (.Call (.Name "isinstance" p) [a,.Name y p2] [] pos) (Bc (wJ P y) ma):=by
 unfold Bc;cases e:wJ P y with|none=>show Jo|some dG=>
  let#[m,j,u]:=G.gl F;let fin:∀{c:Zv},lz X (.Name y p2) c->gi O X.K c dG->ai O X (.Call (.Name "isinstance" p) [a,.Name y p2] [] pos) (dw dG ma):=λI C=>
   PW I C ha (G.gl E).1 (G.8.8 _ B) 07 (J2 hs) 07 07
  unfold wJ at e;cases D:P.6 y with|some g=>rw[D]at e;cases e;let#[c,hm,C]:=G.8.6 y g D;show fin (F5 m hm j) C|none=>
   rw[D]at e;dsimp only at e;split at e
   .rename_i H;let hm:=G.8.8 y H;split at e
    .rename_i q;cases (beq_iff_eq.1 q);cases e;show fin (X7 m hm 07 u j) P2
    .split at e
     .rename_i q;cases (beq_iff_eq.1 q);cases e;show fin (X7 m hm 07 u j) PY
     .split at e
      .rename_i q;cases (beq_iff_eq.1 q);cases e;show fin (X7 m hm 07 u j) PZ
      .split at e
       .rename_i q;cases (beq_iff_eq.1 q);cases e;show fin (X7 m hm 07 u j) P0
       .split at e
        .rename_i q;cases (beq_iff_eq.1 q);cases e;show fin (X7 m hm 07 u j) P1
        .cases e
   .cases e
def Um(G:Good O k P S X)(ha:ai O X a ma)(hs:J1 a=Zl)(F:S.gl x=Zl)(D:P.8 x=Zl)(C:A9 x=Zl)(H:(S.5||wL x [a])=Zl):ai O X (.Call (.Name x p) [a] [] pos) (bp (tV x)<|Jb ma Je):=by
 let#[u,j,m]:=G.gl F;let hm:=G.8.8 x D;let E:wL x [a]=Zo->X.A.1=Zg:=λz=>G.6.1<|by simpa[z]using H
 let B:dR O X [a] (Jb ma Je):=QG ha QS<|J2 hs;unfold A9 at C;simp![mf,beq_iff_eq]at C;rcases C with((((rfl|rfl)|rfl)|rfl)|rfl)|rfl
 .show VO PO u hm 07 B m j (J2 hs) 07
 .show VO (Rh<|E 07) u hm 07 B m j (J2 hs) 07
 .show VO (Rn<|E 07) u hm 07 B m j (J2 hs) 07
 .show VO RR u hm 07 B m j (J2 hs) 07
 .show VO (RT<|E 07) u hm 07 B m j (J2 hs) 07
 .show VO (Ss G.5) u hm 07 B m j (J2 hs) 07
def Uo(G:Good O k P S X)(ha:ai O X a ma)(hs:J1 a=Zl)(E:S.gl x=Zl)(u:P.8 x=Zl)(m:Ba x=Zl):ai O X (.Call (.Name x p) [a] [] pos) (bp (tW x)<|Jb ma Je):=by
 let#[C,j,B]:=G.gl E;let hm:=G.8.8 x u;let D:dR O X [a] (Jb ma Je):=QG ha QS<|J2 hs;unfold Ba at m;simp![mf,beq_iff_eq]at m;rcases m with rfl|rfl
 .show FZ Rc C hm 07 D B j (J2 hs) 07
 .show FZ Rf C hm 07 D B j (J2 hs) 07
def Up(G:Good O k P S X)(u:∀e,ai O X e<|f e)(C:S.gl x=Zl)(ha:args.all J1=Zl)(m:P.8 x=Zl)(J:(S.5||wL x args)=Zl):
  ai O X (.Call (.Name x p) args [] pos) (Bj P S x f args):=by
 unfold Bj;split
 .rename_i a b;simp![fT,Zt]at ha;let#[Q,E,L]:=G.gl C;let hm:=G.8.8 x m;let R:dR O X [a,b] (Jb (f a)<|Jb (f b) Je):=QG (u a) (QG (u b) QS<|J2 ha.2.1)<|J2 ha.1;let M:∀pos,(eJ pos<|ZT [b] X.10).any (·.1)=Zo:=λpos=>VY<|by simp[ha.2.1]
  split
  .rename_i B;cases (beq_iff_eq.1 B);show VO (Rl G.5) Q hm 07 R L E (J2 ha.1) (M _)
  .split
   .rename_i B;cases (beq_iff_eq.1 B);show VO (Rm G.5) Q hm 07 R L E (J2 ha.1) (M _)
   .split
    .rename_i y W _;split
     .rename_i B;simp![Zt,beq_iff_eq]at B;let#[rfl,U]:=B;show Ul G (u a) ha.1 C m U
     .show Jo
    .show Jo
 .rename_i a;simp![fT,Zt]at ha;split
  .rename_i e j;split at j
   .rename_i F;simp![Zt,beq_iff_eq]at F;let#[#[rfl,g2],H]:=F;unfold GR at j;split at j
    .split at j
     .rename_i D;simp![Zt,beq_iff_eq]at D;let#[rfl,ns]:=D;cases j;show RD (G.6.1<|(yU.1 J).resolve_right Zx) (G.gl C).1 (G.8.8 _ m) (G.gl g2).1 (G.8.8 _ H) (QG (u e) QS<|J2 ns) (J2 ns)
     .cases j
    .cases j
   .cases j
  .split
   .rename_i e j;split at j
    .rename_i F;simp![Zt,beq_iff_eq]at F;let#[#[rfl,g2],H]:=F;unfold wK at j;split at j
     .split at j
      .rename_i D;simp![Zt,beq_iff_eq]at D;let#[rfl,ns]:=D;cases j;show RY (G.6.1<|(yU.1 J).resolve_right Zx) (G.gl C).1 (G.8.8 _ m) (G.gl g2).1 (G.8.8 _ H) (QG (u e) QS<|J2 ns) (J2 ns)
      .cases j
     .cases j
    .cases j
   .split
    .rename_i I;show Um G (u a) ha.1 C m I J
    .split
     .rename_i I;show Uo G (u a) ha.1 C m I
     .show Jo
 .show Jo
def Uq(G:Good O k P S X)(B:∀e,ai O X e<|f e)(u:S.gl x=Zl)(ha:args.all J1=Zl)(j:P.8 x=Zl):ai O X (.Call (.Name x p) args [] pos) (wM P S x f args):=by
 unfold wM;split
 .show Jo
 rename_i m;rw[Bool.not_eq_false]at m;show Up G B u ha j m
def QB.of(G:Good O k P S X)(h:QB S y sc=Zl):iR X.N X.10.1.2 y (QJ sc) (dY S sc) sc:=by rw[G.n,G.2];simp![QB,Zt,beq_iff_eq,pE,decide_eq_true_eq,pb,mf,beq_eq_false_iff_ne]at h;let#[#[#[#[#[#[#[h1,J],h3],h4],h5],h6],h7],h8]:=h;calc#[h1,J,h3,h4,h5,λz B e=>(h6 z B).resolve_left λq=>q e,λz e=>j2 e,λi j z m u=>?_,by simp[dY],h8];unfold dY at m;rw[Zz,u]at m;cases m;show h7 z<|o9 u
def Good.lam(G:Good O k P S X)(ho:S.3=Zl){sc:fg}(h:QB S y sc=Zl)(f)(cd)(s)(H):Good O k P (S.lam y sc) (mF X X.A.in1 (y::QJ sc) S.q sc f cd s H):=by let L:=QB.of G h;show#[07,07,L.nd,L.1,07,(G.fL ho).in1.deeper _,λz=>absurd z Zx,G.8,λz=>absurd z Zx,λz=>absurd z Zx,λz=>absurd z Zx]
def Good.BD(G:Good O k P S X)(ho:S.3=Zl){sc:fg}(h:QB S y sc=Zl)(f)(cd)(s)(H):Good O k P (S.lam y sc) (mF X X.A.in1.in1 (y::QJ sc) S.q sc f cd s H):=by
 let L:=QB.of G h;let R:=G.fL ho;refine#[07,07,L.nd,L.1,07,#[R.1,?_,?_],λz=>absurd z Zx,G.8,λz=>absurd z Zx,λz=>absurd z Zx,λz=>absurd z Zx]
 .let:=R.2;change X.A.2+1+3*(k+1)+5<_;lia
 .let:=R.3;change X.A.5+1+1+3+16*(k+1)+200<_;lia
def Ur(G:Good O k P S X)(u:S.5=Zl)(C:∀S X e,Good O k P S X->ai O X e (f S e)):ai O X (.Call (.Name x p) [a] [#[V y,.Lambda ps body sc lp,kp],#[V y2,d,kp2]] pos) (Bk P S f x a y ps body sc y2 d):=by
 unfold Bk;split
 .rename_i e z j m F E;split
  .rename_i B;simp![Zt,beq_iff_eq]at B;let#[#[#[#[#[#[#[#[#[rfl,rfl],rfl],ht],g1],f1],g2],f2],ho],ok]:=B;unfold wK at m;unfold GS at ht;split at m
   .split at m
    .rename_i D;simp![Zt,beq_iff_eq]at D;let#[rfl,ns]:=D;cases m;split at ht
     .show TR (k:=k) (G.6.1 u) (G.gl g1).1 (G.8.8 _ f1) (G.gl g2).1 (G.8.8 _ f2) (QG (C _ _ _ G) QS<|J2 ns) (J2 ns) (G.6.1 u) (G.fL ho) (G.9 ho).1 (G.9 ho).2 (G.8.9 _ _ E) F (QB.of G ok) λf cd I H=>C _ _ _<|G.BD ho ok f cd I H
     .cases ht
    .cases m
   .cases m
  .show Jo
 .show Jo
def Us(G:Good O k P S X)(B:∀S X e,Good O k P S X->ai O X e (f S e)):ai O X (.Call (.Name x p) [a] [#[V y,d,kp]] pos) (tX P S f x a y d):=by
 cases d with
 |Lambda ps m sc lp=>
  change ai O X _ (match QW ps,P.9 S.q with|some z,V j=>if x=="min"&&y=="key"&&S.gl x&&P.8 x&&J1 a&&S.3&&QB S z sc then XC j1 S.q j (dY S sc) (Jb (f S a) Je) (f (S.lam z sc) m)else bX|_,_=>bX);cases D:QW ps with|none=>show Jo|some z=>
   cases C:P.9 S.q with|none=>show Jo|some j=>
    dsimp only;split
    .rename_i u;simp![Zt,beq_iff_eq]at u;let#[#[#[#[#[#[rfl,rfl],g1],f1],ns],ho],ok]:=u;show S5 (k:=k+1) (G.gl g1).1 (G.8.8 _ f1) (QG (B _ _ _ G) QS<|J2 ns) (λA h=>S8<|kN (Zi _ _) 06) (J2 ns) #[G.fL ho,G.5] (G.9 ho).1 (G.9 ho).2 (G.8.9 _ _ C) D (QB.of G ok) λf cd F E=>B _ _ _<|G.lam ho ok f cd F E
    .show Jo
 |_=>show Jo
def Ut(G:Good O k P S X)(m:∀S X e,Good O k P S X->ai O X e (f S e)):ai O X (.Call (.Name x p) args kws pos) (Bl P S f x args kws):=by
 unfold Bl;split
 .split
  .rename_i u;simp![Zt,beq_iff_eq]at u;let#[#[#[#[rfl,rfl],g1],f1],ns]:=u;show Rw G.5 (G.gl g1).1 (G.8.8 _ f1) (QG (m _ _ _ G) QS<|J2 ns) (m _ _ _ G) (J2 ns)
  .show Us G m
 .split
  .split
   .rename_i B;show Ur G B m
   .show Jo
  split
  .rename_i y j E C;split
   .rename_i u;simp![Zt,beq_iff_eq]at u;let#[#[#[#[#[#[#[rfl,rfl],rfl],g1],f1],ns],ho],ok]:=u;show Sj (k:=k+1) (G.gl g1).1 (G.8.8 _ f1) (QG (m _ _ _ G) QS<|J2 ns) (m _ _ _ G) (J2 ns) #[G.fL ho,G.5] (G.9 ho).1 (G.9 ho).2 (G.8.9 _ _ C) E (QB.of G ok) λf cd D F=>m _ _ _<|G.lam ho ok f cd D F
   .show Jo
  .show Jo
 .show Jo
def Uu(F:wW O k P n):wW O k P (n+1):=by
 refine#[λS X e G=>?_,λS X e G=>?_,λS X e G=>?_,λS X x D p pos G I ha=>?_,λS X tg e G=>?_,λS X e G=>?_]
 .let B:=λe=>F.e S X e G
  let hu:=G.6.units;cases e with
  |Constant c j p=>cases c with|int i=>show FC|bool b=>show tH|none=>show FD|str x=>show FE|_=>show Jo
  |Name x p=>
   change ai O X (.Name x p) (match S.ny x with|some i=>Ja i|none=>if S.gl x then(match P.5 x with|some v=>eC v|none=>bX)else bX);cases hv:S.ny x with|some i=>let#[h1,J,h3,h4]:=G.ny hv;show Ox i h1 J h3 h4|none=>
    dsimp only;split
    .rename_i I;let#[U,xdb,_]:=G.gl I;cases hc:P.5 x with|none=>show Jo|some v=>let#[u,y,hm,r,q]:=G.8.5 x v hc;show Oy U hm r q xdb
    .show Jo
  |BinOp a Q b p=>show Oz (T4 Q) (B a)<|B b
  |UnaryOp Q a p=>show z8 (BC Q)<|B a
  |BoolOp Q vs p=>cases Q with|And=>show GV B vs|Or=>show GW B vs
  |IfExp t a b p=>show OJ (F.t S X t G) (B a)<|B b
  |Compare a ops cs p=>
   match ops,cs with
   |[o],[b]=>
    change ai O X _ (if qW o b then bX else Jc (kh o b) (ev P n S a) (ev P n S b));split
    .show Jo
    .rename_i W;show OA (G3 hu o b) (B a) (B b)<|rm.2 W
   |[o,o'],[b,c]=>
    change ai O X _ (if qZ [o,o'] [b,c]then bX else JS (gk o) (gk o') (ev P n S a) (ev P n S b) (ev P n S c));split
    .show Jo
    .rename_i W;show OL (YD hu o) (YD hu o') (B a) (B b) (B c)<|rm.2 W
   |[],_=>show Jo
   |[_],[]=>show Jo
   |[_],_::_::_=>show Jo
   |[_,_],[]=>show Jo
   |[_,_],[_]=>show Jo
   |[_,_],_::_::_::_=>show Jo
   |_::_::_::_,_=>show Jo
  |JoinedStr L p=>match L with|a::b::r=>show Sw B|[]=>show Jo|[_]=>show Jo
  |FormattedValue a c sp p=>
   cases sp with
   |none=>
    change ai O X _ (if c=-1 then jT fH (ev P n S a)else bX);split
    .rename_i hc;subst hc;show Sv<|B a
    .show Jo
   |some _=>show Jo
  |Tuple L j p=>
   change ai O X _ (if L.all J1 then cT (cq<|L.map<|ev P n S)else bX);split
   .rename_i E;show OW<|Ve E B
   .show Jo
  |List L p=>
   change ai O X _ (if L.all J1 then JA (cq<|L.map<|ev P n S)else bX);split
   .rename_i E;show OX<|Ve E B
   .show Jo
  |Dict ks vs p=>match ks,vs with|[V k],[v]=>show Jo|[],[]=>show RK|[],_::_=>show Jo|[Zg],_=>show Jo|[V _],[]=>show Jo|[V _],_::_::_=>show Jo|some _::_::_,_=>show Jo|none::_::_,_=>show Jo
  |Subscript a i p=>
   cases i with
   |Slice lo hi st q=>cases st with|none=>show PN (T5 a) (B a) (F.o S X lo G)<|F.o S X hi G|some st=>show Jo
   |_=>show Au (T6 a) (B a) (B _)<|T7 07
  |Attribute o f p=>
   change ai O X _ (if Vz o then(if P.7 f then Jp f (ev P n S o)else Yw (P.xf f) f (ev P n S o))else bX);split
   .rename_i E;split
    .rename_i Z;show PH (B o) (G.8.7 f Z)<|Yp E
    .show S2 (B o) (λc C hc hC=>(G.8.xi.2 f c C hc hC).2)<|Yp E
   .show Jo
  |Call f D R p=>
   cases R with
   |cons kw R=>cases f with|Name x q=>show Ut G λS X e G=>F.e S X e G|_=>show Jo
   |nil=>
    cases f with
    |Name x q=>
     change ai O X _ (if S.gl x&&D.all J1 then Br P n S x D else bX);split
     .rename_i E;simp![Zt]at E;show F.c S X x D q p G E.1 E.2
     .show Jo
    |Attribute o m ap=>
     change ai O X _ (if D.all J1&&Vz o&&(ap.3==p.1)&&decide (WP D<30)then wO P S m (WP D) o (cq<|D.map<|ev P n S) (Bo P S.5 m (WP D) (wN P S m o) (ev P n S o)<|cq<|D.map<|ev P n S)else bX);split
     .rename_i E;simp![Zt,decide_eq_true_eq]at E;show Uj G (Ui G (B o) B E.1.1.1 E.1.1.2 E.1.2 E.2) B E.1.1.1 E.1.1.2 E.1.2 E.2
     .show Jo
    |_=>show Jo
  |ListComp Y gens sc p=>
   match gens with
   |[⟨tg,iter,ifs,as⟩]=>
    change ai O X _ (if as=0/\XJ iter=Zl/\QT S.N (VD sc) (QJ sc) (dY S sc) S.lK sc=Zl then
     Bp ifs (lL P n<|S.comp sc) (λmt=>Jy (rT P n S tg iter) (VD sc).length (dY S sc) (mI P n (S.comp sc) tg) mt<|ev P n (S.comp sc) Y)else bX)
    split
    .rename_i E;let#[rfl,hi,ok]:=E;let Gc:=G.comp ok;let ok':=ok;rw[<-G4 G]at ok';match ifs with|[]=>show Gd G.5 (F.i S X tg iter G) (λC s H M=>F.g _ _ tg<|Gc C s H M) (λC s H M=>F8) (λC s H M=>F.e _ _ Y<|Gc C s H M) ok' G.n 07 (Y6 hi)|[c]=>show Gd G.5 (F.i S X tg iter G) (λC s H M=>F.g _ _ tg<|Gc C s H M) (λC s H M=>F9<|F.t _ _ c<|Gc C s H M) (λC s H M=>F.e _ _ Y<|Gc C s H M) ok' G.n 07 (Y6 hi)|_::_::_=>show Jo
    .show Jo
   |[]=>show Jo
   |⟨_,_,_,_⟩::_::_=>show Jo
  |_=>show Jo
 .let B:=λe=>F.e S X e G
  let hu:=G.6.units;cases e with
  |UnaryOp Q a p=>cases Q with|Not=>show OG<|F.t S X a G|_=>show FF YS<|B _
  |BoolOp Q vs p=>cases Q with|And=>show(GX (λe=>F.t S X e G) vs).t|Or=>show(GY (λe=>F.t S X e G) vs).t
  |IfExp t a b p=>show Jo
  |Compare a ops cs p=>
   match ops,cs with
   |[o],[b]=>
    change g7 O X _ (if qW o b then nu else Ji bg (Jc (kh o b) (ev P n S a)<|ev P n S b));split
    .show Jo
    .rename_i W;show OB (G3 hu o b) (B a) (B b)<|rm.2 W
   |[o,o'],[b,c]=>
    change g7 O X _ (if qZ [o,o'] [b,c]then nu else Ji bg (JS (gk o) (gk o') (ev P n S a) (ev P n S b)<|ev P n S c));split
    .show Jo
    .rename_i W;show OM (YD hu o) (YD hu o') (B a) (B b) (B c)<|rm.2 W
   |[],_=>show Jo
   |[_],[]=>show Jo
   |[_],_::_::_=>show Jo
   |[_,_],[]=>show Jo
   |[_,_],[_]=>show Jo
   |[_,_],_::_::_::_=>show Jo
   |_::_::_::_,_=>show Jo
  |_=>show FF YS<|B _
 .cases e with|none=>show PL|some e=>show PM<|F.e S X e G
 .let B:=λe=>F.e S X e G
  change ai O X _ (match P.1 x with|some f=>Xk S.5 f (WP D)<|cq<|D.map<|ev P n S|none=>match P.2 x with|some f=>wI S.5 x f (WP D)<|cq<|D.map<|ev P n S|none=>if P.8 x then wM P S x (ev P n S) D else bX);cases hx:P.1 x with|some f=>show T9 G hx I ha B|none=>
   dsimp only;cases hc:P.2 x with|some f=>show Uc G hc I ha B|none=>
    dsimp only;split
    .rename_i hfr;show Uq G B I ha hfr
    .show Jo
 .let B:=λe=>F.e S X e G
  cases e with
  |Call f D R p=>
   cases R with|cons _ _=>cases f<;>show wx<|B _|nil=>
    cases f with
    |Name x q=>
     change jc O X tg _ (if S.gl x&&P.8 x&&D.all J1&&(x=="range")then GQ (WP D) (cq<|D.map<|ev P n S)
      else if S.gl x&&P.8 x&&D.all J1&&(x=="enumerate")then(match tg,D with|.Tuple ..,[a]=>cR Vw<|Jb (ev P n S a) Je|_,_=>stI)
      else if S.gl x&&P.8 x&&D.all J1&&(x=="reversed")then(match D with|[a]=>cR VA<|Jb (ev P n S a) Je|_=>stI)
      else Jv (ev P n S<|.Call (.Name x q) D [] p))
     split
     .rename_i E;simp![Zt,beq_iff_eq]at E;let#[#[#[I,Z],ha],rfl]:=E;let#[U,_,_]:=G.gl I;let hm:=G.8.8 _ Z;let pa:=Ve ha B;match D,ha,pa with|[],_,_=>show YH|[a],ha,pa=>simp![fT,Zt]at ha;show Pt U hm pa<|J2 ha.1|[a,b],ha,pa=>simp![fT,Zt]at ha;show Pu U hm pa (by rw[J2 ha.1,J2 ha.2.1];rfl)<|J2 ha.2.1|_::_::_::_,_,_=>show YH
     .split
      .rename_i E;simp![Zt,beq_iff_eq]at E;let#[#[#[I,Z],ha],rfl]:=E;let#[U,_,_]:=G.gl I;let hm:=G.8.8 _ Z;split
       .simp only[fT,Zt]at ha;show Sb U hm (QG (B _) QS<|J2 ha.1)<|J2 ha.1
       .show YH
      .split
       .rename_i E;simp![Zt,beq_iff_eq]at E;let#[#[#[I,Z],ha],rfl]:=E;let#[U,_,_]:=G.gl I;let hm:=G.8.8 _ Z;split
        .simp only[fT,Zt]at ha;show TY U hm (QG (B _) QS<|J2 ha.1)<|J2 ha.1
        .show YH
       .show wx<|B _
    |_=>show wx<|B _
  |_=>show wx<|B _
 .cases e with
  |Name x p=>change jb O X _ (match S.iq x with|some i=>bw i|none=>nv);cases hv:S.iq x with|none=>show YG|some i=>let#[h1,J,h3]:=G.iq hv;show Ai G.nodup h1 J h3
  |Tuple L j p=>
   change jb O X _ (if L.all J1 then mE (WP L) (nz<|L.map<|mI P n S)else nv);split
   .rename_i E;show Pc G.5 (GZ E λe=>F.g S X e G) (G0 E)<|G2 E
   .show YG
  |Subscript o i p=>
   change jb O X _ (if Xr i then p9 o (ev P n S o) (ev P n S i)else nv);split
   .rename_i E;unfold p9;split
    .refine RP (F.e S X o G) (F.e S X i G) λv=>?_
     cases i<;>first|rfl|cases E
    .refine Rk (F.e S X o G) (F.e S X i G) λv=>?_
     cases i<;>first|rfl|cases E
   .show YG
  |_=>show YG
theorem wX(O)(k)(P):∀n,wW O k P n|0=>T8|n+1=>Uu<|wX O k P n
end
section
variable{O:aN}{X:Cx}{pos:Pos}
def Uv{mt:T1}(hst:X.12=X.10::X.11)(hf:X.10.8=V X.10.2)(hc:g7 O X c mt)(hb:jV O X body mb):cJ O X (.While c body [] pos) (V1 mt mb):=by
 intro Z s U H Y bD h Q E N K;rw[GU]at K;generalize Xc=m0 at K;calc wpAny_While<|codeAny_whileLoop (λn s'=>∃Pk Uk hk U' H',aB O X Z Pk Uk hk U' H' s'/\bc Y H Pk H'/\JD O X Z Pk H' (V3 mt mb n Uk hk) Q E) ?_ m0 #[Y,bD,h,U,H,N,.refl,K];rintro n s1 ⟨U1,D,h1,W1,H1,N1,n1,j⟩;cases n with|zero=>show(j).elim|succ n=>
  unfold V3 at j;calc jX<|hc Z s1 W1 H1 U1 D h1 _ (λ_ _=>False) N1 ?_;cases et:mt D h1 with|exc m J=>rw[et]at j;show(j).elim|stuck=>rw[et]at j;show(j).elim|ok b J=>
   rw[et]at j;intro b' s2 H2 W2 N2 n2 r2;let r':b'=b:=r2;subst r';dsimp only at j;cases b' with|false=>show sG<|j s2 W1 H2 W2 N2 n2|true=>
    rw[if_pos 07];rw[if_pos 07]at j;calc hb Z s2 W1 H2 W2 D J _ _ N2 ?_;cases P:mb D J with
    |next S I=>rw[P]at j;show λR k M G L B=>#[n,ZZ n,G,S,I,k,M,L,(n1.trans n2).trans B,JD.mono j<|n2.trans B]
    |cont S I=>rw[P]at j;show λR k M G L B=>#[n,ZZ n,G,S,I,k,M,L,(n1.trans n2).trans B,JD.mono j<|n2.trans B]
    |brk S I=>rw[P]at j;show λR k M G L B=>j R k M G L<|n2.trans B
    |ret v I=>rw[P]at j;show λu R U3i k M G L B r=>j u R U3i k M G L (n2.trans B) r
    |exc m S I=>
     rw[P]at j;dsimp only at j;cases hj:I[m]? with|none=>rw[hj]at j;show(j).elim|some ob=>
      cases ob with
      |exc c fs=>
       rw[hj]at j;intro pl a s7 U7 H7 W7 N7 n7 q s8 fl;let#[C,tv,d,fe,hC,ha,ht]:=N7.2.get hj q;let F:∀W,eQ X.10.2 (eK X.12) a s7.1 W->cameBackBy (ZA X.1 X.w) X.A X.10 E (.ref a) {s7 with heap:=W}:=λW n8=>
        FP hf n8 λh9 n9=>j pl a s7 U7 H7 W7 N7 (n2.trans n7) q _<|.inr #[h9,07,n9]
       rcases fl with rfl|⟨W,rfl,n8⟩
       .show Ak N7.1 hst hf ha ht F
       .show Al hf n8<|F W n8
      |_=>rw[hj]at j;show(j).elim
    |stuck=>rw[P]at j;show(j).elim
def Uw(k:¬ ∃i j,op=.Add/\x=.int i/\y=.int j):mJ op x y h=.stuck:=by
 unfold mJ;split
 .simp_all
 .rfl
def qj(op):dU O X (inplaceOp op) (mJ op):=by
 intro Z s U H Y I h x y v u Q E N k m K;by_cases c:∃i j,op=.Add/\x=.int i/\y=.int j
 .let#[i,j,rfl,rfl,rfl]:=c;let#[G,k,B]:=k;let#[F,m,C]:=m;cases (B);cases (C);let#[t,rfl]:=k;let#[D,rfl]:=m;show iadd_int<|K _ _ H Y #[N.1.tok _,N.2,N.3] .refl #[.int<|i+j,#[_,07],07]
 .rw[Uw c]at K;show(K).elim
def Ux(hN:X.N.Nodup)(he:ai O X e me)(hi:X.N[i]?=V x)(D:Loc X.10.1 x)(W:X.fn x=Zl\/X.10.1.2.lookup x=V .local):cJ O X (.AugAssign (.Name x pos') op e pos) (nA op i me):=by
 intro Z s U H Y G h Q E N K;calc wpAny_AugAssign_Name ?_;unfold nA at K;cases ev:Ja i G h with|exc n I=>exfalso;unfold Ja at ev;split at ev<;>cases ev|stuck=>rw[ev]at K;show(K).elim|ok v I=>
  rw[ev]at K;obtain⟨e1,rfl⟩:G[i]?=V (V v)/\I=h:=by
   unfold Ja at ev;split at ev
   .rename_i q;cases ev;show#[q,07]
   .cases ev
  let#[w,S,qw]:=N.3.2 i v e1;let#[m,hn,hl]:=N.1.5;let ny:pM X.10.1 x:=by rcases D with k|k;show .inl k;show .inr (.inl k)
  let#[u,r,l]:=hl i x w hi S ny;let go:Z0 (ZA X.1 X.w) X.A (bj e X.10) (λw s₂=>Z0 (ZA X.1 X.w) X.A (inplaceOp op u w) (λr s₃=>Z0 (ZA X.1 X.w) X.A (storeName X.10 x r) (λ_=>Q .next) E s₃) E s₂) E s:=by
   refine cP he N K λy J uy s2 H2 R N2 n2 r2 B=>?_
   calc qj op Z s2 U H2 R G J v y u uy _ E N2 #[w,r,RV.mono n2 _ _ qw] r2 ?_;cases F:mJ op v y J with|exc n h3=>rw[F]at B;show λpl a L H' Y' N' n' q=>B pl a L U H' Y' N' n' q L<|.inl 07|stuck=>rw[F]at B;show B|ok z h3=>rw[F]at B;intro uz s3 H3 P C n3 r3;let#[zv,M,qz]:=r3;show YO C.1 hN hi D M (λs4 I4=>B s4 _ H3 P #[I4,C.2,C.3.set i qz] n3) W
  rcases l with⟨j,hm⟩|⟨j,c,hc,hcell⟩
  .show wpAny_loadName_local N.1.1.2 j hn hm go
  .rcases j with j|j
   .show wpAny_loadName_cell N.1.1.2 j hc hcell go
   .rcases D with k|k
    .let:X.10.1.2.lookup x=V .free:=j;rw[k]at this;cases this
    .let:X.10.1.2.lookup x=V .free:=j;rw[k]at this;cases this
def Uy(ho:ai O X o mo)(he:ai O X e me)(hf:Yn O X.K fl):cJ O X (.AugAssign (.Attribute o fl tpos) op e pos) (XR op fl mo me):=by
 intro Z s U H Y bD h Q E N K;refine wpAny_AugAssign_AttributeAny<|cP ho N K λov h1 w s1 H1 U1 J n1 r1 k=>?_
 cases ov with
 |ref i=>
  let#[w,rw',a,e1,hi]:=r1;subst e1;cases rw';dsimp only at k;cases L:h1[i]? with|none=>rw[L]at k;show(k).elim|some ob=>
   cases ob with
   |ins c fs=>
    rw[L]at k;dsimp only at k;cases P:fs.lookup fl with|none=>rw[P]at k;show(k).elim|some x=>
     rw[P]at k;let#[C,dx,vs,hC,hH,rp]:=J.at L hi;let#[cl,na]:=hf c C hC;let#[y,hy,q]:=(cg.lookup rp).1 x P;refine E4 J.1 hH cl na hy λu' s2 I2 ru=>?_
     refine cP he (#[I2,J.2,J.3]:aB O X Z U1 bD h1 U H1 s2) k λz h3 uz s3 H3 W3 N3 n3 r3 j=>?_
     calc qj op Z s3 U H3 W3 bD h3 x z u' uz _ E N3 #[y,ru,RV.mono n3 _ _ q] r3 ?_;cases R:mJ op x z h3 with|exc n h4=>rw[R]at j;show λpl a s' H' Y' N' n' q=>j pl a s' U H' Y' N' n' q s'<|.inl 07|stuck=>rw[R]at j;show j|ok v h4=>
      rw[R]at j;intro uv s4 H4 W M n4 r4;dsimp only[rS]at j;let F:=n4.at<|n3.at hi;cases u:h4[i]? with|none=>rw[u]at j;show(j).elim|some ob=>
       cases ob with
       |ins c' gs=>
        rw[u]at j;dsimp only at j;split at j
        .rename_i hz;let#[S,D,vs',B,m,G]:=M.at u F;let#[cl',na']:=hf c' S B;let#[yv,ryv,qv]:=r4;refine E6 M.1 m cl' na' (by rw[G.length];show hz) ryv λs5 I5=>?_
         let I:bc W H4 W (upd H4 a<|.ins S D<|cS fl yv vs'):=#[#[[],03],Ext.cw m<|by rw[m];show eW];let#[R5,_]:=M.2.write (io:=.ins c'<|bL fl v gs) F m (by rw[m];show eW) #[S,D,_,B,Jz,cg.put (RV.mono I _ _ qv)<|cg.mono I _ _ G];show j s5 U _ W #[I5,R5,M.3.mono I]<|n4.trans I
        .show(j).elim
       |_=>rw[u]at j;show(j).elim
   |_=>rw[L]at k;show(k).elim
 |_=>show(k).elim
def Uz:dU O X lZ wQ:=by
 intro Z s U H Y bD h x y v u Q E N m D K;let#[xv,m,R]:=m;let#[yv,D,S]:=D;cases x with
 |ref i=>
  cases y with
  |int k=>
   let#[a,rfl,ha]:=R;cases (S);cases m;let#[t,rfl]:=D;dsimp only[wQ]at K;cases B:h[i]? with|none=>rw[B]at K;show(K).elim|some ob=>
    rw[B]at K;cases ob with
    |lst xs=>
     dsimp only at K;cases C:bI xs k with|none=>rw[C]at K;show(K).elim|some z=>
      rw[C]at K;dsimp only at K;split at K
      .rename_i G;let#[vs,J,L]:=N.at B ha;let#[w,I,W]:=v8 L C;let#[M,r,pl,hz]:=N.1.list<|bZ.of J;let#[j,g1,g2,g3,g4,P]:=vU I;let#[w',ew,F]:=r.get g2;let hn:=Xq;let hj:k.toNat=j:=by rw[sJ G P]at g1;show eV g1
       show wpAny_getItem_list pl.isList G 05 (by simp_all)<|K _ _ H Y N .refl #[w,F,W]
      .show(K).elim
    |_=>show(K).elim
  |_=>show(K).elim
 |_=>cases y<;>show(K).elim
def G6(p:dU O X f g)(N:aB O X Z Y bD h U H s)(I:RU X.K Y H x v)(J:RU X.K Y H y u) (K:JD O X Z Y H (rS bD (g x y h) k) Q E) (step:∀z h1 w s1 H1 m,aB O X Z m bD h1 U H1 s1->bc Y H m H1->RU X.K m H1 z w->JD O X Z m H1 (k z h1) Q E->Q1 w s1):Z0 (ZA X.1 X.w) X.A (f v u) Q1 E s:=by calc p Z s U H Y bD h x y v u Q1 E N I J ?_;cases e:g x y h with|ok z G=>rw[e]at K;show λw B F C D j r=>step z G w B F C D j r<|JD.mono K j|exc n G=>rw[e]at K;show λpl a B F C D j q=>K pl a B U F C D j q B<|.inl 07|stuck=>rw[e]at K;show K
def UA(N:aB O X Z Y bD h U H s)(J:RU X.K Y H o ou)(G:RU X.K Y H i iu)(rv:RU X.K Y H v u) (K:JD O X Z Y H (hJ o i v bD h) Q E):Z0 (ZA X.1 X.w) X.A (setItem ou iu u) (λ_=>Q .next) E s:=by
 let#[ox,J,W]:=J;let#[ix,G,qi]:=G;let#[I,M,qv]:=rv;cases o with
 |ref i=>
  rename_i iv;cases iv with
  |int k=>
   let#[a,rfl,m]:=W;cases (qi);dsimp only[hJ]at K;cases L:h[i]? with|none=>rw[L]at K;show(K).elim|some ob=>
    rw[L]at K;cases ob with
    |lst xs=>
     dsimp only at K;cases D:ik (WP xs) k with|none=>rw[D]at K;show(K).elim|some j=>
      rw[D]at K;let#[F,C,B]:=N.at L m;refine dD (Fm (X:=X.bo E) Z s U H (.ref a) (.int k) I ou iu u (λP=>P=upd H a (.lst<|F.set j I)) (N.1.bo E) J G M #[a,F,k,j,07,07,C,by rw[B.length];show D,07]) (λ_ S hq=>?_) λ_ _ z=>z
      let#[P,R,rfl]:=hq;let n:bc Y H Y (upd H a<|.lst<|F.set j I):=#[#[[],03],Ext.cw C<|by rw[C];show eW];let#[R3,_]:=N.2.write (io:=.lst<|xs.set j v) m C (by rw[C];show eW) #[_,Jz,(aA.mono n _ _ B).set (RV.mono n _ _ qv) j];show K S U _ Y #[R.bH,R3,N.3.mono n] n
    |_=>show(K).elim
  |_=>show(K).elim
 |_=>cases i<;>show(K).elim
def UB(ho:ai O X o mo)(hi:ai O X i mi)(F:ai O X e me)(hs:Xr i=Zl):cJ O X (.AugAssign (.Subscript o i tpos) op e pos) (XS op mo mi me):=by
 intro Z s U H Y bD h Q E N K;calc wpAny_AugAssign_SubscriptAny (cP ho N K λov h1 ou s1 H1 U1 G n1 k P=>cP hi G P λkv J ku s2 H2 W2 R n2 B K2=>?_) (λ_ _ _=>by cases i<;>first|rfl|cases hs);refine G6 Uz R (k.mono n2) B K2 λx h3 xu s3 H3 W3 I m W K3=>?_
 refine cP F I K3 λy h4 yu s4 H4 U4 L j C M=>?_
 refine G6 (qj op) L (W.mono j) C M λz h5 zu s5 H5 U5 S u D K5=>?_
 show UA S ((((k.mono n2).mono m).mono j).mono u) (((B.mono m).mono j).mono u) D K5
end
section
variable{O:aN}{k:Nat}{P:Pg}{n:Nat}{S:Sc}{X:Cx}
theorem VF(j:∀s,cJ O X s<|f s):∀(l:Tl),jV O X l (eG<|l.map f)|[]=>O0|[a]=>O3<|j a|a::b::r=>O2 (j a)<|VF j<|b::r
end
section
variable{O:aN}{k:Nat}{P:Pg}{S:Sc}{X:Cx}{xi:Xi}{xf:Str->Str->Bool}{fr:Str->Bool}
def UC:tT O X a sl suite cj:=(λ_ _ _ _ _ _ _ _ _ _ _ _ _ _ _ _ _ K=>(show False from K).elim)
def UD(G:Good O k P S X)(a)(st):cJ O (JZ X a) st (qe S st):=by
 unfold qe;split
 .rename_i x q c j p u;cases C:S.iq x with|none=>show JK|some i=>let#[B,J,m]:=G.iq C;calc Ah (X:=JZ X a) G.nodup ?_ B J (YQ 07) m;cases c with|int i=>show FC|bool b=>show tH|none=>show FD|str x=>show FE|_=>show Jo
 .show JK
def UE(G:Good O k P S X)(hm:∀X,Good O k P {S with cl:=Zo} X->∀st,cJ O X st<|m st)(a)(sl)(suite):tT O X a sl suite (Bw S m sl suite):=by
 unfold Bw;split
 .rename_i i;split
  .rename_i h;show S3 (e:=S.N[i]) (by rw[G.n];show Zd h) λj=>VF (hm (wD X a j) #[G.n,G.2,G.3,G.4,G.5,#[nofun,G.6.2,G.6.3],G.7,G.8,G.9,λz=>#[nofun,(G.fL z).2,(G.fL z).3],G.11]) suite
  .show UC
 .show(VF (UD G a) suite).h
def UG(G:Good O k P S X)(bC:qf X.K X.4 xi xf)(B:xi D=V g)(J:S.gl D=Zl)(a)(c)(C)(b)(Z)(U)(H)(s)(Q)(E)(hb:g c=V b) (R:W.nsIn X.K Z4 c=V (V<|.ref C))(I:Inv (JZ X a) Z U H s)(ho:∃oe,s.1.get? a=V oe/\oe.1=.ref C)(L:Q b s):Z0 (ZA X.1 X.w) (JZ X a).A (bj (.Name D q) X.10) (λv s₁=>Z0 (ZA X.1 X.w) (JZ X a).A (excMatches (.ref a) v) Q E s₁) E s:=by
 let#[v,Y,hg]:=bC.1 D g B;let#[j,m,nn]:=G.gl J;let hc:lz (JZ X a) (.Name D q) v:=by
  rcases Y with z|⟨z,w⟩
  .show F5 j z m
  .show X7 j z w nn m
 calc hc Z U H s _ E I ?_;let#[_,_,F]:=hg c C b hb R;let#[oe,M,J]:=ho;let#[u,gg,d,tk,os]:=s;let LT:W.Looks (ZA X.1 X.w) u (l5<|.ref a) (.ref C):=J▸(W.Looks.ld M).andThen .now;show(W.exm_one (I.cO:X.K.In u) LT F).at L
theorem G7(G:Good O k P S X)(hm:∀X,Good O k P {S with cl:=Zo} X->∀st,cJ O X st<|m st):∀{l:Tr}{B:Tq},lN P S m l=V B->gH O X l B
 |[],B,e=>by cases e;show .nil
 |h::r,B,e=>by
  unfold lN at e;cases j:Bx P S m h with
  |none=>rw[j]at e;cases e
  |some q=>
   cases M:lN P S m r with
   |none=>rw[j,M]at e;cases e
   |some l=>
    rw[j,M]at e;cases e;unfold Bx at j;split at j
    .rename_i D q2 nm b J pos;split at j
     .rename_i R;cases F:P.xi D with
      |none=>rw[F]at j;cases j
      |some g=>
       cases u:Bv S nm with
       |none=>rw[F,u]at j;cases j
       |some sl=>
        rw[F,u]at j;cases j;calc .cons #[λa c C b Z U H s Q E Y hC I ho W=>UG G G.8.xi F R a c C b Z U H s Q E Y hC I ho W,?_,λa=>UE G hm a sl _]<|G7 G hm M;unfold Bv at u;cases nm with
        |none=>cases u;show .inl #[07,07]
        |some x=>
         dsimp only at u;split at u
         .rename_i hl;let#[i,L,rfl]:=ZK.1 u;calc .inr #[x,i,07,07,by rw[G.n];show Y9 L,?_];rw[G.kind];show beq_iff_eq.1 hl
         .cases u
     .cases j
    .cases j
end
section
variable{O:aN}{k:Nat}{P:Pg}{n:Nat}{S:Sc}{X:Cx}
def UH(G:Good O k P S X)(hm:∀e,ai O X e<|m e):cJ O X (.Raise (V<|.Call (.Name x q) [e] [] q2) Zg p) (By P S m x e):=by
 unfold By;split
 .rename_i f Q;split
  .rename_i h;simp![Zt,decide_eq_true_eq]at h;let#[#[#[B,L],J],Y]:=h;split
   .rename_i d hd;let#[C,fa,fd,ps,c1,E,Z,c4,H,D]:=G.8.xo x f Q;let#[gx,db,_]:=G.gl L;let#[u,ds,M,hl,F]:=Yu D hd;let R:WP ps<=sizeLine:=by let:=D.1;rw[j3];show Zb (Zb (Zh this) Y)<|Zi _ 16777208
    refine SE (G.6.1 B) (SK Z c4 D.2 E (G.rV u) gx c1 M F (Ve (es:=[e]) (by simp[J]) hm) (λU h xs I z=>?_) R db (J2 J) 07) λc C' u j h W=>?_
    .let:=X2 _ U h xs I z;rw[Zn]at this;simp at this;lia
    .let e1:c=x:=beq_iff_eq.1 u;subst e1;rw[E]at j;cases j;show H h W
   .show JK
  .show JK
 .show JK
def UI(G:Good O k P S X)(hm:∀e,ai O X e<|m e):cJ O X (.Raise exc cause p) (Bz P S m exc cause):=by
 unfold Bz;split
 .rename_i x q e q2;show UH G hm
 .show JK
def UJ(G:Good O k P S X)(hm:∀s,cJ O X s<|m s)(j:∀X,Good O k P {S with cl:=Zo} X->∀st,cJ O X st<|mw st):cJ O X (.Try body hs o f p) (qg P S m mw body hs o f):=by
 unfold qg;split
 .split
  .rename_i h;let#[u,B]:=G.11 h;split
   .rename_i C e;show Sn G.nodup u B (VF hm body)<|G7 G j e
   .show JK
  .show JK
 .show JK
def UK(h:J1 tg=Zl):(gA [tg] env).map (·.2)=[kW tg env]:=by cases tg<;>first|rfl|cases h
def UL(G:Good O k P S X)(i)(h:lM e=Zl)(h1:X.N[i]?=V x)(J:L2.Loc X.10.1 x)(h3:X.fn x=Zl\/X.10.1.2.lookup x=V .local):cJ O X (.Assign [.Name x q] e p) (Jj i<|ev P n S e):=by
 cases e with
 |ListComp B D sc R=>
  cases hb:(X.10.blockKind==.function&&X.10.kindOf x==V .local&&q.1==R.1&&!(sc.2.any λ(n,k)=>n==x&&(k==.local||k==.cell)))with|false=>calc Ah G.nodup ((wX O k P n).e S X _ G) h1 J ?_ h3;change(pure (X.10.blockKind==.function&&X.10.kindOf x==V .local&&q.1==R.1&&!(sc.2.any λ(n,k)=>n==x&&(k==.local||k==.cell))):Sem Bool)=pure Zo;rw[hb]|true=>
   let u:ow (.ListComp B D sc R) (V<|.Name x q) p.1 X.10=pure Zl:=by change(pure (X.10.blockKind==.function&&X.10.kindOf x==V .local&&q.1==R.1&&!(sc.2.any λ(n,k)=>n==x&&(k==.local||k==.cell))):Sem Bool)=pure Zl;rw[hb]
   let j:∀m:E1,(∀U h,m U h=.stuck)->cJ O X (.Assign [.Name x q] (.ListComp B D sc R) p) (Jj i m):=λm hm=>by intro Z s U H Y bD h Q E N K;unfold Jj at K;rw[hm]at K;show Zf K
   cases n with|zero=>show j _ λ_ _=>07|succ n=>
    let L:=wX O k P n;match D,u with
    |[⟨tg,iter,ifs,as⟩],u=>
     change cJ O X _ (Jj i (if as=0/\XJ iter=Zl/\QT S.N (VD sc) (QJ sc) (dY S sc) S.lK sc=Zl then Bp ifs (lL P n<|S.comp sc) (λmt=>Jy (rT P n S tg iter) (VD sc).length (dY S sc) (mI P n (S.comp sc) tg) mt<|ev P n (S.comp sc) B)else bX));split
     .rename_i hs;let#[rfl,W,ok]:=hs;let M:=G.comp ok;let I:=ok;rw[<-G4 G]at I;match ifs,u with|[],u=>show Ge G.5 (L.i S X tg iter G) (λC s H F=>L.g _ _ tg<|M C s H F) (λC s H F=>F8) (λC s H F=>L.e _ _ B<|M C s H F) I G.n 07 (Y6 W) G.nodup h1 J h3 u|[c],u=>show Ge G.5 (L.i S X tg iter G) (λC s H F=>L.g _ _ tg<|M C s H F) (λC s H F=>F9<|L.t _ _ c<|M C s H F) (λC s H F=>L.e _ _ B<|M C s H F) I G.n 07 (Y6 W) G.nodup h1 J h3 u|_::_::_,_=>show j _ λ_ _=>07
     .show j _ λ_ _=>07
    |[],_=>show j _ λ_ _=>07
    |⟨_,_,_,_⟩::_::_,_=>show j _ λ_ _=>07
 |_=>cases h
theorem BE(O)(k)(P):∀(n:Nat)(S:Sc)(X:Cx)(st:fu),Good O k P S X->cJ O X st (ex P n S st)
 |0,_,_,_,_=>JK
 |n+1,S,X,st,G=>by
  let B:=λst=>BE O k P n S X st G
  let E:=wX O k P n;let m:=λe=>E.e S X e G
  cases st with
  |Pass p=>show O4
  |Break p=>show O5
  |Continue p=>show O6
  |Expr e p=>
   change cJ O X _ (if VE e then JH (ev P n S e)else cj);split
   .rename_i h;show O7 (m e)<|YQ h
   .show JK
  |Return v p=>
   cases v with
   |none=>show O9
   |some e=>show O8<|m e
  |If c a b p=>show Ag (E.t S X c G) (VF B a)<|VF B b
  |Raise exc L p=>show UI G m
  |Try W hs o f p=>show UJ G B λX G st=>BE O k P n _ X st G
  |While c a o p=>
   cases o with
   |nil=>
    change cJ O X _<|Bt S.3 (lL P n S c)<|eG<|a.map<|ex P n S;cases h:S.3 with
    |true=>let#[I,u]:=G.11 h;show Uv I u (E.t S X c G)<|VF B a
    |false=>show JK
   |cons _ _=>show JK
  |For tg it a o p=>
   cases o with
   |nil=>
    change cJ O X _ (if XJ it&&S.3 then cD (rT P n S tg it) (mI P n S tg) (eG<|a.map<|ex P n S)else cj);split
    .rename_i h;rw[Zt]at h;let#[I,u]:=G.11 h.2;show Pl G.5 I u (E.i S X tg it G) (E.g S X tg G) (VF B a)<|Y6 h.1
    .show JK
   |cons _ _=>show JK
  |AugAssign tg R e p=>
   cases tg with
   |Name x q=>
    change cJ O X _ (match S.iq x with|some i=>nA R i (ev P n S e)|none=>cj);cases H:S.iq x with
    |none=>show JK
    |some i=>let#[D,J,F]:=G.iq H;show Ux G.nodup (m e) D J F
   |Attribute o f q=>
    change cJ O X _ (if P.7 f then XR R f (ev P n S o) (ev P n S e)else cj);split
    .rename_i h;show Uy (m o) (m e)<|G.8.7 f h
    .show JK
   |Subscript o i q=>
    change cJ O X _ (if Xr i then XS R (ev P n S o) (ev P n S i) (ev P n S e)else cj);split
    .rename_i h;show UB (m o) (m i) (m e) h
    .show JK
   |_=>show JK
  |Assign M e p=>
   match M with
   |[]=>show JK
   |a::_::_=>cases a<;>show JK
   |[tg]=>
    let gen:cJ O X (.Assign [tg] e p) (if VE e&&((wR tg&&Bu e)||wU tg)then fG (ev P n S e) (mI P n S tg)else cj):=by
     split
     .rename_i h;simp![Zt,mf]at h;let Q:J1 tg=Zl:=by
       rcases h.2 with q|q
       .cases tg<;>first|rfl|(simp[wR]at q)
       .cases tg<;>first|rfl|(simp[wU]at q)
      calc Pd (m e) (E.g S X tg G) (YQ h.1) ?_<|UK Q;rcases h.2 with q|q
      .cases tg with
       |Tuple es j pp=>let q2:=q.2;cases e<;>first|rfl|(simp[Bu]at q2)
       |_=>simp[wR]at q
      .cases tg with
       |Subscript=>cases e<;>rfl
       |_=>simp[wU]at q
     .show JK
    cases tg with
    |Name x q=>
     change cJ O X _ (if VE e||lM e then(match S.iq x with|some i=>Jj i (ev P n S e)|none=>cj)else cj);split
     .rename_i h;cases H:S.iq x with
      |none=>show JK
      |some i=>
       let#[D,J,F]:=G.iq H;rcases mf _ _▸h with h|h
       .show Ah G.nodup (m e) D J (YQ h) F
       .show UL G i h D J F
     .show JK
    |Attribute o f q=>
     change cJ O X _ (if VE e||lM e then BA P f (ev P n S o) (ev P n S e)else cj);split
     .rename_i h;let U:ow e (V<|.Attribute o f q) p.1 X.10=pure Zo:=by
       rcases mf _ _▸h with h|h
       .show YQ h
       .cases e<;>first|rfl|cases h
      unfold BA;split
      .rename_i u;show PJ (m o) (m e) (G.8.7 f u) U
      .show SV (m o) (m e) (λc C Z Y=>(G.8.xi.2 f c C Z Y).1) U
     .show JK
    |_=>show gen
  |_=>show JK
end
structure D4 where
 st:fu
 qual:Str
 ps:Tj
 N:Tj
 aS:Tv
abbrev _root_.Wr:=List<|Str×D4
set_option genInjectivity false in
structure Tab where
 fns:Wr
 nB:Wr
 meths:List<|Str×Wr
 cons:Wo
 nD:List<|Str×Tj
 ki:Tj
 frees:Tj
 tabs:Tj:=[]
 qk:List (Str×Wd):=[]
 nE:Tj:=[]
 G8:Tj:=[]
 rW:Wr:=[]
 oW:List (Str×Tj):=[]
 rX:Tj:=[]
noncomputable def dB (x:Str):Tj->Bool|[]=>Zo|y::r=>y==x||dB x r
noncomputable def JY {α:Type}(x:Str):List (Str×α)->Option α|[]=>Zg|(y,a)::r=>if y==x then V a else JY x r
def Tab.cl(T:Tab)(d:D4):Bool:=!dB d.2 T.G8
def D4.sc(T:Tab)(d:D4):Sc:=#[d.N,(Qq d.1).2,Zl,d.2,T.cl d]
def dh(T:Tab)(f c:Str):Bool:=match JY f T.oW with|some l=>dB c l|none=>Zo
def lO(T:Tab)(r:D4->Tv->IH->Res IV):Pg where
 fn:=λx=>(JY x T.1).map λd=>#[WP d.ps,d.5,r d,T.cl d]
 cls:=λx=>(JY x T.2).map λd=>#[WP d.ps,d.5,r d,T.cl d]
 fJ:=λc m=>((JY c T.3).bind<|JY m).map λd=>#[WP d.ps,d.5,r d,T.cl d]
 mw:=λm=>T.3.all λq=>match JY m q.2 with|some d=>!T.cl d|none=>Zl
 con:=λx=>JY x T.4
 mG:=λx=>(JY x T.5).map λl c=>dB c l
 fld:=λx=>dB x T.6
 free:=λx=>dB x T.7
 tabs:=λq=>dW q T.8
 xi:=λD=>(JY D T.9).map λl c=>JY c l
 mH:=λx=>dB x T.nE
 xo:=λx=>(JY x T.rW).map λd=>#[WP d.ps,d.5,r d,T.cl d]
 xf:=dh T
 xb:=λx=>dB x T.rX
def run(T:Tab):Nat->D4->Tv->IH->Res IV|0,_=>λ_ _=>.stuck|k+1,d=>Ap (WP d.N)<|eG<|(Vf d.1).map<|ex (lO T<|run T k) 40<|d.sc T
theorem Qy:∀{l:List (Str×α)},JY x l=V a->(x,a)∈l
 |[],h=>by cases h
 |(y,b)::r,h=>by
  unfold JY at h;split at h
  .simp_all
  .show Zq _<|Qy h
theorem XH:∀{l:Tj},dB x l=Zl->x∈l
 |[],h=>by cases h
 |y::r,h=>by
  rcases mf _ _▸h with e|e
  .simp_all
  .show Zq _<|XH e
structure aY(K:W.Frag)(x:Str)(d:D4)(fa:ZF)(fd:jm):Prop where
 tZ:∃dV,pW K x d.2 d.1 fa fd dV
 sc:dQ d.N d.3<|Qq d.1
 dv:∀j,j<=WP d.aS->∃ds,Qe K fd d.3 ds/\WP ds=WP d.aS-j/\∃vs,Vals vs ds/\∀Y H,aA K Y H (d.5.drop j) vs
structure gJ(O:aN)(T:Tab)(K:W.Frag)(mg:Str->Tb):Prop where
 fn:∀x d,(x,d)∈T.1->∃fa fd,mg x=V (.ref fa)/\aY K x d fa fd
 cls:∀x d,(x,d)∈T.2->∃C fa fd,mg x=V (.ref C)/\O x=V C/\Mk K C fa/\aY K "__init__" d fa fd
 fJ:∀c l m d,(c,l)∈T.3->(m,d)∈l->∃C fa fd,O c=V C/\mB K C/\Meth K C m fa/\aY K m d fa fd
 con:∀x v,(x,v)∈T.4->∃u y,mg x=V u/\RelV y u/\∀Y H,RV K Y H v y
 mG:∀D l,(D,l)∈T.5->∃c,mg D=V c/\gi O K c λt=>match t with|.ins c=>V (dB c l)|.exc _=>Zg|_=>V Zo
 fld:∀f,f∈T.6->Yn O K f
 free:∀x,x∈T.7->mg x=Zg
 xi:∀D l,(D,l)∈T.9->∃v,(mg D=V v\/(mg D=Zg/\kE D=V v))/\∀c b,(c,b)∈l->∃C,W.nsIn K Z4 c=V (V<|.ref C)/\hE K C/\W.kitOne K (.ref C) v=V b/\W.exmOne K (.ref C) v=V b
 mH:∀x,x∈T.nE->∃C,mg x=V (.ref C)/\kd K C
 xo:∀x d,(x,d)∈T.rW->∃C fa fd,mg x=V (.ref C)/\W.nsIn K Z4 x=V (V<|.ref C)/\Qp K C fa=Zl/\W.keepIn K (.ref C)=Zl/\(∀h:bu,K.In h->oU h C)/\aY K "__init__" d fa fd
 xf:∀f l c,(f,l)∈T.oW->c∈l->∃C,W.nsIn K Z4 c=V (V<|.ref C)/\gj K C f/\hE K C/\W.findIn K (.ref C) f=V Zg
 xb:∀x,x∈T.rX->∃C,mg x=V (.ref C)/\ke K C
section
variable{O:aN}{T:Tab}{prog:cy}{w:bV}{K:W.Frag}{mg:Str->Tb}{base:bu}
def UM:bW prog w K mg base (eR prog w) b k fa fd ps (jd O K ps λ_ _=>.stuck):=(#[λ_ _ _ _ h=>h.1,λ_ _ _ _ _ _ _ _ _ _ _ _ _ h=>by let#[_,_,_,_,_,_,z]:=h;show z.elim])
def UN(bC:gJ O T K mg):qf K mg (λD=>(JY D T.9).map λl c=>JY c l) (dh T):=by
 refine#[λD g h=>?_,λf c C h m=>?_]
 rotate_left
 .let k:(match JY f T.oW with|some l=>dB c l|none=>Zo)=Zl:=h;cases j:JY f T.oW with|none=>rw[j]at k;cases k|some l=>rw[j]at k;let#[B,q,r]:=bC.xf f l c (Qy j)<|XH k;rw[m]at q;cases q;show r
 let#[l,j,rfl]:=ZK.1 h;let#[v,E,F]:=bC.8 D l<|Qy j;calc#[v,E,λc C b e m=>?_];let#[B,u,J]:=F c b<|Qy e;rw[m]at u;cases u;show J
def UO(bC:gJ O T K mg)(B:T.8≠[]->QD mg base)(k)(E:∀x d fa fd,aY K x d fa fd->qh O prog w K mg base (4*k) #[WP d.ps,d.5,run T k d,T.cl d] fa fd d.3):tY O (4*k) (lO T<|run T k) prog w K mg base:=by
 refine#[λx f h=>?_,λx f h=>?_,λc m f h=>?_,λm h c f q=>?_,λx v h=>?_,λD g h=>?_,λf h=>?_,λx h=>?_,λq j h=>B λe=>?_,UN bC,λx h=>bC.9 x<|XH h,λx f h=>?_,λx h=>bC.xb x<|XH h]
 .let#[d,hd,rfl]:=ZK.1 h;let#[fa,fd,hm,ok]:=bC.1 x d<|Qy hd;let#[S,F]:=ok.1;show#[fa,fd,d.3,hm,F.2,E x d fa fd ok]
 .let#[d,hd,rfl]:=ZK.1 h;let#[C,fa,fd,hm,G,M,ok]:=bC.2 x d<|Qy hd;show#[C,fa,fd,d.3,hm,G,M,E _ d fa fd ok]
 .let#[d,hd,rfl]:=ZK.1 h;let#[l,u,hd]:=yi.1 hd;let#[C,fa,fd,G,cl,L,ok]:=bC.3 c l m d (Qy u)<|Qy hd;show#[C,fa,fd,d.3,G,cl,L,E m d fa fd ok]
 .let#[d,hd,rfl]:=ZK.1 q;let#[l,u,hd]:=yi.1 hd;let z:=pb.1 h _<|Qy u;rw[hd]at z;show pE _▸z
 .show bC.4 x v<|Qy h
 .let#[l,u,rfl]:=ZK.1 h;show bC.5 D l<|Qy u
 .show bC.6 f<|XH h
 .show bC.7 x<|XH h
 .let H:dW q T.8=V j:=h;rw[e]at H;cases H
 .let#[d,hd,rfl]:=ZK.1 h;let#[C,fa,fd,I,J,P,R,Q,ok]:=bC.xo x d<|Qy hd;show#[C,fa,fd,d.3,I,J,P,R,Q,E _ d fa fd ok]
theorem G9(bC:gJ O T K mg)(B:T.8≠[]->QD mg base):∀k x d fa fd,aY K x d fa fd->qh O prog w K mg base (4*k) #[WP d.ps,d.5,run T k d,T.cl d] fa fd d.3
 |0,x,d,fa,fd,ok=>#[07,UM,ok.3]
 |k+1,x,d,fa,fd,ok=>by
  calc#[07,?_,ok.3];let#[D,F]:=ok.1;change bW prog w K mg base (eR prog w) (T.cl d) (4*k+3+1) fa fd d.3<|jd O K d.3<|run T (k+1) d;refine F.fn (m:=eG<|(Vf d.1).map<|ex (lO T<|run T k) 40<|d.sc T) ok.2 λC A outer s H E j u=>?_
  calc VF (λst=>BE O (4*k) (lO T<|run T k) 40 (d.sc T) _ st ?_) _;show#[07,07,ok.2.4,ok.2.1,07,u.mono 05,λ_ _=>07,UO bC B k<|G9 bC B k,λ_=>#[j,07],λ_=>u,λ_=>#[07,07]]
end
inductive All{α:Type}(p:α->Prop):List α->Prop|nil:All p []|cons {a:α}{l:List α}:p a->All p l->All p (a::l)
theorem All.mem:∀{l:List α}{a:α},All p l->a∈l->p a
 |_,_,.nil,h=>by cases h
 |_,_,.cons h r,m=>by
  rcases ZG.1 m with rfl|m
  .show h
  .show r.mem m
def Hb(l:Tj):Ty->Ww:=λt=>match t with|.ins c=>V (dB c l)|.exc _=>Zg|_=>V Zo
section
variable{T:Tab}{K:W.Frag}{mg:Str->Tb}
def gm(ces:Wq):aN:=λc=>JY c ces
def UP(ces)(fn:All (λp:Str×D4=>∃fa fd,mg p.1=V (.ref fa)/\aY K p.1 p.2 fa fd) T.1) (cls:All (λp:Str×D4=>∃C fa fd,mg p.1=V (.ref C)/\gm ces p.1=V C/\Mk K C fa/\aY K "__init__" p.2 fa fd) T.2) (fJ:All (λq:Str×Wr=>∃C,gm ces q.1=V C/\All (λp:Str×D4=>∃fa fd,Meth K C p.1 fa/\aY K p.1 p.2 fa fd) q.2) T.3) (con:All (λp:Str×IV=>∃u y,mg p.1=V u/\RelV y u/\∀Y H,RV K Y H p.2 y) T.4) (cl:All (λp:Str×ZF=>lu K p.2/\All (λf=>Vr K p.2 f) T.6) ces) (mG:All (λq:Str×Tj=>∃D,mg q.1=V (.ref D)/\W.kitOne K (.type "NoneType") (.ref D)=V Zo/\W.kitOne K (.type "bool") (.ref D)=V Zo/\W.kitOne K (.type "int") (.ref D)=V Zo/\W.kitOne K (.type "str") (.ref D)=V Zo /\ W.kitOne K (.type "list") (.ref D)=V Zo/\W.kitOne K (.type "tuple") (.ref D)=V Zo/\W.kitOne K (.type "dict") (.ref D)=V Zo/\All (λp:Str×ZF=>W.kitOne K (.ref p.2) (.ref D)=V (dB p.1 q.2)) ces) T.5) (free:All (λx=>mg x=Zg) T.7) (qk:All (λq:Str×Wd=>∃v,(mg q.1=V v\/(mg q.1=Zg/\kE q.1=V v))/\All (λp:Str×Bool=>∃C,W.nsIn K Z4 p.1=V (V<|.ref C)/\hE K C/\W.kitOne K (.ref C) v=V p.2/\W.exmOne K (.ref C) v=V p.2) q.2) T.9:=by show .nil) (mH:All (λx=>∃C,mg x=V (.ref C)/\kd K C) T.nE:=by show .nil) (rW:All (λp:Str×D4=>∃C fa fd,mg p.1=V (.ref C)/\W.nsIn K Z4 p.1=V (V<|.ref C)/\Qp K C fa=Zl/\W.keepIn K (.ref C)=Zl/\(∀h:bu,K.In h->oU h C)/\aY K "__init__" p.2 fa fd) T.rW:=by show .nil) (oW:All (λq:Str×Tj=>All (λc=>∃C,W.nsIn K Z4 c=V (V<|.ref C)/\gj K C q.1/\hE K C/\W.findIn K (.ref C) q.1=V Zg) q.2) T.oW:=by show .nil) (rX:All (λx=>∃C,mg x=V (.ref C)/\ke K C) T.rX:=by show .nil):gJ (gm ces) T K mg:=by
 refine#[λx d h=>fn.mem h,λx d h=>cls.mem h,λc l m d j hm=>?_,λx v h=>con.mem h,λD l h=>?_,λf M=>?_,λx h=>free.mem h,λD l h=>?_,λx h=>mH.mem h,λx d h=>rW.mem h,λf l c h j=>(oW.mem h).mem j,λx h=>rX.mem h]
 .let#[C,B,F]:=fJ.mem j;let#[fa,fd,I,ok]:=F.mem hm;show#[C,fa,fd,B,(cl.mem<|Qy B).1.1,I,ok]
 .let#[C,B,E,J,P,X,S,O,Q,R]:=mG.mem h;refine#[_,B,#[λb e=>?_,λb e=>?_,λb e=>?_,λb e=>?_,λb e=>?_,λb e=>?_,λb e=>?_,λk U b e G=>?_,(λk U b e=>by cases e)]]
  .cases e;show E
  .cases e;show J
  .cases e;show P
  .cases e;show X
  .cases e;show S
  .cases e;show O
  .cases e;show Q
  .cases e;show#[(cl.mem<|Qy G).1,R.mem<|Qy G]
 .intro c C e;let#[E,J]:=cl.mem<|Qy e;show#[E.1,J.mem M]
 .let#[v,L,F]:=qk.mem h;show#[v,L,λc b j=>F.mem j]
theorem lh{P:List α->Prop}(j:∀a,P [a]):∀us:List α,WP us=1->P us|[a],_=>j a
theorem BF{P:List α->Prop}(j:∀a b,P [a,b]):∀us:List α,WP us=2->P us|[a,b],_=>j a b
theorem BG{P:List α->Prop}(j:∀a b c,P [a,b,c]):∀us:List α,WP us=3->P us|[a,b,c],_=>j a b c
theorem BH{P:List α->Prop}(j:∀a b c d,P [a,b,c,d]):∀us:List α,WP us=4->P us|[a,b,c,d],_=>j a b c d
theorem t4{P:List α->Prop}(j:∀a b c d e f g,P [a,b,c,d,e,f,g]):∀us:List α,WP us=7->P us|[a,b,c,d,e,f,g],_=>j a b c d e f g
noncomputable def jF (N P:Tj)(sc:fg):Bool:=sc.1==.function&&!sc.4&&!sc.3&&decide N.Nodup&&decide (N.take (WP P)=P)&&P.all (λx=>sc.2.lookup x==V .local||sc.2.lookup x==V .cell)&&sc.2.all (λy=>!(y.2==.free))
def jF.of(h:jF N P sc=Zl):dQ N P sc:=by simp![jF,Zt,beq_iff_eq,pE,decide_eq_true_eq,pb,mf,beq_eq_false_iff_ne]at h;let#[#[#[#[#[#[h1,J],h3],h4],h5],h6],h7]:=h;show#[h1,J,h3,h4,h5,h6,h7]
def UQ(x:Qp K C f=Zl)(h)(I:K.In h):oU h C:=by let#[G,N,nm,q,bs,j,H,sub,F,k,J,E,L,m,B,D,M,O,u,_,_,T,_]:=Qp.obj x I;show#[nm,q,N,bs,G,j,H,sub,F,k,J,E,L,m,B,D,_,u,T.hasType 01]
def UR(bC:gJ O T K mg)(B:T.8≠[]->QD mg base)(k)(hp:d.3=[x])(ok:aY K "law" d fa fd):bW prog w K mg base (eR prog w) (T.cl d) (4*k) fa fd [x] (XY K x<|run T k d):=by let:=(G9 (prog:=prog) (w:=w) (base:=base) bC B k "law" d fa fd ok).2;rw[hp]at this;show PS this
end
def WR{α:Type}(r:Res α)(Q:α->IH->Prop):Prop:=match r with|.ok a h=>Q a h|_=>False
def WS(r:bS)(N:aD->IH->Prop)(R:IV->IH->Prop):Prop:=match r with|.next U h=>N U h|.ret v h=>R v h|_=>False
section
variable{α β:Type}{U:aD}{h:IH}{Q:α->IH->Prop}{N:aD->IH->Prop}{R:IV->IH->Prop}
def WR.mono(x:WR r P)(f:∀a h,P a h->Q a h):WR r Q:=by cases r with|ok a h=>show f a h x|exc n h=>show x|stuck=>show x
def Jf(e:r=.ok a h)(q:Q a h):WR r Q:=by rw[e];show q
def WR.eq(x:WR r Q):∃a h,r=.ok a h/\Q a h:=by cases r with|ok a h=>show#[a,h,07,x]|exc n h=>show x.elim|stuck=>show x.elim
def WS.mono(x:WS r N R)(f:∀U h,N U h->N' U h)(g:∀v h,R v h->R' v h):WS r N' R':=by cases r with|next U h=>show f U h x|ret v h=>show g v h x|_=>show x
theorem YV(a):WR (.ok a h) Q=Q a h:=rfl
def J9(r)(f:α->IH->Res β)(Q):WR (r.bind f) Q=WR r λa h=>WR (f a h) Q:=by cases r<;>rfl
def V4(c)[Decidable c](x y):WR (if c then x else y) Q=((c->WR x Q)/\(¬c->WR y Q)):=by by_cases j:c<;>simp[j]
def Vc(r:Res α)(k):WS (rS U r k) N R=WR r λa h=>WS (k a h) N R:=by cases r<;>rfl
def US(r)(Q):WR r.fin Q=WS r (λ_ h=>Q .ah h) Q:=by cases r with|exc n U h=>change WR (match h[n]? with|some (.exc _ _)=>Res.exc n h|_=>Res.stuck) Q=False;split<;>rfl|_=>rfl
theorem UT(U):WS (.next U h) N R=N U h:=rfl
def UU(a b):WS (Jg a b U h) N R=WS (a U h) (λj h1=>WS (b j h1) N R) R:=by unfold Jg;cases a U h<;>rfl
def UW(i)(e):WS (Jj i e U h) N R=WR (e U h) λv h1=>N (U.set i<|V v) h1:=by unfold Jj;rw[Vc];rfl
def UX(t)(a b):WS (bU t a b U h) N R=WR (t U h) λc h1=>(c=Zl->WS (a U h1) N R)/\(c=Zo->WS (b U h1) N R):=by unfold bU;rw[Vc];congr 1;funext c h1;cases c<;>simp
def UY(e):WS (Jk e U h) N R=WR (e U h) R:=by unfold Jk;rw[Vc];rfl
def UZ(e):WS (JH e U h) N R=WR (e U h) λ_ h1=>N U h1:=by unfold JH;rw[Vc];rfl
def YY(e)(g):WS (fG e g U h) N R=WR (e U h) λv h1=>WS (g v U h1) N R:=by unfold fG;rw[Vc]
def YZ(f)(o e):WS (JL f o e U h) N R=WR (e U h) λv h1=>WR (o U h1) λm J=>∃i c fs,m=.ref i/\J[i]?=V (.ins c fs)/\WP fs<1000/\N U (J.set i<|.ins c<|bL f v fs):=by
 unfold JL;rw[Vc];congr 1;funext v h1;rw[Vc];congr 1;funext m J;cases m with
 |ref i=>
  cases e:J[i]? with|none=>simp[WS,e]|some o=>
   cases o with
   |ins c fs=>
    by_cases k:WP fs<1000
    .simp only[e,k];calc propext #[λq=>#[i,c,fs,07,e,k,q],λ⟨E,D,C,B,j,_,q⟩=>?_];cases B;rw[e]at j;cases j;show q
    .simp only[e,k];calc propext #[λq=>q.elim,λ⟨E,D,C,B,j,u,_⟩=>?_];cases B;rw[e]at j;cases j;show k u
   |_=>simp[WS,e]
 |_=>simp[WS]
def He(it)(g)(b):WS (cD it g b U h) N R=WR (it U h) λbB h1=>WS (Qc bB.2 g b bB.1 U h1) N R:=by unfold cD;rw[Vc]
theorem Vm(v)(Q):WR (eC v U h) Q=Q v h:=rfl
def Yc(f)(a b)(Q):WR (Jc f a b U h) Q=WR (a U h) λx h1=>WR (b U h1) λy J=>WR (f x y J) Q:=by unfold Jc;rw[J9];congr 1;funext x h1;rw[J9]
def U0(t)(a b)(Q):WR (k9 t a b U h) Q=WR (t U h) λc h1=>(c=Zl->WR (a U h1) Q)/\(c=Zo->WR (b U h1) Q):=by unfold k9;rw[J9];congr 1;funext c h1;cases c<;>simp
def WA(a b)(Q):WR (QO a b U h) Q=WR (a U h) λc h1=>(c=Zl->WR (b U h1) Q)/\(c=Zo->Q Zo h1):=by unfold QO;rw[J9];congr 1;funext c h1;cases c<;>simp[WR]
def WB(f g)(a b c)(Q):WR (JS f g a b c U h) Q=WR (a U h) λx h1=>WR (b U h1) λy J=>WR (f x y J) λk h3=>∃t,k=.bl t/\(t=Zl->WR (c U h3) λz j=>WR (g y z j) Q)/\(t=Zo->Q (.bl Zo) h3):=by
 unfold JS;rw[J9];congr 1;funext x h1;rw[J9];congr 1;funext y J;rw[J9];congr 1;funext k h3;cases k with
 |bl t=>cases t with|true=>rw[J9];simp|false=>simp[WR]
 |_=>simp[WR]
def BI(a)(r)(Q):WR (Jb a r U h) Q=WR (a U h) λx h1=>WR (r U h1) λxs J=>Q (x::xs) J:=by unfold Jb;rw[J9];congr 1;funext x h1;rw[J9];rfl
def WC(a)(Q):WR (cT a U h) Q=WR (a U h) λxs h1=>WP xs<=sizeLine/\Q (.tup xs) h1:=by unfold cT;rw[J9];congr 1;funext xs h1;rw[V4];by_cases j:WP xs<=sizeLine<;>simp[j,WR]
def WG(a)(Q):WR (JA a U h) Q=WR (a U h) λxs h1=>WP xs<=sizeLine/\Q (.ref (WP h1)) (h1++[.lst xs]):=by unfold JA;rw[J9];congr 1;funext xs h1;rw[V4];by_cases j:WP xs<=sizeLine<;>simp[j,WR]
def Xe(f)(d)(a)(Q):WR (Jl f d a U h) Q=WR (a U h) λvs h1=>WR (f (vs++d) h1) Q:=by unfold Jl;rw[J9]
def Xx(c)(f)(d)(a)(Q):WR (JI c f d a U h) Q=WR (a U h) λvs h1=>WR (f (.ref (WP h1)::(vs++d))<|h1++[.ins c []]) λr J=>r=.ah/\Q (.ref (WP h1)) J:=by unfold JI;rw[J9];congr 1;funext vs h1;rw[J9];congr 1;funext r J;cases r<;>simp[WR]
def Hf(f)(a)(Q):WR (bp f a U h) Q=WR (a U h) λvs h1=>WR (f vs h1) Q:=by unfold bp;rw[J9]
theorem WH(f)(x)(Q):WR (bx f [x] h) Q=WR (f x h) Q:=rfl
def WI(dG)(e)(Q):WR (dw dG e U h) Q=WR (e U h) λv h1=>∃b,(iO v h1).bind dG=V b/\Q (.bl b) h1:=by unfold dw;rw[J9];congr 1;funext v h1;cases (iO v h1).bind dG<;>simp[WR]
def WJ(e)(Q):WR (Qz e U h) Q=WR (e U h) λv h1=>∃i,v=.int i/\Q (V i) h1:=by unfold Qz;rw[J9];congr 1;funext v h1;cases v<;>simp[WR]
def YX(f)(e)(lo hi)(Q):WR (jY f e lo hi U h) Q=WR (e U h) λx h1=>WR (lo U h1) λl J=>WR (hi U J) λu h3=>WR (f x l u h3) Q:=by unfold jY;rw[J9];congr 1;funext x h1;rw[J9];congr 1;funext l J;rw[J9]
noncomputable def Vg (f:Str)(v:IV)(h:IH):Te:=match v with|.ref i=>(match h[i]? with|some (.ins _ fs)=>fs.lookup f|_=>Zg)|_=>Zg
def WK(f)(o)(Q):WR (Jp f o U h) Q=WR (o U h) λv h1=>∃x,Vg f v h1=V x/\Q x h1:=by
 unfold Jp;rw[J9];congr 1;funext v h1;cases v with
 |ref i=>
  unfold Vg;cases e:h1[i]? with|none=>simp[WR,e]|some ob=>cases ob with|ins c fs=>cases j:fs.lookup f<;>simp[WR,e,j]|_=>simp[WR,e]
 |_=>simp[WR,Vg]
variable{i j:Int}{x y:Str}{P:IV->IH->Prop}
def WL(i j):WR (Qs (.int i) (.int j) h) P=(Vq i j/\P (.int<|i*j) h):=by change WR (XL (.int i) (.int j) h) P=_;unfold XL;rw[V4];by_cases hm:Vq i j<;>simp[hm,WR]
def WM(i j):WR (Qa (.int i) (.int j) h) P=((0<j/\j.natAbs.log2<9000)/\P (.int<|i/j) h):=by unfold Qa;rw[V4];by_cases hm:0<j/\j.natAbs.log2<9000<;>simp[hm,WR]
def WN(i j):WR (J8 (.int i) (.int j) h) P=(0<j/\P (.int<|i%j) h):=by unfold J8;rw[V4];by_cases hm:0<j<;>simp[hm,WR]
def YW(i j):WR (Qb (.int i) (.int j) h) P=((0<=j/\j<=1000000/\i.natAbs<2^64)/\P (.int<|i^j.toNat) h):=by unfold Qb;rw[V4];by_cases hm:0<=j/\j<=1000000/\i.natAbs<2^64<;>simp[hm,WR]
theorem WO(x y):WR (eM (.str x) (.str y) h) P=P (.bl (!decide (y.1.1<x.1.1))) h:=rfl
def Vd(I:Nat->aD->IH->Prop)(H:∀i U h,I i U h->bf h) (E:∀i (hi:i<WP xs) U h,I i U h->WS (g xs[i] U h) (λF h1=>WS (b F h1) (I<|i+1) R) λ_ _=>False)(done:∀U h,I (WP xs) U h->N U h)(start:I 0 U h):WS (Qc bf g b xs U h) N R:=by
 let G:∀(n i:Nat)(U:aD)(h:IH),WP xs-i=n->i<=WP xs->I i U h->WS (Qc bf g b (xs.drop i) U h) N R:=by
  intro n;induction n with|zero=>intro i U h hn hi D;let:i=WP xs:=05;subst this;rw[uM];unfold Qc;rw[if_pos<|H _ _ _ D];show done _ _ D|succ n L=>
   intro i U h hn hi D;let u:i<WP xs:=nQ 06;rw[nV u];unfold Qc;rw[if_pos<|H _ _ _ D];let t:=E i u U h D;cases C:g xs[i] U h with
   |next F h1=>rw[C]at t;let j:WS (b F h1) (I<|i+1) R:=t;dsimp only;cases B:b F h1 with|next k J=>rw[B]at j;show L (i+1) k J (congrArg su 06) u j|ret v J=>rw[B]at j;show j|brk k J=>rw[B]at j;show j.elim|cont k J=>rw[B]at j;show j.elim|exc m k J=>rw[B]at j;show j.elim|stuck=>rw[B]at j;show j.elim
   |ret v h1=>rw[C]at t;show t.elim
   |brk k J=>rw[C]at t;show t.elim
   |cont k J=>rw[C]at t;show t.elim
   |exc m k J=>rw[C]at t;show t.elim
   |stuck=>rw[C]at t;show t.elim
 let:=G (WP xs) 0 U h 04 (ZX _) start;simpa using this
end
section
variable{α:Type}{h h1:IH}{a:α}{r:Res α}{P:IV->IH->Prop}
def Ju(x:WR r λv h'=>v=a/\h'=h1):r=.ok a h1:=by let#[_,_,e,rfl,rfl]:=x.eq;show e
def WQ(xs)(n):WR (Jh (.tup xs) (.int n) h) P=∃x,bI xs n=V x/\P x h:=by unfold Jh;cases e:bI xs n<;>simp[WR,e]
def WT(xs)(n):WR (Jh (.cG xs) (.int n) h) P=∃x,bI xs n=V x/\P x h:=by unfold Jh;cases e:bI xs n<;>simp[WR,e]
def WU(i)(n):WR (Jh (.ref i) (.int n) h) P=∃xs,h[i]?=V (.lst xs)/\∃x,bI xs n=V x/\P x h:=by
 unfold Jh;cases e:h[i]? with|none=>simp[WR,e]|some o=>cases o with|lst xs=>cases j:bI xs n<;>simp[WR,e,j]|_=>simp[WR,e]
def WV(i):WR (bq (.ref i) h) P=∃xs,h[i]?=V (.lst xs)/\P (.int (WP xs)) h:=by unfold bq;cases e:h[i]? with|none=>simp[WR,e]|some o=>cases o<;>simp[WR,e]
def WW(x):WR (bq (.str x) h) P=(x.length<=sizeLine/\P (.int x.length) h):=by unfold bq;rw[V4];by_cases hm:x.length<=sizeLine<;>simp[hm,WR]
def JE{n:Nat}(e:xs[n]?=V x):bI xs (n:Int)=V x:=by let hn:=(Zp.1 e).1;let:(n:Int)<WP xs:=mj.2 06;simp[bI,ik,this,e]
def JR:bI (x::xs) 0=V x:=by simp[bI,ik]
def JP:bI (x::y::xs) 1=V y:=(JE 07)
def Q2:bI (x::y::z::xs) 2=V z:=(JE 07)
def BJ:bI (x::y::z::u::xs) 3=V u:=(JE 07)
def Hg(h0:0<=n)(e:xs[n.toNat]?=V x):bI xs n=V x:=by let:=JE e;rwa [rn h0]at this
def wY(e:h[i]?=V (.lst xs)):iO (.ref i) h=V .lst:=by simp[iO,e]
def grow{i:Nat}(e:h[i]?=V o):(h++g)[i]?=V o:=by rw[ZN (Zp.1 e).1];show e
def Jr:(h++[o])[WP h]?=V o:=03
theorem JF(e:h[i]?=V o):i<WP h:=(Zp.1 e).1
theorem Hh(f):∀xs:Tv,X5 (xs.map λx=>.bl<|f x)=V (xs.map f)|[]=>07|x::xs=>by simp[X5,Hh f xs]
def all_map{xs:Tv}(e:h[i]?=V (.lst<|xs.map λx=>.bl<|f x)):allI (.ref i) h=.ok (.bl<|xs.all f) h:=by simp[allI,e,Hh]
end
def Ex(h h':IH):Prop:=∃g,h'=h++g
def Ex.refl(h):Ex h h:=(#[[],03])
def Ex.trans(a:Ex h h1)(b:Ex h1 J):Ex h J:=by let#[g,rfl]:=a;let#[j,rfl]:=b;show#[g++j,03]
def Ex.get(a:Ex h h'){i:Nat}(e:h[i]?=V o):h'[i]?=V o:=by let#[g,rfl]:=a;show grow e
def Ex.one(h)(o):Ex h (h++[o]):=(#[[o],07])
def Ex.len(a:Ex h h'):WP h<=WP h':=by let#[g,rfl]:=a;simp
section
variable{α:Type}{h:IH}
theorem BK(i0):∀{xs acc:Tv}{o:Te}{h1:IH},h1[i0]?=V (.lst acc)->(∀J,(∀j ob,j≠i0->h1[j]?=V ob->J[j]?=V ob)->bf J)->WP acc+WP xs<sizeLine ->(∀x∈xs,∀J,(∀j ob,j≠i0->h1[j]?=V ob->J[j]?=V ob)->WR (t (V x::caps) J) λb h3=>b=p x/\Ex J h3) ->(∀x∈xs,p x=Zl->∀J,(∀j ob,j≠i0->h1[j]?=V ob->J[j]?=V ob)->WR (e (V x::caps) J) λv h3=>v=f x/\Ex J h3) ->WR (JV bf (bw 0) t e i0 xs (o::caps) h1) λv h3=>v=.ref i0/\∃g,h3=h1.set i0 (.lst<|acc++(xs.filter p).map f)++g
 |[],acc,o,h1,hi,hc,_,_,_=>by
  unfold JV;rw[if_pos<|hc h1 λ_ _ _ q=>q];calc#[07,[],?_];simp;calc(nX λj=>?_);by_cases I:j=i0
  .subst I;rw[hi,iY<|JF hi]
  .rw[ia<|bP I]
 |x::xs,acc,o,h1,hi,hc,hl,ht,he=>by
  unfold JV;rw[if_pos<|hc h1 λ_ _ _ q=>q];dsimp only[bw,yx];let G:WP acc+WP xs+1<sizeLine:=by simpa[sm]using hl
  let#[b,J,O,rfl,u]:=(ht x Z2 h1 λ_ _ _ q=>q).eq;rw[O];let k:∀j ob,j≠i0->h1[j]?=V ob->J[j]?=V ob:=λj ob _ q=>u.get q
  cases F:p x with
  |false=>
   dsimp only;refine WR.mono (BK i0 (u.get hi) (λh3 q=>hc h3 λj ob n r=>q j ob n<|k j ob n r) (mM 06) (λy m h3 q=>ht y (Zq _ m) h3 λj ob n r=>q j ob n<|k j ob n r) λy m B h3 q=>he y (Zq _ m) B h3 λj ob n r=>q j ob n<|k j ob n r) λv h3 ⟨ev,g,H⟩=>#[ev,?_]
   let#[g2,rfl]:=u;calc#[g2++g,?_];rw[H,mR (h:=JF hi)];simp[F]
  |true=>
   dsimp only;let#[v,h3,L,rfl,E]:=(he x Z2 F J k).eq;rw[L];dsimp only;rw[E.get<|u.get hi];dsimp only;rw[if_pos<|kN (Zi _ _) 06];let C:∀j ob,j≠i0->h1[j]?=V ob->(h3.set i0<|.lst<|acc++[f x])[j]?=V ob:=λj ob n q=>by rw[ia<|bP n];show E.get<|u.get q
   refine WR.mono (BK i0 (acc:=acc++[f x]) (by rw[iY<|JF<|E.get<|u.get hi]) (λD q=>hc D λj ob n r=>q j ob n<|C j ob n r) (by simp;(rw[qJ];show G)) (λy m D q=>ht y (Zq _ m) D λj ob n r=>q j ob n<|C j ob n r) λy m B D q=>he y (Zq _ m) B D λj ob n r=>q j ob n<|C j ob n r) λv D ⟨ev,g,H⟩=>#[ev,?_]
   let#[M,q3]:=u.trans E;calc#[M++g,?_];rw[H,q3,mR (h:=JF hi),mR (h:=by rw[nY];show JF hi),uR];simp[F]
def YU(u:WR (it U h0) λbB h1=>bB.1=xs/\bB.2=bf/\h1=h)(G:WP xs<sizeLine) (H:∀J:IH,(∀(j:Nat)(ob:IX),h[j]?=V ob->J[j]?=V ob)->bf J) (B:∀x∈xs,∀J:IH,(∀(j:Nat)(ob:IX),h[j]?=V ob->J[j]?=V ob)->WR (t (V x::js.map λj=>(U[j]?).join) J) λb h3=>b=p x/\Ex J h3) (D:∀x∈xs,p x=Zl->∀J:IH,(∀(j:Nat)(ob:IX),h[j]?=V ob->J[j]?=V ob)->WR (e (V x::js.map λj=>(U[j]?).join) J) λv h3=>v=f x/\Ex J h3):WR (Jy it 1 js (bw 0) t e U h0) λv h3=>v=.ref (WP h)/\∃g,h3=h++.lst ((xs.filter p).map f)::g:=by
 let#[bB,h1,F,q1,q2,rfl]:=u.eq;unfold Jy;rw[F];change WR (JV bB.2 (bw 0) t e (WP h1) bB.1 (Zg::js.map λj=>(U[j]?).join)<|h1++[.lst []]) _;rw[q1,q2];let k:∀{J:IH},(∀j ob,j≠h1.length->(h1++[IX.lst []])[j]?=V ob->J[j]?=V ob)->∀j ob,h1[j]?=V ob->J[j]?=V ob:=λq j ob r=>q j ob (Zu<|JF r)<|grow r
 refine WR.mono (BK (WP h1) Jr (λJ q=>H J<|k q) (by simpa using G) (λx m J q=>B x m J<|k q) λx m C J q=>D x m C J<|k q) λv h3 ⟨ev,g,E⟩=>#[ev,g,?_]
 rw[E];simp
def BL(xs:List α):xs.filter (λ_=>Zl)=xs:=(List.filter_eq_self.2 03)
def Q0(k:WR (it U h0) λbB h1=>bB.1=xs/\bB.2=bf/\h1=h)(B:WP xs<sizeLine) (C:∀J:IH,(∀(j:Nat)(ob:IX),h[j]?=V ob->J[j]?=V ob)->bf J) (m:∀x∈xs,∀J:IH,(∀(j:Nat)(ob:IX),h[j]?=V ob->J[j]?=V ob)->WR (e (V x::js.map λj=>(U[j]?).join) J) λv h3=>v=f x/\Ex J h3):WR (Jy it 1 js (bw 0) JC e U h0) λv h3=>v=.ref (WP h)/\∃g,h3=h++.lst (xs.map f)::g:=by
 let:=YU (t:=JC) k B C (λ_ _ J _=>#[07,.refl _]) λx u _ J q=>m x u J q
 rwa [BL]at this
def Jw:(h++o::g)[WP h]?=V o:=03
def Ex.cons(h)(o)(g):Ex h (h++o::g):=(#[_,07])
end
section
variable{U:aD}{h h1:IH}{Q:IV->IH->Prop}{bB:jW->IH->Prop}
def Qn(e):WR (Jv e U h) bB=WR (e U h) λv h1=>WR (wu v h1) bB:=by unfold Jv;rw[J9]
def Vn(f)(a):WR (cR f a U h) bB=WR (a U h) λvs h1=>WR (f vs h1) bB:=by unfold cR;rw[J9]
def Qt(i):WR (wu (.ref i) h) bB=∃xs,h[i]?=V (.lst xs)/\bB #[xs,λh'=>h'[i]?=V (.lst xs)] h:=by change WR (iN (.ref i) h) bB=_;unfold iN;cases e:h[i]? with|none=>simp[WR,e]|some o=>cases o<;>simp[WR,e]
theorem WX(xs):WR (wu (.tup xs) h) bB=bB #[xs,λ_=>True] h:=rfl
def BM(i):WR (Vw [.ref i] h) bB=∃xs,h[i]?=V (.lst xs)/\bB #[Qx 0 xs,λh'=>h'[i]?=V (.lst xs)] h:=by change WR (V9 [.ref i] h) bB=_;unfold V9;cases e:h[i]? with|none=>simp[WR,e]|some o=>cases o<;>simp[WR,e]
def Yd(j):WR (Qi [.int j] h) bB=((-(2^62)<=j/\j<2^62)/\bB #[aR 0 j,λ_=>True] h):=by unfold Qi;rw[V4];show propext #[λ⟨a,b⟩=>(zb _).elim (λq=>#[q,a q]) λq=>(b q).elim,λ⟨a,b⟩=>#[λ_=>b,λq=>absurd a q]]
def WY(i j):WR (VP [.int i,.int j] h) bB=((-(2^62)<=i/\i<2^62/\ -(2^62)<=j/\j<2^62)/\bB #[aR i j,λ_=>True] h):=by unfold VP;rw[V4];show propext #[λ⟨a,b⟩=>(zb _).elim (λq=>#[q,a q]) λq=>(b q).elim,λ⟨a,b⟩=>#[λ_=>b,λq=>absurd a q]]
def JN(i j):(aR i j).length=(j-i).toNat:=by simp[aR]
def QL(i j)(n)(hn:n<(aR i j).length):(aR i j)[n]=.int (i+n):=by simp[aR]
def Hi(xs)(n:Nat)(hn):(Qx 0 xs)[n]=.tup [.int n,xs[n]'(by rwa [VN]at hn)]:=by let:=Y1 xs 0 n;rw[Zd hn,Zd<|by rwa [VN]at hn]at this;simpa using this
def Hj(i)(lo hi):WR (j8 (.ref i) lo hi h) Q=∃xs,h[i]?=V (.lst xs)/\Q (.ref (WP h)) (h++[.lst<|dt xs lo hi]):=by unfold j8;cases e:h[i]? with|none=>simp[WR,e]|some o=>cases o<;>simp[WR,e]
theorem WZ(xs)(lo hi):WR (j8 (.cG xs) lo hi h) Q=Q (.ref (WP h)) (h++[.lst<|dt xs lo hi]):=rfl
def Hk(n d):HT.b8 n d Zg=d:=(HT.kZ n d)
def Hl(xs:List α)(n:Nat):dt xs Zg (V (n:Int))=xs.take n:=by unfold dt;rw[Hk,HT.fh];simp
def W0(xs:List α)(n:Nat):dt xs (V (n:Int)) Zg=xs.drop n:=by
 unfold dt;rw[Hk,HT.fh];by_cases hn:n<=WP xs
 .rw[yo hn];show nW 03
 .rw[Nat.min_eq_right<|Z7<|Nat.lt_of_not_le hn,uM,yr<|Z7<|Nat.lt_of_not_le hn];simp
def W5(xs:List α)(n m:Nat):dt xs (V (n:Int)) (V (m:Int))=(xs.take m).drop n:=by
 unfold dt;rw[HT.fh,HT.fh];refine nX λi=>?_
 simp![uK,List.getElem?_drop];by_cases j:n+i<WP xs
 .rw[yo<|show n<=WP xs by show Z7<|Zb (Zc (Zi _ _) 1) j];by_cases k:n+i<m
  .lia
  .lia
 .rw[show xs[n+i]?=Zg from qM<|ZM j,show xs[min n (WP xs)+i]?=Zg from qM 05];simp
variable{P:Pg}{m:Str}{n i:Nat}{o:E1}{a:A1}{xs:Tv}{c:Str}{fs:Wo}
def W8(e:o U h=.ok (.ref i) h1)(j:h1[i]?=V (.lst xs))(k:dX "list" m n=V g):WR (Jm P m n o a U h) Q=WR (a U h1) λvs J=>WR (g (.ref i) vs J) Q:=by
 unfold Jm;rw[e];let B:Xp (.ref i) h1=Zo:=by simp[Xp,j]
 let u:p8 (.ref i) h1="list":=by simp[p8,j]
 dsimp only;rw[B,u,k];rw[if_neg Zx];unfold rQ;rw[e,J9,YV];let:eE "list" (.ref i) h1=Zl:=by simp[eE,j]
 rw[if_pos this,J9]
def Hm(e:o U h=.ok (.ref i) h1)(hi:h1[i]?=V (.ins c fs))(k:fs.lookup m=Zg)(hd:Qg P m n c=V (f,d)):WR (Jm P m n o a U h) Q=WR (a U h1) λvs J=>WR (f (.ref i::(vs++d)) J) Q:=by
 unfold Jm;rw[e];let j:Xp (.ref i) h1=Zl:=by simp[Xp,hi]
 dsimp only;rw[j,if_pos 07];unfold v7;rw[e,J9,YV];dsimp only;rw[hi];dsimp only;rw[hd,k];rw[J9]
def W9(y):WR (Xh (.ref i) [y] h) Q=∃xs,h[i]?=V (.lst xs)/\WP xs<sizeLine/\Q .ah (h.set i<|.lst<|xs++[y]):=by
 unfold Xh;cases e:h[i]? with|none=>simp[WR,e]|some ob=>cases ob with|lst xs=>by_cases j:WP xs<sizeLine<;>simp[WR,e,j]|_=>simp[WR,e]
def Vt:dX "list" "append" 1=V Xh:=02
def Q9(e:h[i]?=V (.ins c fs)):Vg f (.ref i) h=fs.lookup f:=by simp[Vg,e]
def Za:WR (Q3 (.ref i) h) Q=∃xs,h[i]?=V (.lst xs)/\Q (.ref (WP h)) (h++[.lst xs]):=by unfold Q3;cases e:h[i]? with|none=>simp[WR,e]|some ob=>cases ob<;>simp[WR,e]
def Hn:WR (Xb (.ref i) h) Q=∃xs,h[i]?=V (.lst xs)/\Q (.tup xs) h:=by unfold Xb;cases e:h[i]? with|none=>simp[WR,e]|some ob=>cases ob<;>simp[WR,e]
end
section
variable{U:aD}{h:IH}{Q:IV->IH->Prop}
def BN(i j):WR (Js (.ref i) (.ref j) h) Q=∃xs,h[i]?=V (.lst xs)/\∃ys,h[j]?=V (.lst ys)/\WP xs+WP ys<=sizeLine/\Q (.ref (WP h)) (h++[.lst<|xs++ys]):=by
 unfold Js;dsimp only;split
 .rename_i xs ys e m;rw[V4];refine propext #[λ⟨a,b⟩=>?_,λ⟨B,f,C,k,l,q⟩=>?_]
  .by_cases l:WP xs+WP ys<=sizeLine
   .show#[xs,e,ys,m,l,a l]
   .show(b l).elim
  .rw[e]at f;rw[m]at k;cases f;cases k;show#[λ_=>q,λn=>absurd l n]
 .rename_i u;show propext #[i7,λ⟨xs,f,ys,k,_⟩=>(u xs ys f k).elim]
def J54(o i)(v):WS (tM o i v U h) N R=WR (o U h) λj h1=>WR (i U h1) λiv J=>WS (hJ j iv v U J) N R:=by unfold tM;rw[Vc];congr 1;funext j h1;rw[Vc]
def J11(i)(k)(v):WS (hJ (.ref i) (.int k) v U h) N R=∃xs,h[i]?=V (.lst xs)/\∃j,ik (WP xs) k=V j/\N U (h.set i<|.lst<|xs.set j v):=by
 unfold hJ;cases e:h[i]? with|none=>simp[WS,e]|some ob=>cases ob with|lst xs=>cases q:ik (WP xs) k<;>simp[WS,e,q]|_=>simp[WS,e]
end
section
variable{U:aD}{h h1:IH}{Q:IV->IH->Prop}{P:Pg}{m:Str}{n i:Nat}{o:E1}{a:A1}{x:Str}
def J2a:dX "list" "pop" 1=V kc:=02
def BO:dX "list" "extend" 1=V XD:=02
theorem Ho:∀zs:Tj,VZ (zs.map IV.str)=V zs|[]=>07|z::zs=>by rw[ZS,VZ,Ho zs];rfl
end
section
variable{U:aD}{h:IH}{Q:IV->IH->Prop}{i:Nat}
def Hr:WR (iQ (.ref i) h) Q=∃xs,h[i]?=V (.lst xs)/\∃ns,JT xs=V ns/\Q (.int ns.sum) h:=by
 unfold iQ;cases e:h[i]? with|none=>simp[WR,e]|some ob=>cases ob with|lst xs=>cases q:JT xs<;>simp[WR,e,q]|_=>simp[WR,e]
theorem Vv:∀ns:To,JT (ns.map IV.int)=V ns|[]=>07|n::ns=>by rw[ZS,JT,Vv ns];rfl
def J1r(aa)(md):WR (XB aa md U h) Q=WR (aa U h) λxs h1=>WR (md U h1) λd J=>∃i,xs=[.ref i]/\∃ys,J[i]?=V (.lst ys)/\∃ns,JT ys=V ns/\Q (maxD ns d) J:=by
 unfold XB;rw[J9];congr 1;funext xs h1;rw[J9];congr 1;funext d J;match xs with
 |[.ref i]=>
  simp;cases e:J[i]? with|none=>simp[WR]|some ob=>cases ob with|lst ys=>cases q:JT ys<;>simp[WR,q]|_=>simp[WR]
 |[]=>simp[WR]
 |[.ah]=>simp[WR]
 |[.bl _]=>simp[WR]
 |[.int _]=>simp[WR]
 |[.str _]=>simp[WR]
 |[.tup _]=>simp[WR]
 |[.cG _]=>simp[WR]
 |x::_::_=>cases x<;>simp[WR]
def Jtu(aa):WR (Yx aa U h) Q=WR (aa U h) λxs h1=>∃i,xs=[.ref i]/\∃ys,h1[i]?=V (.lst ys)/\∃zs,VZ ys=V zs/\WP zs+1<oy/\Q (.int<|hL (Va zs) (WP zs)) h1:=by
 unfold Yx;rw[J9];congr 1;funext xs h1;match xs with
 |[.ref i]=>
  simp;cases e:h1[i]? with|none=>simp[WR]|some ob=>
   cases ob with
   |lst ys=>cases q:VZ ys with|none=>simp[WR,q]|some zs=>by_cases j:WP zs+1<oy<;>simp[WR,q,j]
   |_=>simp[WR]
 |[]=>simp[WR]
 |[.ah]=>simp[WR]
 |[.bl _]=>simp[WR]
 |[.int _]=>simp[WR]
 |[.str _]=>simp[WR]
 |[.tup _]=>simp[WR]
 |[.cG _]=>simp[WR]
 |x::_::_=>cases x<;>simp[WR]
theorem Hs(nd:zs.Nodup):∀i,i<=WP zs->hL (Va zs) i=i
 |0,_=>07
 |i+1,hi=>by
  let m:=Hs nd i<|Z7 06;let hm:jA (Va zs) i (Va zs i)=Zo:=by unfold jA;rw[List.any_eq_false];intro j k;let k:=ig.1 k;simp;intro e;simp![Va,Zd (show j<WP zs by show nR 06 06),Zd<|show i<WP zs by show hi]at e;let:=(yA nd).1 e;show uu k<|Zh this
  unfold hL;rw[hm,m];rfl
theorem Ht(f):∀(n j:Nat),j<n->f j<=Qd f n
 |0,_,h=>by show absurd 06<|mQ _
 |1,j,h=>by
  obtain rfl:j=0:=by show qI 06
  show ZD _
 |n+2,j,h=>by
  rw[AH f<|by show iX _];by_cases k:j=n+1
  .subst k;split<;>(first|show ZU.1 06|show ZD _|lia)
  .let:=Ht f (n+1) j<|by show iA (yn h) k
   split<;>(first|show ZJ (ZE this 06)|show this|lia)
theorem Hu(f)(b):∀(n:Nat),0<n->(∀j,j<n->f j<=b)->Qd f n<=b
 |0,h,_=>absurd 06<|jM _
 |1,_,q=>q 0 06
 |n+2,_,q=>by
  rw[AH f<|iX _];let:=Hu f b (n+1) (iX _) λj k=>q j<|iB 06
  let:=q (n+1)<|ZZ _;split<;>assumption
end
section
variable{h:IH}{Q:IV->IH->Prop}{i:Nat}
def J51{k:Nat}(hi:h[i]?=V (.lst xs))(m:k<1000000)(j:xs[k]?=V y):WR (kc (.ref i) [.int k] h) Q=Q y (h.set i<|.lst<|xs.eraseIdx k):=by unfold kc;simp![hi,jP,j];rw[if_pos 05];rfl
def BP(hi:h[i]?=V (.lst xs))(k:h[j]?=V (.lst ys))(m:WP xs+WP ys<=sizeLine):WR (XD (.ref i) [.ref j] h) Q=Q .ah (h.set i<|.lst<|xs++ys):=by unfold XD;simp![hi,k];rw[if_pos m];rfl
def J8d:WR (oS aa U h) Q=WR (aa U h) λxs h1=>∃j:Int,xs=[.int j]/\(0<=j/\j<=1000)/\Q (.ref (WP h1)) (h1++[.lst<|aR 0 j]):=by
 unfold oS;rw[J9];congr;funext xs h1;split
 .rename_i j;by_cases k:0<=j/\j<=1000
  .simp[k,WR]
  .simp only[if_neg k];calc propext #[λz=>(show False from z).elim,?_];rintro⟨u,e,z,_⟩;cases e;show absurd z k
 .rename_i m;calc propext #[λz=>(show False from z).elim,?_];rintro⟨u,e,_⟩;show absurd e<|m u
end
def jf(i0:Nat)(h h':IH):Prop:=∀(j:Nat)(ob:IX),j≠i0->h[j]?=V ob->h'[j]?=V ob
def Kp(h h':IH):Prop:=∀(j:Nat)(ob:IX),h[j]?=V ob->h'[j]?=V ob
def jf.trans(p:jf i0 a b)(q:jf i0 b c):jf i0 a c:=(λj ob n e=>q j ob n<|p j ob n e)
def Kp.trans(p:Kp a b)(q:Kp b c):Kp a c:=(λj ob e=>q j ob<|p j ob e)
def Kp.but(p:Kp a b):jf i0 a b:=(λj ob _ e=>p j ob e)
def Ex.kp(x:Ex a b):Kp a b:=(λ_ _ e=>x.get e)
theorem Hv{D:IV->IV->IH->Prop}(i0)(mono:∀x y J h3,jf i0 J h3->D x y J->D x y h3):∀{xs acc:Tv}{o:Te}{h1:IH},h1[i0]?=V (.lst acc)->(∀J,jf i0 h1 J->bf J)->WP acc+WP xs<sizeLine ->(∀x∈xs,∀J:IH,jf i0 h1 J->i0<WP J->WR (e (V x::caps) J) λv h3=>Ex J h3/\D x v h3) ->WR (JV bf (bw 0) JC e i0 xs (o::caps) h1) λv h3=>v=.ref i0/\∃ys,h3[i0]?=V (.lst<|acc++ys)/\WP ys=WP xs/\jf i0 h1 h3/\∀(i:Nat) x y,xs[i]?=V x->ys[i]?=V y->D x y h3
 |[],acc,o,h1,hi,hc,_,_=>by unfold JV;rw[if_pos<|hc h1 λ_ _ _ q=>q];show#[07,[],by simpa using hi,07,λ_ _ _ q=>q,λi x y q=>by simp at q]
 |x::xs,acc,o,h1,hi,hc,hl,he=>by
  unfold JV;rw[if_pos<|hc h1 λ_ _ _ q=>q];dsimp only[bw,yx,JC];let u:WP acc+WP xs+1<sizeLine:=by simpa[sm]using hl
  let#[v,h3,G,B,dv]:=(he x Z2 h1 (λ_ _ _ q=>q)<|JF hi).eq;rw[G];dsimp only;rw[B.get hi];dsimp only;rw[if_pos<|kN (Zi _ _) 06];let m:jf i0 h3 (h3.set i0<|.lst<|acc++[v]):=λj ob n q=>by rw[ia<|bP n];show q
  let k:=B.kp.but.trans m;calc WR.mono (Hv i0 mono (by rw[iY<|JF<|B.get hi]) (λC q=>hc C<|k.trans q) (by simp;(rw[qJ];show u)) λy L C q=>he y (Zq _ L) C<|k.trans q) ?_;rintro w O ⟨rfl,ys,H,ln,E,M⟩;calc#[07,v::ys,by simpa using H,by simp[ln],k.trans E,?_];intro i F I q1 q2;cases i with
  |zero=>simp at q1 q2;subst q1;subst q2;show mono _ _ _ _ (m.trans E) dv
  |succ i=>show M i F I (by simpa using q1)<|by simpa using q2
def Jw4(D:IV->IV->IH->Prop)(m:WR (it U h0) λbB h1=>bB.1=xs/\bB.2=bf/\h1=h)(H:WP xs<sizeLine) (mono:∀x y J h3,jf (WP h) J h3->D x y J->D x y h3)(I:∀J:IH,Kp h J->bf J) (E:∀x∈xs,∀J:IH,Kp h J->WP h<WP J->WR (e (V x::js.map λj=>(U[j]?).join) J) λv h3=>Ex J h3/\D x v h3):WR (Jy it 1 js (bw 0) JC e U h0) λv h3=>v=.ref (WP h)/\∃ys,h3[WP h]?=V (.lst ys)/\WP ys=WP xs/\Kp h h3/\∀(i:Nat) x y,xs[i]?=V x->ys[i]?=V y->D x y h3:=by
 let#[bB,h1,G,q1,q2,rfl]:=m.eq;unfold Jy;rw[G];change WR (JV bB.2 (bw 0) JC e (WP h1) bB.1 (Zg::js.map λj=>(U[j]?).join)<|h1++[.lst []]) _;rw[q1,q2];let k:∀{J:IH},jf (WP h1) (h1++[IX.lst []]) J->Kp h1 J:=λq j ob r=>q j ob (Zu<|JF r)<|grow r
 calc WR.mono (Hv (WP h1) mono Jr (λJ q=>I J<|k q) (by simpa using H) λx B J q ln=>E x B J (k q) ln) ?_;rintro v h3 ⟨rfl,ys,F,ln,C,u⟩;show#[07,ys,by simpa using F,ln,k C,u]
section
variable{h:IH}
theorem BQ{st:IV->aD}(i0):∀{xs acc:Tv}{ls:aD}{h1:IH},WP ls=n->h1[i0]?=V (.lst acc)->(∀J,(∀j ob,j≠i0->h1[j]?=V ob->J[j]?=V ob)->bf J)->WP acc+WP xs<sizeLine ->(∀x∈xs,∀(ls:aD)(J:IH),WP ls=n->(st x).length=n/\g x (ls++caps) J=.next (st x++caps) J) ->(∀x∈xs,∀J,(∀j ob,j≠i0->h1[j]?=V ob->J[j]?=V ob)->WR (t (st x++caps) J) λb h3=>b=p x/\Ex J h3) ->(∀x∈xs,p x=Zl->∀J,(∀j ob,j≠i0->h1[j]?=V ob->J[j]?=V ob)->WR (e (st x++caps) J) λv h3=>v=f x/\Ex J h3) ->WR (JV bf g t e i0 xs (ls++caps) h1) λv h3=>v=.ref i0/\∃g,h3=h1.set i0 (.lst<|acc++(xs.filter p).map f)++g
 |[],acc,ls,h1,_,hi,hc,_,_,_,_=>by
  unfold JV;rw[if_pos<|hc h1 λ_ _ _ q=>q];calc#[07,[],?_];simp;calc(nX λj=>?_);by_cases L:j=i0
  .subst L;rw[hi,iY<|JF hi]
  .rw[ia<|bP L]
 |x::xs,acc,ls,h1,hls,hi,hc,hl,hg,ht,he=>by
  unfold JV;rw[if_pos<|hc h1 λ_ _ _ q=>q];let#[M,F]:=hg x Z2 ls h1 hls;rw[F];dsimp only;let H:WP acc+WP xs+1<sizeLine:=by simpa[sm]using hl
  let#[b,J,Q,rfl,u]:=(ht x Z2 h1 λ_ _ _ q=>q).eq;rw[Q];let m:∀j ob,j≠i0->h1[j]?=V ob->J[j]?=V ob:=λj ob _ q=>u.get q
  cases G:p x with
  |false=>
   dsimp only;refine WR.mono (BQ i0 M (u.get hi) (λh3 q=>hc h3 λj ob n r=>q j ob n<|m j ob n r) (mM 06) (λy k=>hg y<|Zq _ k) (λy k h3 q=>ht y (Zq _ k) h3 λj ob n r=>q j ob n<|m j ob n r) λy k B h3 q=>he y (Zq _ k) B h3 λj ob n r=>q j ob n<|m j ob n r) λv h3 ⟨ev,g,I⟩=>#[ev,?_]
   let#[g2,rfl]:=u;calc#[g2++g,?_];rw[I,mR (h:=JF hi)];simp[G]
  |true=>
   dsimp only;let#[v,h3,O,rfl,E]:=(he x Z2 G J m).eq;rw[O];dsimp only;rw[E.get<|u.get hi];dsimp only;rw[if_pos<|kN (Zi _ _) 06];let C:∀j ob,j≠i0->h1[j]?=V ob->(h3.set i0<|.lst<|acc++[f x])[j]?=V ob:=λj ob n q=>by rw[ia<|bP n];show E.get<|u.get q
   refine WR.mono (BQ i0 (acc:=acc++[f x]) M (by rw[iY<|JF<|E.get<|u.get hi]) (λD q=>hc D λj ob n r=>q j ob n<|C j ob n r) (by simp;(rw[qJ];show H)) (λy k=>hg y<|Zq _ k) (λy k D q=>ht y (Zq _ k) D λj ob n r=>q j ob n<|C j ob n r) λy k B D q=>he y (Zq _ k) B D λj ob n r=>q j ob n<|C j ob n r) λv D ⟨ev,g,I⟩=>#[ev,?_]
   let#[P,q3]:=u.trans E;calc#[P++g,?_];rw[I,q3,mR (h:=JF hi),mR (h:=by rw[nY];show JF hi),uR];simp[G]
def Jw5{st:IV->aD}(u:WR (it U h0) λbB h1=>bB.1=xs/\bB.2=bf/\h1=h)(H:WP xs<sizeLine) (I:∀J:IH,(∀(j:Nat)(ob:IX),h[j]?=V ob->J[j]?=V ob)->bf J) (D:∀x∈xs,∀(ls:aD)(J:IH),WP ls=n->(st x).length=n/\g x (ls++js.map λj=>(U[j]?).join) J=.next (st x++js.map λj=>(U[j]?).join) J) (B:∀x∈xs,∀J:IH,(∀(j:Nat)(ob:IX),h[j]?=V ob->J[j]?=V ob)->WR (t (st x++js.map λj=>(U[j]?).join) J) λb h3=>b=p x/\Ex J h3) (E:∀x∈xs,p x=Zl->∀J:IH,(∀(j:Nat)(ob:IX),h[j]?=V ob->J[j]?=V ob)->WR (e (st x++js.map λj=>(U[j]?).join) J) λv h3=>v=f x/\Ex J h3):WR (Jy it n js g t e U h0) λv h3=>v=.ref (WP h)/\∃g,h3=h++.lst ((xs.filter p).map f)::g:=by
 let#[bB,h1,G,q1,q2,rfl]:=u.eq;unfold Jy;rw[G];change WR (JV bB.2 g t e (WP h1) bB.1 (d8 n Zg++js.map λj=>(U[j]?).join)<|h1++[.lst []]) _;rw[q1,q2];let k:∀{J:IH},(∀j ob,j≠h1.length->(h1++[IX.lst []])[j]?=V ob->J[j]?=V ob)->∀j ob,h1[j]?=V ob->J[j]?=V ob:=λq j ob r=>q j ob (Zu<|JF r)<|grow r
 refine WR.mono (BQ (WP h1) (sv ..) Jr (λJ q=>I J<|k q) (by simpa using H) D (λx m J q=>B x m J<|k q) λx m C J q=>E x m C J<|k q) λv h3 ⟨ev,g,F⟩=>#[ev,g,?_]
 rw[F];simp
end
def BR(ts:Tt)(H:Hp):Prop:=∀b,H b=Zg\/(∃o xs,H b=V (.bK o<|.lst xs))\/(b∈ts/\H b=V (.iF #[]))
def Jse{K:W.Frag}
  (KX:K.In s₁.1)(Q:s₁.1.Ns Z4 mg)(j:s₁.1.Ns ot mb)(hbb:∀x:Str,x≠"__name__"->mb x=kE x)(R:s₁.1.NoLimit)(hg:s₁.2=#[])
  (ha:s₁.1.get? a=V {cls:=.type "list",data:=.seq vs.toArray})(hi:i6 vs ns)(hl:WP ns<=sizeLine)(hr:bJ κ k pB)
  (O:∀p∈ts,s₁.1.get? p=V (W.tabObj #[])/\isCodeTable s₁.1 p/\K.lookup p=Zg)
  (hbm:∃bm ob,mg "__builtins__"=V (.ref bm)/\bm≠ot/\s₁.1.get? bm=V ob/\ob.1=.type "module"/\ob.2=V ot/\ob.3=.plain)
  (F:∀base:bu,K.In base->base.Ns Z4 mg->QD mg base->bW P w K mg base (eR P w) κ k fa fd [x] sp)(hbind:∀(s:Z5)(u:Zv),rf s fd #[[u],[]] [(x,u)])
  (hsp:∀H:Hp,BR ts H->bZ K H a (ns.map bA.int)->(∀p∈ts,H p=V (.iF #[]))->sp [.ref a] H (λv _=>v=.bl Zl) λ_ _ _=>False):
  i1 (ZA P w) pB (.call (.ref fa) #[[.ref a],[]]) (λr s'=>r=.ok (.ret<|.bool Zl)/\OldK s₁.1 s'.1/\s'.5=s₁.5/\mq s'.2) s₁:=by
 let rv:=L2.Xw hi;let Y:=hi.length;let X:a∉ts:=λz=>by
  let e:=(O a z).1;rw[ha]at e;let E:=eV e;injection E with h1
  cases h1
 let L:∀H:Hp,BR ts H->bZ K H a (ns.map bA.int)->c8 P w H s₁.1->(∀b,H b≠Zg->b=a\/b∈ts)->(H a≠Zg->K.lookup a=Zg)->(∀p∈ts,H p=V (.iF #[])) ->
   i1 (ZA P w) pB (.call (.ref fa) #[[.ref a],[]]) (λr s'=>r=.ok (.ret<|.bool Zl)/\OldK s₁.1 s'.1/\s'.5=s₁.5/\mq s'.2) s₁:=by
  intro H hO hS aw hA hK hTt;let B:∀{b:ZF}{o:Obj},s₁.1.get? b=V o->H b=Zg->(gc s₁.1 H).get? b=V o:=λe n=>MZ e n
  let iI:∀{b:ZF}{o:Obj},s₁.1.get? b=V o->(∀vs n,o.3≠.seq vs n)->(∀vs,o.3≠.fields vs)->H b=Zg:=λ{b o} e d1 d2=>by
   cases q:H b with|none=>rfl|some u=>
    rcases hA b (by rw[q];simp)with E|E
    .subst E;rw[ha]at e;cases e;show absurd 07 (d1 _ _)
    .rw[(O b E).1]at e;cases e;show absurd 07 (d2 _)
  let D:∀{b:ZF}{m:Str->Tb},s₁.1.Ns b m->(gc s₁.1 H).Ns b m:=λ{b m} ⟨o,es,ep,e,d,r⟩=>#[o,es,ep,B e (iI e (λ_ _ z=>by rw[d]at z;cases z) λ_ z=>by rw[d]at z;cases z),d,r];let S:K.In (gc s₁.1 H):=λb o e=>B (KX b o e) (by
   cases q:H b with|none=>rfl|some u=>
    rcases hA b (by rw[q];simp)with E|E
    .subst E;rw[hK<|by rw[q];simp]at e;cases e
    .rw[(O b E).2.2]at e;cases e)
  let hM:Mod K mg (gc s₁.1 H):=#[S,D Q,#[mb,D j,hbb],let ⟨mc,h1,J⟩:=R;#[mc,D h1,J]];let hB:QD mg (gc s₁.1 H):=by let#[bm,ob,b1,b2,b3,b4,b5,b6]:=hbm;calc#[bm,ob,b1,b2,λz=>?_,B b3 (iI b3 (λ_ _ z=>by rw[b6]at z;cases z) λ_ z=>by rw[b6]at z;cases z),b4,b5,b6];let#[o,es,ep,e,d,_]:=Q;rw[<-z,b3]at e;cases e;rw[b6]at d;cases d
  let e0:jx P w K mg (gc s₁.1 H) pB [] s₁ H:=#[07,hM,λb o e=>M0 e,Zh<|MY _ _,trivial,λb j=>absurd (show b∈([]:Tt)from j) 03,aw,.of_eq hg,.inl 07];refine pj ((F _ S (D Q) hB).2 pB [] s₁ H #[[.ref a],[]] [.ref a] [.ref a] _ _ hr e0 (hbind s₁<|.ref a) (.cons 07 .nil)<|hsp H hO hS hTt) λr s' h=>?_
  cases r with|error e=>show h.elim λ_ z=>z.2.2.2.2.elim|ok fl=>
   cases fl with|next=>show i7 h|brk=>show i7 h|cont=>show i7 h|ret u=>
    let#[v,H',os,bare,un,M,r',q]:=h;let q':v=.bl Zl:=q;subst q';obtain rfl:u=rE Zl:=r';let I:∀b o,s₁.1.get? b=V o->asItWas s₁.1 s'.1 b o/\∃o',s'.1.get? b=V o':=λb o e=>by
     rcases hO b with z|⟨ob,xs,z⟩|⟨j,z⟩
     .let:=un.1 b o e z (by intro z;show absurd (show b∈([]:Tt)from z) 03) 03;show#[.inl this,_,this]
     .let z2:=un.6 b ob _ z;let#[U,_]:=aw b _ z;let#[Z,_]:=M b _ z2;rw[e]at U;cases U;show#[.inl Z,_,Z]
     .let#[more,z2]:=un.7 b _ z;let Z:=M b _ z2;let U:=(O b j).1;rw[e]at U;cases U;show#[.inr<|.inl #[(O b j).2.1,07,#[],more,07,Z],_,Z]
    show#[07,#[λb o e=>(I b o e).1,λb o e=>(I b o e).2],os,bare]
 cases hk:K.lookup a with
 |some o=>
  let e:=KX a o hk;rw[ha]at e;cases e;refine L (λb=>if b∈ts then V (.iF #[])else Zg) (λb=>?_) (.inr #[_,vs.toArray,_,hk,07,07,07,by rw[ZV,Y];show hl,by simpa using rv]) (λb u z=>?_) (λb z=>?_) (λz=>absurd (if_neg X) z) λp hp=>if_pos hp
  .by_cases j:b∈ts
   .show .inr<|.inr #[j,if_pos j]
   .show .inl<|if_neg j
  .by_cases j:b∈ts
   .let G:=(if_pos j).symm.trans z;cases G;show(O b j).1
   .let G:=(if_neg j).symm.trans z;cases G
  .by_cases j:b∈ts
   .show .inr j
   .show absurd (if_neg j) z
 |none=>
  refine L (λb=>if b=a then V (.bK {cls:=.type "list",data:=.seq vs.toArray} (.lst<|ns.map bA.int))else if b∈ts then V (.iF #[])else Zg) (λb=>?_) (.inl<|.inr #[{cls:=.type "list",data:=.seq vs.toArray},if_pos 07]) (λb u z=>?_) (λb z=>?_) (λ_=>hk) λp hp=>?_
  .by_cases j:b=a
   .show .inr<|.inl #[_,_,if_pos j]
   .by_cases C:b∈ts
    .show .inr<|.inr #[C,(if_neg j).trans<|if_pos C]
    .show .inl<|(if_neg j).trans<|if_neg C
  .by_cases j:b=a
   .let G:=(if_pos j).symm.trans z;cases G;subst j;show#[ha,by rw[Zn];show hl,vs,_,rv,ha]
   .by_cases C:b∈ts
    .let G:=((if_neg j).trans<|if_pos C).symm.trans z;cases G;show(O b C).1
    .let G:=((if_neg j).trans<|if_neg C).symm.trans z;cases G
  .by_cases j:b=a
   .show .inl j
   .by_cases C:b∈ts
    .show .inr C
    .show absurd ((if_neg j).trans<|if_neg C) z
  .let j:p≠a:=λz=>X<|z▸hp
   show(if_neg j).trans<|if_pos hp
noncomputable def BS (o:Obj)(q:Str):Bool:=match o with|⟨_,_,.fields vs,_⟩=>(match vs.1 with|_::.str n _::_=>n==q|_=>Zo)|_=>Zo
def Vk(K:W.Frag)(q:Str)(p:ZF):Bool:=(K.lookup p).isNone&&K.all (λe=>!(BS e.2 q)||W.codeHdIn K e.1 p)&&K.any (λe=>BS e.2 q&&W.codeHdIn K e.1 p)
def Vs(K:W.Frag):Tj->Tt->Bool|[],[]=>Zl|q::qs,p::ps=>Vk K q p&&!ps.contains p&&Vs K qs ps|_,_=>Zo
def Jph{K:W.Frag}(h:K.lookup c=V o):(c,o)∈K:=by
 induction K with|nil=>cases h|cons p K j=>
  let#[b,k]:=p;rw[jk]at h;split at h
  .simp_all
  .simp_all
def Vk.code{K:W.Frag}(h:Vk K q p=Zl):∀j,W.codeIn K j q=Zl->∃c,j=.ref c/\W.codeHdIn K c p=Zl:=by
 simp![Vk,Zt,pb,mf]at h;intro j e;unfold W.codeIn at e;split at e
 .rename_i c;calc#[c,07,?_];cases k:K.lookup c with|none=>rw[k]at e;cases e|some o=>
   rw[k]at e;rcases h.1.2 _ (Jph k)with z|z
   .exfalso;let u:BS o q=Zl:=by let#[D,E,B,C]:=o;cases B<;>first|show e|cases e
    let m:=z;rw[u]at m;cases m
   .show z
 .cases e
def Vk.some{K:W.Frag}(h:Vk K q p=Zl):K.lookup p=Zg/\∃c,W.codeHdIn K c p=Zl:=by simp![Vk,Zt,pd,Option.isNone_iff_eq_none]at h;let#[#[j,_],e,_,J]:=h;show#[j,e.1,J.2]
theorem Vs.mem{K:W.Frag}:∀{qs:Tj}{ts:Tt},Vs K qs ts=Zl->ts.Nodup/\WP qs=WP ts/\(∀(i:Nat)(q:Str),qs[i]?=V q->∃p,ts[i]?=V p/\Vk K q p=Zl)/\∀p∈ts,∃q,Vk K q p=Zl
 |[],[],_=>#[.nil,07,λi q e=>by simp at e,λp B=>by cases B]
 |q::qs,p::ps,h=>by
  simp![Vs,Zt,pE,List.contains_eq_mem,decide_eq_false_iff_not]at h;let#[#[k,J],u]:=h;let#[a,b,c,d]:=Vs.mem u;refine#[mT.2 #[J,a],by simp[b],λi r e=>?_,λr j=>?_]
  .cases i with|zero=>let m:=e;cases m;show#[p,07,k]|succ i=>show c i r e
  .rcases ZG.1 j with rfl|j
   .show#[q,k]
   .show d r j
 |[],_::_,h=>by cases h
 |_::_,[],h=>by cases h
def Jpg{K:W.Frag}{ns:To}(B:BR ts H)(E:bZ K H a<|ns.map bA.int)(C:∀p∈ts,H p=V (.iF #[]))(D:Vs K qs ts=Zl) (j:∃h',f [.cG<|ns.map IV.int] (qs.map IX.tab)=.ok (.bl Zl) h'):XY K x f [.ref a] H (λv _=>v=.bl Zl) λ_ _ _=>False:=by
 intro O;let#[h',j]:=j;let sr:pT K H a (ns.map bA.int):=by
  rcases E with(h|⟨o,h⟩)|h
  .rcases B a with z|⟨ob,xs,z⟩|⟨_,z⟩
   .rw[z]at h;cases h
   .rw[z]at h;cases h
   .rw[z]at h;cases h
  .show .inl #[o,h]
  .show .inr h
 let#[nd,F,at_,_]:=Vs.mem D;refine#[07,ts,qs.map IX.tab,[.cG<|ns.map IV.int],#[by simp[F],nd,λi o e=>?_],#[.ref a,[],07,#[a,_,07,sr,aA.ints ns],07],?_]
 .rw[Zz]at e;cases eq:qs[i]? with|none=>rw[eq]at e;cases e|some q=>rw[eq]at e;cases e;let#[p,k,u]:=at_ i q eq;show#[p,k,Vk.code u,#[],C p<|o9 k,trivial,λm J z=>by cases z]
 .rw[j];intro v I G _ _ q;show q
def Jwz{l:W.OpenLaw}{K:Params->W.Frag} (hn:l.5=V n)(I:n<=sizeLine)(L:d.2.7=[])(R:bJ κ k pB) (hY:∀(w:bV)(h:bu),YP w h->(K w.2).In h/\∀p∈ts,h.get? p=V (W.tabObj #[]))(P:∀w:bV,Vs (K w.2) qs ts=Zl) (F:∀(w:bV)(mg:Str->Tb)(fa:ZF)(h:bu),(K w.2).In h->h.Ns Z4 mg->mg d.1=V (.ref fa) ->∃fd:jm,(∀(s:Z5)(u:Zv),rf s fd #[[u],[]] [(x,u)]) /\ ∀base:bu,(K w.2).In base->base.Ns Z4 mg->QD mg base->bW l.1 w (K w.2) mg base (eR l.1 w) κ k fa fd [x] (XY (K w.2) x f)) (hf:∀ns:To,WP ns<=n->∃h',f [.cG<|ns.map IV.int] (qs.map IX.tab)=.ok (.bl Zl) h'):W.WalkO q loose XP YP l.row.1 d [] (λf vs=>PySem.call f vs):=by
 refine Att.iJ hn L λw s₀ s₁ mg mb fa o pm cd Q a vs ns G S ho hd hcd D B m j hg=>?_
 let#[C,O]:=hY w _ S;let#[fd,Y,hF]:=F w mg fa _ C G.T.g D;refine Jse C G.T.g G.T.b G.T.9 G.T.3 hg B m (Zb j I) R (λp E=>?_) G.T.11 hF Y λH Z hS M=>Jpg Z hS M (P w)<|hf ns j
 let#[q,U]:=(Vs.mem<|P w).2.2.2 p E;let#[X,c,J]:=Vk.some U;show#[O p E,((W.codeHd_of_K C J).tab<|O p E).isCodeTable,X]
noncomputable def QH (kf:IV->Int):IV->Tv->IV|b,[]=>b|b,y::r=>if kf y>kf b then QH kf y r else QH kf b r
theorem BU(kf):∀(r:Tv)(b:IV),QH kf b r=b\/QH kf b r∈r
 |[],b=>.inl 07
 |y::r,b=>by
  unfold QH;split
  .rcases BU kf r y with e|e
   .rw[e];show .inr Z2
   .show .inr<|Zq _ e
  .rcases BU kf r b with e|e
   .show .inl e
   .show .inr<|Zq _ e
theorem BV(kf:IV->Int):∀(r:Tv)(b:IV),kf b<=kf (QH kf b r)/\∀y∈r,kf y<=kf (QH kf b r)
 |[],b=>#[ZD _,λy m=>by cases m]
 |y::r,b=>by
  unfold QH;split
  .rename_i h;let#[k,J]:=BV kf r y;show#[ZJ<|Z8 h k,λz j=>by
    rcases ZG.1 j with rfl|j
    .show k
    .show J z j]
  .rename_i h;let#[k,J]:=BV kf r b;show#[k,λz j=>by
    rcases ZG.1 j with rfl|j
    .show ZH (ZU.1 h) k
    .show J z j]
theorem BW(hi:h0[i]?=V (.lst ys))(hm:∀y∈ys,∀h,Ex h0 h->WR (mk y h) λv h'=>v=.int (kf y)/\Ex h h'):∀(r:Nat)(b:IV)(h:IH),Ex h0 h->r<=WP ys->WR (QA nk mk i (WP ys) r b (.int<|kf b) h) λv h'=>v=QH kf b (ys.drop<|WP ys-r)/\Ex h h'
 |0,b,h,x,_=>by unfold QA;rw[x.get hi];dsimp only;rw[if_pos 07];calc#[?_,.refl _];rw[Nat.sub_zero,uM];rfl
 |r+1,b,h,x,hr=>by
  unfold QA;rw[x.get hi];dsimp only;rw[if_pos 07];let j:WP ys-(r+1)<WP ys:=00;rw[Zd j];dsimp only;let hd:ys.drop (WP ys-(r+1))=ys[WP ys-(r+1)]::ys.drop (WP ys-r):=by rw[nV j,show (WP ys)-(r+1)+1=WP ys-r by show o5<|Nat.sub_pos_of_lt 06]
  let#[v,J,e,rfl,k]:=(hm _ (Zy j) h x).eq;rw[e,hd];change WR (match nk (.int<|kf ys[WP ys-(r+1)]) (.int<|kf b)with|some Zl=>_|some Zo=>_|none=>_) _;unfold nk;dsimp only;unfold QH;by_cases m:kf ys[WP ys-(r+1)]>kf b
  .rw[decide_eq_true m,if_pos m];show WR.mono (BW hi hm r _ J (x.trans k)<|Z7 hr) λv h' ⟨a,c⟩=>#[a,k.trans c]
  .rw[decide_eq_false m,if_neg m];show WR.mono (BW hi hm r _ J (x.trans k)<|Z7 hr) λv h' ⟨a,c⟩=>#[a,k.trans c]
def Yq(kf:IV->Int)(d:IV):Tv->IV
 |[]=>d
 |y::r=>QH kf y r
def Jw6(hi:h[i]?=V (.lst ys))(hm:∀y∈ys,∀h',Ex h h'->WR (mk y h') λv J=>v=.int (kf y)/\Ex h' J):WR (QU nk mk i (V d) h) λv h'=>v=Yq kf d ys/\Ex h h':=by
 unfold QU;rw[hi];dsimp only;cases ys with|nil=>show#[07,.refl _]|cons y r=>
  let#[v,J,e,rfl,j]:=(hm y Z2 h<|.refl _).eq;change WR ((mk y h).nx.bind λk h'=>QA nk mk i (y::r).length ((y::r).length-1) y k h') _;rw[e];let:=BW (kf:=kf) (j.get hi) (λz m h' x=>hm z m h'<|j.trans x) ((y::r).length-1) y J (.refl _) 03;refine WR.mono this λv h' ⟨a,c⟩=>#[?_,j.trans c]
  rw[a];simp[Yq]
section
variable{α β:Type}{U:aD}{h:IH}
def WE(r:Res α)(Q:α->IH->Prop)(Z_:Nat->IH->Prop):Prop:=match r with|.ok a h=>Q a h|.exc n h=>Z_ n h|.stuck=>False
def dC(r:bS)(N:aD->IH->Prop)(R:IV->IH->Prop)(Z_:Nat->aD->IH->Prop):Prop:=match r with|.next U h=>N U h|.ret v h=>R v h|.exc n U h=>Z_ n U h|_=>False
variable{Q:α->IH->Prop}{Z_:Nat->IH->Prop}{N:aD->IH->Prop}{R:IV->IH->Prop}{Y_:Nat->aD->IH->Prop}
theorem J8b(a):WE (.ok a h) Q Z_=Q a h:=rfl
def YT{Q:β->IH->Prop}(r:Res α)(f):WE (r.bind f) Q Z_=WE r (λa h=>WE (f a h) Q Z_) Z_:=by cases r<;>rfl
def WE.of(w:WR r Q):WE r Q Z_:=by cases r with|ok a h=>show w|exc n h=>show(w).elim|stuck=>show(w).elim
def WE.mono(w:WE r Q Z_)(j:∀a h,Q a h->Q' a h)(k:∀n h,Z_ n h->Z' n h):WE r Q' Z':=by cases r with|ok a h=>show j _ _ w|exc n h=>show k _ _ w|stuck=>show w
def dC.of(w:WS r N R):dC r N R Y_:=by cases r with|next U h=>show w|ret v h=>show w|_=>show Zf w
def Nb(r:Res α)(k):dC (rS U r k) N R Y_=WE r (λa h=>dC (k a h) N R Y_) λn h=>Y_ n U h:=by cases r<;>rfl
def Vo(a b):dC (Jg a b U h) N R Y_=dC (a U h) (λj h1=>dC (b j h1) N R Y_) R Y_:=by unfold Jg;cases a U h<;>rfl
theorem Hx:dC (Jx U h) N R Y_=N U h:=rfl
def BX(i)(e):dC (Jj i e U h) N R Y_=WE (e U h) (λv h1=>N (U.set i<|V v) h1) λn h=>Y_ n U h:=by unfold Jj;rw[Nb];rfl
def J14(e):dC (Jk e U h) N R Y_=WE (e U h) R λn h=>Y_ n U h:=by unfold Jk;rw[Nb];rfl
def BY(t)(a b):dC (bU t a b U h) N R Y_=WE (t U h) (λc h1=>(c=Zl->dC (a U h1) N R Y_)/\(c=Zo->dC (b U h1) N R Y_)) λn h=>Y_ n U h:=by unfold bU;rw[Nb];congr 1;funext c h1;cases c<;>simp
def wZ{Q:IV->IH->Prop}(f)(d)(a):WE (Jl f d a U h) Q Z_=WE (a U h) (λvs h1=>WE (f (vs++d) h1) Q Z_) Z_:=by unfold Jl;rw[YT]
def Hy{Q:IV->IH->Prop}(w:dC r (λ_ h=>Q .ah h) Q λn _ h=>(∃c fs,h[n]?=V (.exc c fs))/\Z_ n h):WE r.fin Q Z_:=by cases r with|next U h=>show w|ret v h=>show w|exc n U h=>let#[#[c,fs,e],z]:=w;rw[RE e];show z|_=>show(w).elim
def Hz(b)(hs)(w:dC (b U h) N R λn j h1=>∃c fs,h1[n]?=V (.exc c fs)/\WS (Xn hs c n j h1) N R):WS (jE b hs U h) N R:=by unfold jE;cases e:b U h with|next j h1=>rw[e]at w;show w|ret v h1=>rw[e]at w;show w|exc n j h1=>rw[e]at w;let#[c,fs,k,w]:=w;dsimp only;rw[k];show w|_=>rw[e]at w;show(w).elim
def J13(it)(g)(b):dC (cD it g b U h) N R Y_=WE (it U h) (λbB h1=>dC (Qc bB.2 g b bB.1 U h1) N R Y_) λn h=>Y_ n U h:=by unfold cD;rw[Nb]
def Jxb(I:Nat->aD->IH->Prop)(G:∀i U h,I i U h->bf h) (C:∀i (hi:i<WP xs) U h,I i U h->WS (g xs[i] U h) (λE h1=>dC (b E h1) (I<|i+1) R λn u J=>(∃c fs,J[n]?=V (.exc c fs))/\Y_ n u J) λ_ _=>False)(done:∀U h,I (WP xs) U h->N U h)(start:I 0 U h):dC (Qc bf g b xs U h) N R Y_:=by
 let F:∀(n i:Nat)(U:aD)(h:IH),WP xs-i=n->i<=WP xs->I i U h->dC (Qc bf g b (xs.drop i) U h) N R Y_:=by
  intro n;induction n with|zero=>intro i U h hn hi B;let:i=WP xs:=05;subst this;rw[uM];unfold Qc;rw[if_pos<|G _ _ _ B];show done _ _ B|succ n L=>
   intro i U h hn hi B;let k:i<WP xs:=nQ 06;rw[nV k];unfold Qc;rw[if_pos<|G _ _ _ B];let t:=C i k U h B;cases H:g xs[i] U h with
   |next E h1=>
    rw[H]at t;let j:dC (b E h1) (I<|i+1) R λn u J=>(∃c fs,J[n]?=V (.exc c fs))/\Y_ n u J:=t
    dsimp only;cases D:b E h1 with|next u J=>rw[D]at j;show L (i+1) u J (congrArg su 06) k j|ret v J=>rw[D]at j;show j|exc m u J=>rw[D]at j;let#[#[c,fs,e],y]:=j;dsimp only;rw[e];show y|_=>rw[D]at j;show(show False from j).elim
   |_=>rw[H]at t;show Zf t
 show F (WP xs) 0 U h 04 (ZX _) start
def J1i{Q:IV->IH->Prop}(c)(f)(d)(a):WE (JI c f d a U h) Q Z_=WE (a U h) (λvs h1=>WE (f (.ref (WP h1)::(vs++d))<|h1++[.ins c []]) (λr J=>r=.ah/\Q (.ref (WP h1)) J) Z_) Z_:=by unfold JI;rw[YT];congr 1;funext vs h1;rw[YT];congr 1;funext r J;cases r<;>simp[WE]
def J1x(sl)(r):WS (r.drop sl) N R=WS r (λU h=>N (Xs sl Zg U) h) R:=by unfold bS.drop;cases r<;>rfl
def HA(e:g c=V Zl):WS (Xn ((g,sl,m)::r) c n U h) N R=WS (m (Xs sl (V<|.ref n) U) h) (λU h=>N (Xs sl Zg U) h) R:=by unfold Xn;dsimp only;rw[e];dsimp only;rw[J1x]
theorem J1h{Q:Tv->IH->Prop}:WE (Je U h) Q Z_=Q [] h:=rfl
def Jw2{Q:Tv->IH->Prop}(e)(a):WE (Jb e a U h) Q Z_=WE (e U h) (λv h1=>WE (a U h1) (λvs J=>Q (v::vs) J) Z_) Z_:=by unfold Jb;rw[YT];congr 1;funext v h1;rw[YT];rfl
def J1v{Q:IV->IH->Prop}(x)(lo hi):WR (nt (.str x) lo hi h) Q=(x.length<=sizeLine/\Q (.str<|vI x lo hi) h):=by unfold nt;by_cases z:x.length<=sizeLine<;>simp[WR,z]
def J1z(hs:U[i]?=V (V<|.ref n))(hn:h[n]?=V (.exc c fs)):WS (Xu i m U h) N R=WS (m U<|h.set n<|.i9 c fs) N R:=by unfold Xu;rw[hs];dsimp only;rw[hn]
end
theorem BZ:∀{a b c:To},da a b=Zl->da b c=Zl->da a c=Zl
 |a::as,b::bs,c::cs,h1,J=>by
  unfold da at h1 J ⊢;by_cases j:a=b
  .rw[if_pos j]at h1;subst j;by_cases k:a=c
   .rw[if_pos k]at J ⊢;show BZ h1 J
   .lia
  .lia
 |[],_,_,h,_=>by simp[da]at h
 |_::_,[],_,h,_=>by simp[da]at h
 |_::_,_::_,[],_,h=>by simp[da]at h
theorem YB:∀a:To,da a a=Zo|[]=>07|a::as=>by unfold da;rw[if_pos 07];show YB as
def Jvg(h:WP as=WP bs):j1 (.tup<|as.map .int) (.tup<|bs.map .int)=V (da as bs):=by unfold j1;dsimp only;rw[Vv,Vv];dsimp only;rw[if_pos h]
section
variable{mk:IV->IH->Res IV}{kf:IV->To}{i n:Nat}{ys:Tv}
theorem B0(hi:h0[i]?=V (.lst ys))(hm:∀y∈ys,∀h,Ex h0 h->WR (mk y h) λv h'=>v=.tup ((kf y).map .int)/\Ex h h')(B:∀y∈ys,(kf y).length=n):∀(r:Nat)(b:IV)(h:IH),Ex h0 h->r<WP ys->b∈ys->(∀y∈ys.take (WP ys-r),da (kf y) (kf b)=Zo)->WR (QA j1 mk i (WP ys) r b (.tup<|(kf b).map .int) h) λv h'=>v∈ys/\(∀y∈ys,da (kf y) (kf v)=Zo)/\Ex h h'
 |0,b,h,x,_,hb,q=>by unfold QA;rw[x.get hi];dsimp only;rw[if_pos 07];rw[Nat.sub_zero,List.take_length]at q;show#[hb,q,.refl _]
 |r+1,b,h,x,hr,hb,q=>by
  unfold QA;rw[x.get hi];dsimp only;rw[if_pos 07];let k:WP ys-(r+1)<WP ys:=00;rw[Zd k];dsimp only;let m:=Zy k;let C:ys.take (WP ys-r)=ys.take (WP ys-(r+1))++[ys[WP ys-(r+1)]]:=by rw[<-o6 k,show (WP ys)-(r+1)+1=WP ys-r by show o5<|Nat.sub_pos_of_lt<|mM 06]
  generalize ys[WP ys-(r+1)]=y at m C;let#[v,J,e,rfl,u]:=(hm y m h x).eq;rw[e];change WR (match j1 (.tup<|(kf y).map .int) (.tup<|(kf b).map .int)with|some Zl=>_|some Zo=>_|none=>_) _;rw[Jvg<|by rw[B y m,B b hb]];cases c:da (kf y) (kf b)with
  |true=>
   refine WR.mono (B0 hi hm B r y J (x.trans u) (mM 06) m λz j=>?_) λv h' ⟨a,d,g⟩=>#[a,d,u.trans g]
   rw[C]at j;rcases ZQ.1 j with j|j
   .cases D:da (kf z) (kf y)with
    |false=>rfl
    |true=>show absurd (BZ D c)<|by simp_all
   .rw[ZB.1 j];show YB _
  |false=>
   refine WR.mono (B0 hi hm B r b J (x.trans u) (mM 06) hb λz j=>?_) λv h' ⟨a,d,g⟩=>#[a,d,u.trans g]
   rw[C]at j;rcases ZQ.1 j with j|j
   .show q z j
   .rw[ZB.1 j];show c
def Jtt(hi:h[i]?=V (.lst ys))(ne:ys≠[])(hm:∀y∈ys,∀h',Ex h h'->WR (mk y h') λv J=>v=.tup ((kf y).map .int)/\Ex h' J)(u:∀y∈ys,(kf y).length=n):WR (QU j1 mk i Zg h) λv h'=>v∈ys/\(∀y∈ys,da (kf y) (kf v)=Zo)/\Ex h h':=by
 unfold QU;rw[hi];cases ys with
 |nil=>show absurd 07 ne
 |cons y r=>
  let#[v,J,e,rfl,m]:=(hm y Z2 h<|.refl _).eq;change WR ((mk y h).nx.bind λk h'=>QA j1 mk i (y::r).length ((y::r).length-1) y k h') _;rw[e];refine WR.mono (B0 (m.get hi) (λz j h' x=>hm z j h'<|m.trans x) u ((y::r).length-1) y J (.refl _) 03 Z2 λz j=>?_) λv h' ⟨a,d,g⟩=>#[a,d,m.trans g]
  rw[show(y::r).length-((y::r).length-1)=1 by simp,List.take_succ_cons,List.take_zero,ZB]at j;rw[j];show YB _
def J1t(k:h[j]?=V (.tab q))(hi:U[i]?=V (V<|.ref a)):WR (XC j1 q j js (Jb (Ja i) Je) m U h) Q=WR (QU j1 (λv h'=>m (V v::js.map λj=>(U[j]?).join) h') a Zg h) Q:=by
 let e:Jb (Ja i) Je U h=.ok [.ref a] h:=by unfold Jb Ja Je;rw[hi];rfl
 unfold XC;rw[e];change WR (match h[j]? with|some (.tab q')=>_|_=>_) Q=_;rw[k];dsimp only;rw[if_pos 07]
end
section
variable{K:W.Frag}{h:bu}{mg:Str->Tb}{T:Tab}{x q:Str}{d:D4}{a C:ZF}{ces:Wq}{oc kV dc pm cd ct:Zv}{od an:Tc}{sl:Wb}
def HB(hs:jF d.N d.3 (Qq d.1)=Zl)(hd:d.5=[])(k:d.2=q)(u:K.lookup a=V #[oc,od,.func<|W.fnOf x q (VI d.1) (Vf d.1) (Qq d.1) dV kV dc pm an cd ct,sl])(C:W.codeIn K cd q=Zl)(m:W.keepIn K (.ref a)=Zl)(B:Qe K (W.fnOf x q (VI d.1) (Vf d.1) (Qq d.1) dV kV dc pm an cd ct) d.3 []):aY K x d a (W.fnOf x q (VI d.1) (Vf d.1) (Qq d.1) dV kV dc pm an cd ct):=by subst k;show#[#[dV,#[oc,od,kV,dc,pm,an,cd,ct,sl,07,u,C],m],jF.of hs,λj D=>#[[],B,by rw[hd];simp,[],.nil,by rw[hd];intro _ _;cases j<;>show 07]]
def Dk(K:W.Frag)(x _q:Str)(d:D4)(a:ZF):Prop:=∃fd,aY K x d a fd
def Dk.mk'(hs:jF d.N d.3 (Qq d.1)=Zl)(hd:d.5=[])(j:K.lookup a=V #[oc,od,.func<|W.fnOf x q (VI d.1) (Vf d.1) (Qq d.1) dV kV dc pm an cd ct,sl])(k:d.2=q)(B:W.codeIn K cd q=Zl)(u:W.keepIn K (.ref a)=Zl)(m:Qe K (W.fnOf x q (VI d.1) (Vf d.1) (Qq d.1) dV kV dc pm an cd ct) d.3 []):Dk K x q d a:=(#[_,HB hs hd k j B u m])
def fnC(X:K.In h)(G:h.Ns Z4 mg)(ha:W.nsIn K Z4 x=V (V<|.ref a))(D:Dk K x x d a)(r:All (λp:Str×D4=>∃fa fd,mg p.1=V (.ref fa)/\aY K p.1 p.2 fa fd) l):All (λp:Str×D4=>∃fa fd,mg p.1=V (.ref fa)/\aY K p.1 p.2 fa fd) ((x,d)::l):=(.cons (let ⟨fd,o⟩:=D;#[a,fd,W.mg_of X G ha,o]) r)
def meC(ha:W.findIn K (.ref C) x=V (V<|.ref a))(hi:W.isFn K (.ref a)=Zl)(j:W.keepIn K (.ref a)=Zl)(D:Dk K x q d a) (r:All (λp:Str×D4=>∃fa fd,Meth K C p.1 fa/\aY K p.1 p.2 fa fd) l):All (λp:Str×D4=>∃fa fd,Meth K C p.1 fa/\aY K p.1 p.2 fa fd) ((x,d)::l):=(.cons (let ⟨fd,o⟩:=D;#[a,fd,#[ha,hi,j],o]) r)
def mtC(_:W.nsIn K Z4 x=V (V<|.ref C))(j:gm ces x=V C)(u:All (λp:Str×D4=>∃fa fd,Meth K C p.1 fa/\aY K p.1 p.2 fa fd) m) (r:All (λq:Str×Wr=>∃C,gm ces q.1=V C/\All (λp:Str×D4=>∃fa fd,Meth K C p.1 fa/\aY K p.1 p.2 fa fd) q.2) l):All (λq:Str×Wr=>∃C,gm ces q.1=V C/\All (λp:Str×D4=>∃fa fd,Meth K C p.1 fa/\aY K p.1 p.2 fa fd) q.2) ((x,m)::l):=(.cons #[C,j,u] r)
def inC(X:K.In h)(G:h.Ns Z4 mg)(m:W.nsIn K Z4 x=V (V<|.ref C))(ha:W.findIn K (.ref C) "__init__"=V (V<|.ref a))(hi:W.isFn K (.ref a)=Zl)(hm:W.makesIn K C=Zl)(k:W.keepIn K (.ref C)=Zl) (j:gm ces x=V C)(D:Dk K "__init__" q d a)(r:All (λp:Str×D4=>∃C fa fd,mg p.1=V (.ref C)/\gm ces p.1=V C/\Mk K C fa/\aY K "__init__" p.2 fa fd) l):All (λp:Str×D4=>∃C fa fd,mg p.1=V (.ref C)/\gm ces p.1=V C/\Mk K C fa/\aY K "__init__" p.2 fa fd) ((x,d)::l):=(.cons (let ⟨fd,o⟩:=D;#[C,a,fd,W.mg_of X G m,j,#[hm,ha,hi,k],o]) r)
def coC(X:K.In h)(G:h.Ns Z4 mg)(ha:W.nsIn K Z4 x=V (V<|.int i t))(r:All (λp:Str×IV=>∃u y,mg p.1=V u/\RelV y u/\∀Y H,RV K Y H p.2 y) l):All (λp:Str×IV=>∃u y,mg p.1=V u/\RelV y u/\∀Y H,RV K Y H p.2 y) ((x,.int i)::l):=(.cons #[_,.int i,W.mg_of X G ha,#[t,07],λ_ _=>07] r)
def iI(K:W.Frag)(C:ZF)(F:Tj):Bool:=F.all λf=>match W.findIn K (.ref C) f with|some Zg=>Zl|_=>Zo
theorem iI.all:∀{F:Tj},iI K C F=Zl->All (λf=>Vr K C f) F
 |[],_=>.nil
 |f::F,e=>by
  simp![iI,fT,Zt]at e;calc .cons ?_<|iI.all e.2;let:=e.1;split at this
  .assumption
  .cases this
inductive CN(K:W.Frag)(F:Tj):Tj->Wq->Prop
 |nil:CN K F [] []
 |cons {x:Str}{C:ZF}{xs:Tj}{l:Wq}(hx:W.nsIn K Z4 x=V (V (.ref C))) (c:lu K C/\All (λf=>Vr K C f) F) (r:CN K F xs l):CN K F (x::xs) ((x,C)::l)
theorem CN.all:∀{xs:Tj}{l:Wq},CN K F xs l->All (λp:Str×ZF=>lu K p.2/\All (λf=>Vr K p.2 f) F) l|_,_,.nil=>.nil|_,_,.cons _ c r=>.cons c r.all
def cC(j:W.nsIn K Z4 x=V (V<|.ref C))(pg:W.plainGet K C i5=Zl)(hd:W.hasDictIn K C=Zl)(po:W.plainOver K C=Zl)(sa:W.findIn K (.ref C) "__setattr__"=V (V<|.builtin "object.__setattr__"))(h1:W.findIn K (.ref C) "__class__"=V (V<|.builtin "object.__class__"))(J:W.specialIn K (.builtin "object.__class__") "__get__"=V (V<|.builtin "getset_descriptor.__get__"))(h3:W.takesIn K (.builtin "object.__class__")=V Zl)(m:W.mroIn K C (.type "object")=V Zl) (k:iI K C F=Zl)(r:CN K F xs l):CN K F (x::xs) ((x,C)::l):=(.cons j #[#[#[pg,hd,po,sa],h1,J,h3,m],iI.all k] r)
def HD(K:W.Frag)(D:ZF)(l:Tj)(ces:Wq):Bool:=(["NoneType","bool","int","str","list","tuple","dict"].all λt=>W.kitOne K (.type t) (.ref D)==V Zo)&&ces.all λp=>W.kitOne K (.ref p.2) (.ref D)==V (dB p.1 l)
theorem HE{P:α->Prop}(w:∀a,f a=Zl->P a):∀{l:List α},l.all f=Zl->All P l|[],_=>.nil|a::l,e=>by simp![fT,Zt]at e;show .cons (w a e.1)<|HE w e.2
def isC(X:K.In h)(G:h.Ns Z4 mg)(E:W.nsIn K Z4 x=V (V<|.ref C))(j:HD K C m ces=Zl)(r:All (λq:Str×Tj=>∃D,mg q.1=V (.ref D)/\W.kitOne K (.type "NoneType") (.ref D)=V Zo/\W.kitOne K (.type "bool") (.ref D)=V Zo/\W.kitOne K (.type "int") (.ref D)=V Zo/\W.kitOne K (.type "str") (.ref D)=V Zo /\ W.kitOne K (.type "list") (.ref D)=V Zo/\W.kitOne K (.type "tuple") (.ref D)=V Zo/\W.kitOne K (.type "dict") (.ref D)=V Zo/\All (λp:Str×ZF=>W.kitOne K (.ref p.2) (.ref D)=V (dB p.1 q.2)) ces) l):All (λq:Str×Tj=>∃D,mg q.1=V (.ref D)/\W.kitOne K (.type "NoneType") (.ref D)=V Zo/\W.kitOne K (.type "bool") (.ref D)=V Zo/\W.kitOne K (.type "int") (.ref D)=V Zo/\W.kitOne K (.type "str") (.ref D)=V Zo /\ W.kitOne K (.type "list") (.ref D)=V Zo/\W.kitOne K (.type "tuple") (.ref D)=V Zo/\W.kitOne K (.type "dict") (.ref D)=V Zo/\All (λp:Str×ZF=>W.kitOne K (.ref p.2) (.ref D)=V (dB p.1 q.2)) ces) ((x,m)::l):=by simp![HD,fT,List.all_nil,Bool.and_true,Zt,beq_iff_eq]at j;let#[#[H,J,F,I,L,B,k],u]:=j;show .cons #[C,W.mg_of X G E,H,J,F,I,L,B,k,HE (λa e=>beq_iff_eq.1 e) u] r
def frC(X:K.In h)(G:h.Ns Z4 mg)(j:W.nsIn K Z4 x=V Zg)(r:All (λx=>mg x=Zg) l):All (λx=>mg x=Zg) (x::l):=(.cons (W.mg_none_of X G j) r)
abbrev XP(K:W.Frag)(v:Zv):Str×Bool->Prop:=λp=>∃C,W.nsIn K Z4 p.1=V (V<|.ref C)/\hE K C/\W.kitOne K (.ref C) v=V p.2/\W.exmOne K (.ref C) v=V p.2
def xpC(j:W.nsIn K Z4 x=V (V<|.ref C))(ga:W.findIn K (.ref C) "__getattribute__"=V (V<|.builtin "BaseException.__getattribute__"))(mb:W.mroIn K C (.type "BaseException")=V Zl)(gn:W.findIn K (.ref C) "__getattr__"=V Zg)(ca:W.findIn K (.ref C) "__class__"=V (V<|.builtin "object.__class__"))(mo:W.mroIn K C (.type "object")=V Zl)(hd:W.hasDictIn K C=Zl) (k1:W.kitOne K (.ref C) v=V b)(k2:W.exmOne K (.ref C) v=V b)(r:All (XP K v) l):All (XP K v) ((x,b)::l):=(.cons #[C,j,#[ga,mb,gn,ca,mo,hd],k1,k2] r)
def xiC(X:K.In h)(G:h.Ns Z4 mg)(j:W.nsIn K Z4 x=V (V<|.ref C))(u:All (XP K<|.ref C) m)(r:All (λq:Str×Wd=>∃v,(mg q.1=V v\/(mg q.1=Zg/\kE q.1=V v))/\All (λp:Str×Bool=>∃C,W.nsIn K Z4 p.1=V (V<|.ref C)/\hE K C/\W.kitOne K (.ref C) v=V p.2/\W.exmOne K (.ref C) v=V p.2) q.2) l):All (λq:Str×Wd=>∃v,(mg q.1=V v\/(mg q.1=Zg/\kE q.1=V v))/\All (λp:Str×Bool=>∃C,W.nsIn K Z4 p.1=V (V<|.ref C)/\hE K C/\W.kitOne K (.ref C) v=V p.2/\W.exmOne K (.ref C) v=V p.2) q.2) ((x,m)::l):=(.cons #[_,.inl<|W.mg_of X G j,u] r)
def bsC(X:K.In h)(G:h.Ns Z4 mg)(k:W.nsIn K Z4 x=V (V<|.ref C))(sp:W.specialIn K (.ref C) "__getattribute__"=V (V<|.builtin "type.__getattribute__"))(rd:W.readsIn K C (.type "type")=Zl)(j:W.findIn K (.ref C) "__init__"=V (V<|.ref a))(fc:W.findCls K (.ref C) (.type "type") "__init__"=V (.val<|.ref a))(kp:W.keepIn K (.ref a)=Zl)(r:All (λx=>∃C,mg x=V (.ref C)/\kd K C) l):All (λx=>∃C,mg x=V (.ref C)/\kd K C) (x::l):=(.cons #[C,W.mg_of X G k,sp,rd,a,j,fc,kp] r)
def xmC(X:K.In h)(G:h.Ns Z4 mg)(j:W.nsIn K Z4 x=V (V<|.ref C))(_:W.findIn K (.ref C) "__init__"=V (V<|.ref a))(xi:Qp K C a=Zl)(kp:W.keepIn K (.ref C)=Zl)(D:Dk K "__init__" q d a)(r:All (λp:Str×D4=>∃C fa fd,mg p.1=V (.ref C)/\W.nsIn K Z4 p.1=V (V<|.ref C)/\Qp K C fa=Zl/\W.keepIn K (.ref C)=Zl/\(∀h:bu,K.In h->oU h C)/\aY K "__init__" p.2 fa fd) l):All (λp:Str×D4=>∃C fa fd,mg p.1=V (.ref C)/\W.nsIn K Z4 p.1=V (V<|.ref C)/\Qp K C fa=Zl/\W.keepIn K (.ref C)=Zl/\(∀h:bu,K.In h->oU h C)/\aY K "__init__" p.2 fa fd) ((x,d)::l):=(.cons (let ⟨fd,o⟩:=D;#[C,a,fd,W.mg_of X G j,j,xi,kp,UQ xi,o]) r)
abbrev SX(K:W.Frag)(f:Str):Str->Prop:=λc=>∃C,W.nsIn K Z4 c=V (V<|.ref C)/\gj K C f/\hE K C/\W.findIn K (.ref C) f=V Zg
def sxC(k:W.nsIn K Z4 x=V (V<|.ref C))(ga:W.findIn K (.ref C) "__getattribute__"=V (V<|.builtin "BaseException.__getattribute__"))(mb:W.mroIn K C (.type "BaseException")=V Zl)(gn:W.findIn K (.ref C) "__getattr__"=V Zg)(ca:W.findIn K (.ref C) "__class__"=V (V<|.builtin "object.__class__"))(mo:W.mroIn K C (.type "object")=V Zl)(hd:W.hasDictIn K C=Zl) (j:W.findIn K (.ref C) "__setattr__"=V (V<|.builtin "object.__setattr__"))(nx:W.findIn K (.ref C) f=V Zg)(s1:(W.clsIn K C).any (λcd=>Y4 cd.3&&cd.6)=Zl)(m:W.takerIn K C f=V Zg)(r:All (SX K f) l):All (SX K f) (x::l):=(.cons #[C,k,#[s1,m,j],#[ga,mb,gn,ca,mo,hd],nx] r)
def sfC(u:All (SX K f) m)(r:All (λq:Str×Tj=>All (λc=>∃C,W.nsIn K Z4 c=V (V<|.ref C)/\gj K C q.1/\hE K C/\W.findIn K (.ref C) q.1=V Zg) q.2) l):All (λq:Str×Tj=>All (λc=>∃C,W.nsIn K Z4 c=V (V<|.ref C)/\gj K C q.1/\hE K C/\W.findIn K (.ref C) q.1=V Zg) q.2) ((f,m)::l):=(.cons u r)
def bxC(X:K.In h)(G:h.Ns Z4 mg)(j:W.nsIn K Z4 x=V (V<|.ref C))(sp:W.specialIn K (.ref C) "__getattribute__"=V (V<|.builtin "type.__getattribute__"))(rd:W.readsIn K C (.type "type")=Zl)(fc:W.findCls K (.ref C) (.type "type") "__init__"=V (.val<|.builtin "ValueError.__init__"))(r:All (λx=>∃C,mg x=V (.ref C)/\ke K C) l):All (λx=>∃C,mg x=V (.ref C)/\ke K C) (x::l):=(.cons #[C,W.mg_of X G j,sp,rd,fc] r)
def last(xs)(X:K.In h)(G:h.Ns Z4 mg)(j:mg "law"=V (.ref fa))(hp:d.3=[p])(hs:jF d.N d.3 (Qq d.1)=Zl)(hd:d.5=[])(m:d.2="law")(k:∀us:Tu,WP us=WP d.ps->sN (W.fnOf "law" "law" (VI d.1) (Vf d.1) (Qq d.1) .none kV dc pm an cd ct) #[us,[]]=pure (d.3.zip us)) (ha:W.nsIn K Z4 "law"=V (V<|.ref a))(D:K.lookup a=V #[oc,od,.func<|W.fnOf "law" "law" (VI d.1) (Vf d.1) (Qq d.1) .none kV dc pm an cd ct,sl])(E:W.codeIn K cd "law"=Zl)(C:W.keepIn K (.ref a)=Zl)(c:CN K T.6 xs ces)(bC:All (λp:Str×ZF=>lu K p.2/\All (λf=>Vr K p.2 f) T.6) ces->gJ (gm ces) T K mg):∃fd:jm,(∀(s:Z5)(u:Zv),rf s fd #[[u],[]] [(p,u)])/\∀base:bu,K.In base->base.Ns Z4 mg->QD mg base->bW prog w K mg base (eR prog w) (T.cl d) 64 fa fd [p] (XY K p<|run T 16 d):=by let e:=W.mg_of X G ha;rw[j]at e;cases e;show#[_,λs u=>.of_eq ((k [u]<|by rw[hp];rfl).trans<|by rw[hp];rfl),λbase _ _ B=>UR (bC c.all) (λ_=>B) 16 hp<|HB hs hd m D E C<|.all k]
end
end L4
local macro_rules|`($c:char)=>let n:=c.getChar.toNat;if n<58 then `(L3.eC<|.int $(Lean.quote (n-48))) else `(L3.Ja $(Lean.quote (n-97)))
namespace LW
def Kaz{α:Sort _}{p:α->Prop}{j:α}:(∃a,j=a/\p a)↔p j:=(exists_eq_left')
def Kbz{α:Sort _}{p:α->Prop}{j:α}:(∃a,a=j/\p a)↔p j:=(exists_eq_left)
def Kcz(a b:Bool):(L3.IV.bl a=L3.IV.bl b)=(a=b):=(L3.IV.bl.injEq a b)
def Kdz(a b:Int):(L3.IV.int a=L3.IV.int b)=(a=b):=(L3.IV.int.injEq a b)
def Kez(a b:Nat):(L3.IV.ref a=L3.IV.ref b)=(a=b):=(L3.IV.ref.injEq a b)
def Kfz(a b:PySem.Str):(L3.IV.str a=L3.IV.str b)=(a=b):=(L3.IV.str.injEq a b)
def Kgz(a b:List L3.IV):(L3.IV.tup a=L3.IV.tup b)=(a=b):=(L3.IV.tup.injEq a b)
def Khz(a b:List L3.IV):(L3.IX.lst a=L3.IX.lst b)=(a=b):=(L3.IX.lst.injEq a b)
def Kiz{α:Type _}(a b:α):(V a=V b)=(a=b):=(Option.some.injEq a b)
def Kjz:(!true)=Zo:=(Bool.not_true)
def Kkz:(!false)=Zl:=(Bool.not_false)
def Klz:(Zl=Zo)=False:=(Bool.true_eq_false)
def Kmz:(Zo=Zl)=False:=(l9)
def Knz{α β:Type _}(a:α)(f:α->Option β):(V a).bind f=f a:=(Option.bind_some a f)
def Koz(p:Prop):(True->p)=p:=(true_implies p)
def Kpz(p:Prop):(False->p)=True:=(false_implies p)
def Kqz(α:Sort _):(α->True)=True:=(implies_true α)
def Krz{α:Type _}{a b:α}{l:List α}{n:Nat}:(a::l).set (n+1) b=a::l.set n b:=(List.set_cons_succ)
def Ksz{α:Type _}{a b:α}{l:List α}:(a::l).set 0 b=b::l:=(yx)
def Ktz{α:Type _}{a:α}{l m:List α}:(a::l)++m=a::(l++m):=(fR)
def Kuz{α:Type _}(l:List α):[]++l=l:=(kC l)
def Kvz{α:Type _}(l:List α):l++[]=l:=(iC l)
end LW
namespace LW
open PySem L2 L3 L4
noncomputable def top (i:Nat):fu:=PySem.Challenge.pw_dutyproof_k74_whole_ranks_keep.1.1.getD i<|.Pass #[0,0,0,0]
def psD:fu->Tj|.FunctionDef _ a _ _ _ _ _ _ _ _=>a.2.map (·.1)|_=>[]
def mD(q:Str)(s:fu):D4:=#[s,q,psD s,(Qq s).2.filterMap λp=>if p.2==.local||p.2==.cell then V p.1 else Zg,[]]
def HF:D4:=mD "NotKept.__init__"<|JM (top 7) 0
def HG:D4:=mD "NoRanks.__init__"<|JM (top 8) 0
def HH:D4:=mD "is_whole"<|top 10
def HI:D4:=mD "is_whole_from"<|top 11
def HJ:D4:=mD "rounds_up"<|top 12
def HK:D4:=mD "is_name"<|top 19
def HL:D4:=mD "is_hold"<|top 20
def HM:D4:=mD "lie_apart"<|top 21
def HN:D4:=mD "lies_in"<|top 22
def HP:D4:=mD "go_together"<|top 23
def HQ:D4:=mD "all_go_together"<|top 24
def HR:D4:=mD "own_holds"<|top 25
def HS:D4:=mD "own_due"<|top 26
def HU:D4:=mD "Work.__init__"<|JM (top 27) 0
def HV:D4:=mD "Work.held"<|JM (top 27) 1
def HW:D4:=mD "ceilings"<|top 29
def HX:D4:=mD "things_held"<|top 30
def HY:D4:=mD "lifted"<|top 31
def HZ:D4:=mD "turns_held"<|top 32
def H0:D4:=mD "longest_hold"<|top 33
def Ia:D4:=mD "hold_up"<|top 34
def Ib:D4:=mD "comings_in"<|top 36
def Ic:D4:=mD "load"<|top 37
def Ie:D4:=mD "in_time"<|top 38
def Ig:D4:=mD "answer"<|top 39
def Ih:D4:=mD "may_be_weakest"<|top 41
def Ii:D4:=mD "some_weakest"<|top 42
def Ij:D4:=mD "ranked"<|top 43
def Ik:D4:=mD "ready"<|top 50
def Il:D4:=mD "due_at"<|top 51
def Im:D4:=mD "is_coming"<|top 52
def Io:D4:=mD "first_wrong"<|top 53
def Ip:D4:=mD "checked"<|top 54
def Iq:D4:=mD "next_stop"<|top 59
def Ir:D4:=mD "Bench.__init__"<|JM (top 60) 0
def Iu:D4:=mD "Bench.next_ready"<|JM (top 60) 1
def Iw:D4:=mD "Bench.let_in"<|JM (top 60) 2
def Iy:D4:=mD "Bench.turns_for"<|JM (top 60) 3
def Iz:D4:=mD "Bench.tell"<|JM (top 60) 4
def IA:D4:=mD "Bench.go_on"<|JM (top 60) 5
def IB:D4:=mD "run"<|top 61
def IC:D4:=mD "ends"<|top 62
def ID:D4:=mD "missed"<|top 63
def IE:D4:=mD "own_works"<|top 67
def IF:D4:=mD "crowd_of"<|top 68
def IG:D4:=mD "Duty.__init__"<|JM (top 69) 0
def II:D4:=mD "Duty.size"<|JM (top 69) 1
def IJ:D4:=mD "Duty.work"<|JM (top 69) 2
def IK:D4:=mD "Duty.reordered"<|JM (top 69) 5
def IL:D4:=mD "Order.__init__"<|JM (top 71) 0
def Ji4:D4:=mD "Order.holds"<|JM (top 71) 2
def B1:D4:=mD "Order.pick"<|JM (top 71) 3
def B2:D4:=mD "Order.standing"<|JM (top 71) 4
def IM:D4:=mD "ByRank.__init__"<|JM (top 72) 0
def IP:D4:=mD "ByRank.rank_of"<|JM (top 72) 1
def IQ:D4:=mD "ByRank.holds"<|JM (top 72) 2
def IS:D4:=mD "thronged"<|top 74
def IT:D4:=mD "hardest"<|top 75
def IU:D4:=mD "paper"<|top 77
def IW:D4:=mD "own_copy"<|top 79
def IY:D4:=mD "Kept.__init__"<|JM (top 81) 0
def Jmi:D4:=mD "Kept.kept"<|JM (top 81) 1
def IZ:D4:=mD "Broken.__init__"<|JM (top 82) 0
def I0:D4:=mD "Broken.kept"<|JM (top 82) 1
def I7:D4:=mD "broken_at"<|top 83
def I8:D4:=mD "judge_ranks"<|top 84
def I9:D4:=mD "_law_cell_at"<|top 86
def Jt:D4:=mD "_law_stream"<|top 87
def Ka:D4:=mD "_law_plain"<|top 88
def Kb:D4:=mD "_law_row"<|top 89
def Kc:D4:=mD "_law_mixed"<|top 90
def Kd:D4:=mD "_law_broken"<|top 91
def w3:D4:=#[top 92,"law",["_law_script"],["_law_script","_law_first","_law_unit","_law_many","_law_some","_law_works","_law_k","_law_gap","_law_length","_law_last","_law_late","_law_holds","_law_order","_law_made"],[]]
def T:Tab where
 fns:=[(("is_whole":Str),HH),(("is_whole_from":Str),HI),(("rounds_up":Str),HJ),(("is_name":Str),HK),(("is_hold":Str),HL),(("lie_apart":Str),HM),(("lies_in":Str),HN),(("go_together":Str),HP),(("all_go_together":Str),HQ),(("own_holds":Str),HR),(("own_due":Str),HS),(("ceilings":Str),HW),(("things_held":Str),HX),(("lifted":Str),HY),(("turns_held":Str),HZ),(("longest_hold":Str),H0),(("hold_up":Str),Ia),(("comings_in":Str),Ib),(("load":Str),Ic),(("in_time":Str),Ie),(("answer":Str),Ig),(("may_be_weakest":Str),Ih),(("some_weakest":Str),Ii),(("ranked":Str),Ij),(("ready":Str),Ik),(("due_at":Str),Il),(("is_coming":Str),Im),(("first_wrong":Str),Io),(("checked":Str),Ip),(("next_stop":Str),Iq),(("run":Str),IB),(("ends":Str),IC),(("missed":Str),ID),(("own_works":Str),IE),(("crowd_of":Str),IF),(("thronged":Str),IS),(("hardest":Str),IT),(("paper":Str),IU),(("own_copy":Str),IW),(("broken_at":Str),I7),(("judge_ranks":Str),I8),(("_law_cell_at":Str),I9),(("_law_stream":Str),Jt),(("_law_plain":Str),Ka),(("_law_row":Str),Kb),(("_law_mixed":Str),Kc),(("_law_broken":Str),Kd),(("law":Str),w3)]
 nB:=[("Work",HU),("Bench",Ir),("Duty",IG),("Order",IL),("ByRank",IM),("Kept",IY),("Broken",IZ)]
 meths:=[("Work",([("held",HV)]:Wr)),("Bench",([("next_ready",Iu),("let_in",Iw),("turns_for",Iy),("tell",Iz),("go_on",IA)]:Wr)),("Duty",([("size",II),("work",IJ),("reordered",IK)]:Wr)),("Order",([("holds",Ji4),("pick",B1),("standing",B2)]:Wr)),("ByRank",([("rank_of",IP),("holds",IQ),("pick",B1),("standing",B2)]:Wr)),("Verdict",([]:Wr)),("Kept",([("kept",Jmi)]:Wr)),("Broken",([("kept",I0)]:Wr))]
 cons:=[("MOST_LETTERS",.int 8),("MOST_HOLDS",.int 6),("THING",.int 0),("START",.int 1),("END",.int 2),("MOST_COMINGS",.int 200),("AT",.int 0),("COME",.int 1),("LATE",.int 2),("LENGTH",.int 3),("PLACE",.int 0),("FROM",.int 1),("UNTIL",.int 2),("MOST_WORKS",.int 12),("MOST_CROWD",.int 80)]
 nD:=[("Work",["Work"])]
 ki:=["append","dones","due","duty","extend","gap","hold_tuples","late","later","length","lines","name","order","place","pop","remove","row","setdefault","stretches","tops","turn","waiting","works"]
 frees:=["all","bool","enumerate","int","isinstance","len","list","max","min","range","reversed","set","sorted","str","sum","tuple"]
 tabs:=["Order.pick","Bench.__init__","longest_hold"]
 qk:=[("NotKept",[("NoRanks",Zo),("NotKept",Zl)]),("NoRanks",[("NoRanks",Zl),("NotKept",Zo)])]
 nE:=["Order"]
 G8:=["rounds_up","Work.held","ceilings","turns_held","longest_hold","comings_in","due_at","Duty.size","Duty.work","thronged","hardest","own_copy","Broken.__init__","broken_at"]
 rW:=[(("NoRanks":Str),HG),(("NotKept":Str),HF)]
 oW:=[(("stuck":Str),["NoRanks"]),(("at":Str),["NotKept"])]
 rX:=["DutyError"]
def Jpy:Str->Ww:=λc=>JY c [("NoRanks",Zo),("NotKept",Zl)]
def Jpx:Str->Ww:=λc=>JY c [("NoRanks",Zl),("NotKept",Zo)]
abbrev pg(k:Nat):Pg:=lO T<|run T k
section
variable(k:Nat)(x0 x1 x2 x3 x4 x5 x6:IV)(h:IH)
abbrev w4:=run T k HF
abbrev Ye:=run T k HG
abbrev Yh:=run T k HH
abbrev V6:=run T k HI
abbrev w5:=run T k HJ
abbrev w6:=run T k HK
abbrev B3:=run T k HL
abbrev B4:=run T k HM
abbrev w7:=run T k HN
abbrev B5:=run T k HP
abbrev B6:=run T k HQ
abbrev Ym:=run T k HR
abbrev Yl:=run T k HS
abbrev Yf:=run T k HU
abbrev B7:=run T k HV
abbrev w9:=run T k HW
abbrev xg:=run T k HX
abbrev B8:=run T k HY
abbrev xh:=run T k HZ
abbrev xj:=run T k H0
abbrev B9:=run T k Ia
abbrev xk:=run T k Ib
abbrev Ca:=run T k Ic
abbrev Cb:=run T k Ie
abbrev Xz:=run T k Ig
abbrev Cd:=run T k Ih
abbrev Ce:=run T k Ii
abbrev Cf:=run T k Ij
abbrev xl:=run T k Ik
abbrev Yg:=run T k Il
abbrev Cg:=run T k Im
abbrev Ci:=run T k Io
abbrev Cj:=run T k Ip
abbrev Ck:=run T k Iq
abbrev Cn:=run T k Ir
abbrev Co:=run T k Iu
abbrev Cp:=run T k Iw
abbrev Cq:=run T k Iy
abbrev Cr:=run T k Iz
abbrev Cs:=run T k IA
abbrev Ct:=run T k IB
abbrev xm:=run T k IC
abbrev Yk:=run T k ID
abbrev Cu:=run T k IE
abbrev Cv:=run T k IF
abbrev QF:=run T k IG
abbrev Cw:=run T k II
abbrev Cy:=run T k IJ
abbrev Cz:=run T k IK
abbrev CA:=run T k IL
abbrev xn:=run T k B1
abbrev CB:=run T k B2
abbrev V5:=run T k IM
abbrev CC:=run T k IP
abbrev CD:=run T k IQ
abbrev xp:=run T k IS
abbrev CF:=run T k IT
abbrev CG:=run T k IU
abbrev xq:=run T k IW
abbrev xr:=run T k IY
abbrev CH:=run T k IZ
abbrev CI:=run T k I0
abbrev CJ:=run T k I7
abbrev CK:=run T k I8
abbrev Yj:=run T k I9
abbrev xw:=run T k Jt
abbrev CL:=run T k Ka
abbrev CM:=run T k Kb
abbrev CO:=run T k Kc
abbrev xx:=run T k Kd
abbrev Yi:=run T k w3
def Ke(k:Nat):S1:=Xt (dh T "at") "at" 'a' 'b'
def Jer:S1:=Jg (JH<|VJ (λc=>((pg k).xo c).isSome)<|Jb 'a'<|Jb (lJ [(eC<|.str "the work with number "),(jT fH 'b'),(eC<|.str " has no answer")]) Je)<|Ke k
def Jge:w4 (k+1) [x0,x1] h=(Jer k [V x0,V x1] h).fin:=02
def Jeq:S1:=Jg (JH<|VJ (λc=>((pg k).xo c).isSome)<|Jb 'a'<|Jb (eC<|.str "no order of the works keeps the duty") Je)<|Xt (dh T "stuck") "stuck" 'a'<|bp (bx Q3)<|Jb 'b' Je
def Jgd:Ye (k+1) [x0,x1] h=(Jeq k [V x0,V x1] h).fin:=02
def Jj5(k:Nat):S1:=Jk<|eX (dw Ay 'a') (jT (vZ cF)<|dw Az 'a') cF
def Jmm:Yh (k+1) [x0] h=(Jj5 k [V x0] h).fin:=02
def Jdy:S1:=Jk<|eX (Jl (Yh k) []<|Jb 'a' Je) (Jc rO 'a' 'b') cF
def Jeu:V6 (k+1) [x0,x1] h=(Jdy k [V x0,V x1] h).fin:=02
def Ji0(k:Nat):S1:=Jk<|Jc Qa (Jc JQ (Jc Js 'a' 'b') '1') 'b'
def Jle:w5 (k+1) [x0,x1] h=(Ji0 k [V x0,V x1] h).fin:=02
def xy(k:Nat):E1:=JS eM eM (eC<|.str "a") 'a'<|eC<|.str "z"
def Jma:S1:=Jg (bU (fB (JJ<|Ji cF<|dw AA 'a')<|JJ<|Ji bg<|JS eM eM '1' (bp (bx bq)<|Jb 'a' Je) '8') (Jk<|eC<|.bl Zo) Jx)<|Jk<|bp (bx allI)<|Jb (Jy (Jv 'a') 1 [] (bw 0) JC<|xy k) Je
def Jo5:w6 (k+1) [x0] h=(Jma k [V x0] h).fin:=02
def Jl9:S1:=Jg (bU (fB (JJ<|Ji cF<|dw wi 'a')<|fB (Ji bg<|Jc jz (bp (bx bq)<|Jb 'a' Je) '3')<|JJ<|Ji cF<|Jl (w6 k) []<|Jb (Jc Jh 'a' '0') Je) (Jk<|eC<|.bl Zo) Jx)<|Jg (bU (JJ<|Ji cF<|Jl (V6 k) []<|Jb (Jc Jh 'a' '1')<|Jb '0' Je) (Jk<|eC<|.bl Zo) Jx)<|Jk<|eX (Jl (V6 k) []<|Jb (Jc Jh 'a' '2')<|Jb (Jc Js (Jc Jh 'a' '1') '1') Je) (Jc jU (Jc Jh 'a' '2') 'b') cF
def Jo4:B3 (k+1) [x0,x1] h=(Jl9 k [V x0,V x1] h).fin:=02
def Jiw(k:Nat):S1:=Jk<|rN (Jc eM (Jc Jh 'a' '2')<|Jc Jh 'b' '1') (Jc eM (Jc Jh 'b' '2')<|Jc Jh 'a' '1') cF
def Jla:B4 (k+1) [x0,x1] h=(Jiw k [V x0,V x1] h).fin:=02
def Jmc(k:Nat):S1:=Jk<|eX (Jc eM (Jc Jh 'b' '1')<|Jc Jh 'a' '1') (Jc eM (Jc Jh 'a' '2')<|Jc Jh 'b' '2') cF
def Jo7:w7 (k+1) [x0,x1] h=(Jmc k [V x0,V x1] h).fin:=02
def Jfi:S1:=Jg (bU (Ji cF<|Jl (B4 k) []<|Jb 'a'<|Jb 'b' Je) (Jk<|eC<|.bl Zl) Jx)<|Jg (bU (Ji bg<|Jc il (Jc Jh 'a' '0')<|Jc Jh 'b' '0') (Jk<|eC<|.bl Zo) Jx)<|Jk<|rN (Jl (w7 k) []<|Jb 'a'<|Jb 'b' Je) (Jl (w7 k) []<|Jb 'b'<|Jb 'a' Je) cF
def Jhe:B5 (k+1) [x0,x1] h=(Jfi k [V x0,V x1] h).fin:=02
def Kf:E1:=Jl (B5 k) []<|Jb 'b'<|Jb 'a' Je
def Jcu:S1:=Jg (cD (cR Vw<|Jb 'a' Je) (mE 2<|gC (bw 1)<|gC (bw 2) gN)<|bU (JJ<|Ji cF<|bp (bx allI)<|Jb (Jy (Jv<|jY j8 'a' V0<|Qz 'b') 1 [2] (bw 0) JC<|Kf k) Je) (Jk<|eC<|.bl Zo) Jx)<|Jk<|eC<|.bl Zl
def Jdo:B6 (k+1) [x0] h=(Jcu k [V x0,Zg,Zg] h).fin:=02
def CP:E1:=Jl (B3 k) []<|Jb 'a'<|Jb 'b' Je
def Kg(k:Nat):E1:=cT<|Jb (Jc Jh 'a' '0')<|Jb (Jc Jh 'a' '1')<|Jb (Jc Jh 'a' '2') Je
def Jiy:S1:=Jg (bU (Ji bg<|Jc lq 'a'<|eC .ah) (Jk<|cT Je) Jx)<|Jg (bU (JJ<|Ji cF<|dw Xg 'a') cj Jx)<|Jg (bU (Ji bg<|Jc g9 (bp (bx bq)<|Jb 'a' Je) '6') cj Jx)<|Jg (bU (JJ<|Ji cF<|bp (bx allI)<|Jb (Jy (Jv 'a') 1 [1] (bw 0) JC<|CP k) Je) cj Jx)<|Jg (bU (JJ<|Ji cF<|Jl (B6 k) []<|Jb 'a' Je) cj Jx)<|Jk<|bp (bx Xb)<|Jb (Jy (Jv 'a') 1 [] (bw 0) JC<|Kg k) Je
def Jlc:Ym (k+1) [x0,x1] h=(Jiy k [V x0,V x1] h).fin:=02
def Jmd:S1:=Jg (bU (Ji bg<|Jc lq 'a'<|eC .ah) (Jk 'b') Jx)<|Jg (bU (fB (JJ<|Ji cF<|Jl (V6 k) []<|Jb 'a'<|Jb '1' Je)<|Ji bg<|Jc g9 'a' 'b') cj Jx)<|Jk 'a'
def Jo8:Yl (k+1) [x0,x1] h=(Jmd k [V x0,V x1] h).fin:=02
def Kh:S1:=JL "hold_tuples" 'a'<|Jl (Ym k) []<|Jb 'g'<|Jb 'd' Je
def Jir:S1:=Jg (bU (JJ<|Ji cF<|Jl (w6 k) []<|Jb 'b' Je) cj Jx)<|Jg (bU (JJ<|Ji cF<|Jl (V6 k) []<|Jb 'c'<|Jb '1' Je) cj Jx)<|Jg (bU (JJ<|Ji cF<|Jl (V6 k) []<|Jb 'd'<|Jb '1' Je) cj Jx)<|Jg (bU (JJ<|Ji cF<|Jl (V6 k) []<|Jb 'f'<|Jb '0' Je) cj Jx)<|Jg (JL "name" 'a' 'b')<|Jg (JL "gap" 'a' 'c')<|Jg (JL "length" 'a' 'd')<|Jg (JL "due" 'a'<|Jl (Yl k) []<|Jb 'e'<|Jb 'c' Je)<|Jg (JL "late" 'a' 'f')<|Kh k
def Jk5:Yf (k+1) [x0,x1,x2,x3,x4,x5,x6] h=(Jir k [V x0,V x1,V x2,V x3,V x4,V x5,V x6] h).fin:=02
def Jiq(k:Nat):S1:=Jk<|bp (bx Q3)<|Jb (Jp "hold_tuples" 'a') Je
def Jk4:B7 (k+1) [x0] h=(Jiq k [V x0] h).fin:=02
def Jj3:S1:=Jg (Jj 1 Yv)<|Jg (cD (cR Qi<|Jb (Jm (pg k) "size" 0 'a' Je) Je) (bw 2)<|cD (Jv<|Jm (pg k) "held" 0 (Jm (pg k) "work" 1 'a'<|Jb 'c' Je) Je) (bw 3)<|JH<|Jm (pg k) "setdefault" 2 'b'<|Jb (Jc Jh 'd' '0')<|Jb 'c' Je)<|Jk 'b'
def Jmk:w9 (k+1) [x0] h=(Jj3 k [V x0,Zg,Zg,Zg] h).fin:=02
def Jfl:S1:=Jk<|Jy (Jv<|Jm (pg k) "held" 0 'a' Je) 1 [1] (bw 0) (Ji bg<|JS jU jU (Jc Jh 'a' '1') 'b'<|Jc Jh 'a' '2')<|Jc Jh 'a' '0'
def Jhh:xg (k+1) [x0,x1] h=(Jfl k [V x0,V x1] h).fin:=02
def Ki(k:Nat):E1:=Jc Vi 'b' 'a'
def Jov:S1:=Jk<|bp (bx VS)<|Jb (Jc Js (JA<|Jb 'a' Je)<|Jy (Jv 'b') 1 [2] (bw 0) JC<|Ki k) Je
def Jrj:B8 (k+1) [x0,x1,x2] h=(Jov k [V x0,V x1,V x2] h).fin:=02
def Jg4(k:Nat):S1:=Jk<|Jc JQ (Jc JQ (Jc Jh 'a' '2')<|Jc Jh 'a' '1') '1'
def Jje:xh (k+1) [x0] h=(Jg4 k [V x0] h).fin:=02
def Kj(k:Nat):E1:=cT<|Jb 'd'<|Jb 'a' Je
def CQ(k:Nat):T1:=Ji bg<|Jc eM (Jc Vi 'c'<|Jc Jh 'a' '0') 'b'
def Jes:S1:=Jg (Jj 2<|Jl (w9 k) []<|Jb 'a' Je)<|Jg (Jj 3<|JA Je)<|Jg (cD (cR VP<|Jb (Jc Js 'b' '1')<|Jb (Jm (pg k) "size" 0 'a' Je) Je) (bw 4)<|JH<|Jm (pg k) "extend" 1 'd'<|Jb (Jy (Jv<|Jm (pg k) "held" 0 (Jm (pg k) "work" 1 'a'<|Jb 'e' Je) Je) 1 [1,2,4] (bw 0) (CQ k)<|Kj k) Je)<|Jk<|Yz nk "longest_hold" 2 [] (Jb 'd' Je) (Jl (xh k) []<|Jb (Jc Jh 'a' '1') Je)<|eC .ah
def Jgf:xj (k+1) [x0,x1] h=(Jes k [V x0,V x1,Zg,Zg,Zg] h).fin:=02
def Jl7:S1:=Jg (Jj 2<|Jl (xj k) []<|Jb 'a'<|Jb 'b' Je)<|Jk<|k9 (Ji bg<|Jc lq 'c'<|eC .ah) '0'<|Jl (xh k) []<|Jb (Jc Jh 'c' '1') Je
def Jo2:B9 (k+1) [x0,x1] h=(Jl7 k [V x0,V x1,Zg] h).fin:=02
def Jg1:S1:=Jk<|k9 (Ji bg<|Jc rO 'b' '1') (Jl (w5 k) []<|Jb (Jc Js 'b'<|Jp "late" 'a')<|Jb (Jp "gap" 'a') Je) '0'
def Jjb:xk (k+1) [x0,x1] h=(Jg1 k [V x0,V x1] h).fin:=02
def Kk:E1:=Jm (pg k) "work" 1 'b'<|Jb 'a' Je
def Kl:E1:=Jc Qs (Jl (xk k) []<|Jb 'a'<|Jb 'b' Je)<|Jp "length" 'a'
def Jt6:S1:=Jg (Jj 3<|Jy (cR Qi<|Jb 'b' Je) 1 [0] (bw 0) JC<|Kk k)<|Jg (Jj 4<|bp (bx iQ)<|Jb (Jy (Jv 'd') 1 [2] (bw 0) JC<|Kl k) Je)<|Jk<|Jc Js (Jc Js (Jl (B9 k) []<|Jb 'a'<|Jb 'b' Je)<|Jp "length"<|Jm (pg k) "work" 1 'a'<|Jb 'b' Je) 'e'
def Jzs:Ca (k+1) [x0,x1,x2] h=(Jt6 k [V x0,V x1,V x2,Zg,Zg] h).fin:=02
def Jl8(k:Nat):S1:=Jk<|Jc eM (Jc Js 'b'<|Jp "late" 'a')<|Jp "due" 'a'
def Jo3:Cb (k+1) [x0,x1] h=(Jl8 k [V x0,V x1] h).fin:=02
def Jot:S1:=Jg (Jj 2 '1')<|Jg (V1 (Ji cF<|Jl (Cb k) []<|Jb (Jm (pg k) "work" 1 'a'<|Jb 'b' Je)<|Jb 'c' Je)<|Jg (Jj 3<|Jl (Ca k) []<|Jb 'a'<|Jb 'b'<|Jb 'c' Je)<|Jg (bU (Ji bg<|Jc eM 'd' 'c') (Jk 'c') Jx)<|Jj 2 'd')<|Jk<|eC .ah
def Jrh:Xz (k+1) [x0,x1] h=(Jot k [V x0,V x1,Zg,Zg] h).fin:=02
def Km(k:Nat):E1:=Ja 0
def Kn(k:Nat):T1:=Ji bg<|Jc jz 'a' 'b'
def Jc9:S1:=Jg (Jj 4<|Jy (Jv 'b') 1 [3] (bw 0) (Kn k)<|Km k)<|Jk<|Jc Xj (Jl (Xz k) []<|Jb (Jm (pg k) "reordered" 1 'a'<|Jb (Jc Js (Jc Js 'e'<|JA<|Jb 'd' Je) 'c') Je)<|Jb (bp (bx bq)<|Jb 'e' Je) Je)<|eC .ah
def Jd6:Cd (k+1) [x0,x1,x2,x3] h=(Jc9 k [V x0,V x1,V x2,V x3,Zg] h).fin:=02
def Jet:S1:=Jg (cD (cR VA<|Jb 'b' Je) (bw 3)<|bU (Ji cF<|Jl (Cd k) []<|Jb 'a'<|Jb 'b'<|Jb 'c'<|Jb 'd' Je) (Jk 'd') Jx)<|Jk<|eC .ah
def Jgg:Ce (k+1) [x0,x1,x2] h=(Jet k [V x0,V x1,V x2,Zg] h).fin:=02
def Ko:S1:=Jg (Jj 3<|Jl (Ce k) []<|Jb 'a'<|Jb 'b'<|Jb 'c' Je)<|Jg (bU (Ji bg<|Jc lq 'd'<|eC .ah) (XT (λc=>c=="NoRanks")<|Yy "NoRanks" (Ye k) []<|Jb 'b' Je) Jx)<|Jg (JH<|Jm (pg k) "remove" 1 'b'<|Jb 'd' Je)<|Jj 2<|Jc Js (JA<|Jb 'd' Je) 'c'
def Kq:S1:=Jg (V1 (Ji bg<|Jc g9 (bp (bx bq)<|Jb 'b' Je) '0')<|Ko k)<|Jk 'c'
def Kr:S1:=Jg (Jj 2<|JA Je)<|Kq k
def Ks:S1:=Jg (Jj 1<|oS<|Jb (Jm (pg k) "size" 0 'a' Je) Je)<|Kr k
def Jrl:Cf (k+1) [x0] h=(Ks k [V x0,Zg,Zg,Zg] h).fin:=02
def Jqh(k:Nat):S1:=Jk<|Jc Js (Jc Jh 'a' '1')<|Jc Jh 'a' '2'
def Jus:xl (k+1) [x0] h=(Jqh k [V x0] h).fin:=02
def Jou:S1:=Jk<|Jc Js (Jc Jh 'b' '1')<|Jp "due"<|Jm (pg k) "work" 1 'a'<|Jb (Jc Jh 'b' '0') Je
def Jri:Yg (k+1) [x0,x1] h=(Jou k [V x0,V x1] h).fin:=02
def CS:E1:=Jl (Yh k) []<|Jb 'a' Je
def Jit:S1:=Jg (bU (fB (JJ<|Ji cF<|dw wi 'b')<|Ji bg<|Jc jz (bp (bx bq)<|Jb 'b' Je) '4') (Jk<|eC<|.bl Zo) Jx)<|Jg (bU (JJ<|Ji cF<|bp (bx allI)<|Jb (Jy (Jv 'b') 1 [] (bw 0) JC<|CS k) Je) (Jk<|eC<|.bl Zo) Jx)<|Jg (bU (fB (JJ<|Ji bg<|JS eM jU '0' (Jc Jh 'b' '0')<|Jm (pg k) "size" 0 'a' Je)<|Ji bg<|Jc jU (Jc Jh 'b' '1') '0') (Jk<|eC<|.bl Zo) Jx)<|Jg (Jj 2<|Jm (pg k) "work" 1 'a'<|Jb (Jc Jh 'b' '0') Je)<|Jk<|eX (JS eM eM '0' (Jc Jh 'b' '2')<|Jp "late" 'c') (JS eM eM '1' (Jc Jh 'b' '3')<|Jp "length" 'c') cF
def Jk7:Cg (k+1) [x0,x1] h=(Jit k [V x0,V x1,Zg] h).fin:=02
def Jfh:S1:=Jg (Jj 2 Yv)<|Jg (cD (cR Vw<|Jb 'b' Je) (mE 2<|gC (bw 3)<|gC (bw 4) gN)<|Jg (bU (JJ<|Ji cF<|Jl (Cg k) []<|Jb 'a'<|Jb 'e' Je) (Jk 'd') Jx)<|Jg (Jj 5<|Jc Jh 'e' '0')<|Jg (bU (QO (Ji bg<|Jc jB 'f' 'c')<|Ji bg<|Jc jU (Jc JQ (Jc Jh 'e' '1')<|Jc Vi 'c' 'f')<|Jp "gap"<|Jm (pg k) "work" 1 'a'<|Jb 'f' Je) (Jk 'd') Jx)<|fG (Jc Jh 'e' '1')<|jC 'c' 'f')<|Jk<|eC .ah
def Jhd:Ci (k+1) [x0,x1] h=(Jfh k [V x0,V x1,Zg,Zg,Zg,Zg] h).fin:=02
def Jl5:S1:=Jg (bU (Ji bg<|Jc g9 (bp (bx bq)<|Jb 'b' Je)<|eC<|.int 200) cj Jx)<|Jg (Jj 2<|Jl (Ci k) []<|Jb 'a'<|Jb 'b' Je)<|bU (Ji bg<|Jc Xj 'c'<|eC .ah) cj Jx
def Jo0:Cj (k+1) [x0,x1] h=(Jl5 k [V x0,V x1,Zg] h).fin:=02
def Jix:S1:=Jk<|bp (bx VS)<|Jb (Jc Js (JA<|Jb 'c' Je)<|Jy (Jv<|Jm (pg k) "held" 0 'a' Je) 1 [1] (bw 0) (Ji bg<|Jc g9 (Jc Jh 'a' '2') 'b')<|Jc Jh 'a' '2') Je
def Jlb:Ck (k+1) [x0,x1,x2] h=(Jix k [V x0,V x1,V x2] h).fin:=02
def X6:E1:=Jl (xl k) []<|Jb (Jc Jh 'b' 'a') Je
def Kt(k:Nat):S1:=JL "stretches" 'a'<|JA Je
def Jgx:S1:=Jg (JL "order" 'a' 'b')<|Jg (JL "row" 'a' 'c')<|Jg (JL "dones" 'a'<|Jy (Jv 'c') 1 [] (bw 0) JC '0')<|Jg (JL "later" 'a'<|Y0 "Bench.__init__" 1 [2] (Jb (bp (bx bq)<|Jb 'c' Je) Je)<|X6 k)<|Jg (JL "waiting" 'a'<|JA Je)<|Jg (JL "turn" 'a' '0')<|Kt k
def Ji7:Cn (k+1) [x0,x1,x2] h=(Jgx k [V x0,V x1,V x2] h).fin:=02
def Jb8:S1:=Jk<|Jl (xl k) []<|Jb (Jc Jh (Jp "row" 'a')<|Jc Jh (Jp "later" 'a')<|jT v5 '1') Je
def Jcx:Co (k+1) [x0] h=(Jb8 k [V x0] h).fin:=02
def Ku:S1:=V1 (QO (Ji bg<|Jc g9 (bp (bx bq)<|Jb (Jp "later" 'a') Je) '0')<|Ji bg<|Jc eM (Jm (pg k) "next_ready" 0 'a' Je)<|Jp "turn" 'a')<|JH<|Jm (pg k) "append" 1 (Jp "waiting" 'a')<|Jb (Jm (pg k) "pop" 0 (Jp "later" 'a') Je) Je
def Jeo:S1:=Jg (bU (Ji bg<|Jc il (bp (bx bq)<|Jb (Jp "waiting" 'a') Je) '0') (JL "turn" 'a'<|bp (j9 iP)<|Jb (Jp "turn" 'a')<|Jb (Jm (pg k) "next_ready" 0 'a' Je) Je) Jx)<|Ku k
def Jgb:Cp (k+1) [x0] h=(Jeo k [V x0] h).fin:=02
def Jct:S1:=Jg (Jj 2<|Jc Jh (Jp "row" 'a') 'b')<|Jg (Jj 3<|Jc Jh (Jp "dones" 'a') 'b')<|Jg (Jj 4<|Jc JQ (Jl (Ck k) []<|Jb (Jm (pg k) "work" 1 (Jp "duty"<|Jp "order" 'a')<|Jb (Jc Jh 'c' '0') Je)<|Jb 'd'<|Jb (Jc Jh 'c' '3') Je) 'd')<|Jg (bU (Ji bg<|Jc g9 (bp (bx bq)<|Jb (Jp "later" 'a') Je) '0') (Jj 4<|bp (j9 lE)<|Jb 'e'<|Jb (Jc JQ (Jm (pg k) "next_ready" 0 'a' Je)<|Jp "turn" 'a') Je) Jx)<|Jk 'e'
def Jdn:Cq (k+1) [x0,x1] h=(Jct k [V x0,V x1,Zg,Zg,Zg] h).fin:=02
def Kv:S1:=JH<|Jm (pg k) "append" 1 (Jp "stretches" 'a')<|Jb (cT<|Jb 'b'<|Jb 'd'<|Jb 'c' Je) Je
def Jgy:S1:=Jg (Jj 3<|Jp "turn" 'a')<|Jg (bU (QO (Ji bg<|Jc g9 (bp (bx bq)<|Jb (Jp "stretches" 'a') Je) '0')<|Ji bg<|Jc il (Jc Jh (Jc Jh (Jp "stretches" 'a')<|jT v5 '1') '0') 'b') (Jj 3<|Jc Jh (Jm (pg k) "pop" 0 (Jp "stretches" 'a') Je) '1') Jx)<|Kv k
def Ji8:Cr (k+1) [x0,x1,x2] h=(Jgy k [V x0,V x1,V x2,Zg] h).fin:=02
def Jfd:S1:=Jg (JH<|Jm (pg k) "let_in" 0 'a' Je)<|Jg (Jj 1<|Jm (pg k) "pick" 3 (Jp "order" 'a')<|Jb (Jp "row" 'a')<|Jb (Jp "waiting" 'a')<|Jb (Jp "dones" 'a') Je)<|Jg (Jj 2<|Jm (pg k) "turns_for" 1 'a'<|Jb 'b' Je)<|Jg (JH<|Jm (pg k) "tell" 2 'a'<|Jb 'b'<|Jb (Jc Js (Jp "turn" 'a') 'c') Je)<|Jg (XR .Add "turn" 'a' 'c')<|Jg (XS .Add (Jp "dones" 'a') 'b' 'c')<|bU (Ji bg<|Jc il (Jc Jh (Jp "dones" 'a') 'b')<|Jc Jh (Jc Jh (Jp "row" 'a') 'b') '3') (JH<|Jm (pg k) "remove" 1 (Jp "waiting" 'a')<|Jb 'b' Je) Jx
def Jg9:Cs (k+1) [x0] h=(Jfd k [V x0,Zg,Zg] h).fin:=02
def Jy3:S1:=Jg (JH<|Jl (Cj k) []<|Jb (Jp "duty" 'a')<|Jb 'b' Je)<|Jg (Jj 2<|JI "Bench" (Cn k) []<|Jb 'a'<|Jb 'b' Je)<|Jg (V1 (Ji bg<|Jc g9 (Jc Js (bp (bx bq)<|Jb (Jp "later" 'c') Je)<|bp (bx bq)<|Jb (Jp "waiting" 'c') Je) '0')<|JH<|Jm (pg k) "go_on" 0 'c' Je)<|Jk<|Jp "stretches" 'c'
def J20:Ct (k+1) [x0,x1] h=(Jy3 k [V x0,V x1,Zg] h).fin:=02
def Kw(k:Nat):E1:=Jc Vi 'b' 'a'
def Jt5:S1:=Jg (Jj 2 Yv)<|Jg (cD (Jv<|Jl (Ct k) []<|Jb 'a'<|Jb 'b' Je) (bw 3)<|fG (Jc Jh 'd' '2')<|jC 'c'<|Jc Jh 'd' '0')<|Jk<|Jy (cR Qi<|Jb (bp (bx bq)<|Jb 'b' Je) Je) 1 [2] (bw 0) JC<|Kw k
def Jzr:xm (k+1) [x0,x1] h=(Jt5 k [V x0,V x1,Zg,Zg] h).fin:=02
def Kx:T1:=Ji bg<|Jc g9 (Jc Jh 'd' 'a')<|Jl (Yg k) []<|Jb (Jp "duty" 'c')<|Jb 'b' Je
def Jow:S1:=Jg (Jj 2<|Jl (xm k) []<|Jb 'a'<|Jb 'b' Je)<|Jk<|Jy (cR Vw<|Jb 'b' Je) 2 [0,2] (mE 2<|gC (bw 0)<|gC (bw 1) gN) (Kx k) 'a'
def Jrk:Yk (k+1) [x0,x1] h=(Jow k [V x0,V x1,Zg] h).fin:=02
def Ky(k:Nat):E1:=dw (Hb ["Work"]) 'a'
def Kz(k:Nat):E1:=Jp "name" 'a'
def Jiz:S1:=Jg (bU (JJ<|Ji cF<|dw Xg 'a') cj Jx)<|Jg (bU (JJ<|Ji cF<|bp (bx allI)<|Jb (Jy (Jv 'a') 1 [] (bw 0) JC<|Ky k) Je) cj Jx)<|Jg (bU (Ji bg<|Jc jz (Yx<|Jb (Jy (Jv 'a') 1 [] (bw 0) JC<|Kz k) Je)<|bp (bx bq)<|Jb 'a' Je) cj Jx)<|Jk<|bp (bx Xb)<|Jb 'a' Je
def Jld:Cu (k+1) [x0] h=(Jiz k [V x0] h).fin:=02
def CT(k:Nat):E1:=Jp "due" 'a'
def KA:E1:=Jl (w5 k) []<|Jb (Jc Js 'b'<|Jp "late" 'a')<|Jb (Jp "gap" 'a') Je
def Jj4:S1:=Jg (Jj 1<|XB (Jb (Jy (Jv 'a') 1 [] (bw 0) JC<|CT k) Je) '0')<|Jk<|bp (bx iQ)<|Jb (Jy (Jv 'a') 1 [1] (bw 0) JC<|KA k) Je
def Jml:Cv (k+1) [x0] h=(Jj4 k [V x0,Zg] h).fin:=02
def Jim:S1:=Jg (JL "works" 'a'<|Jl (Cu k) []<|Jb 'b' Je)<|Jg (bU (Ji bg<|Jc g9 (bp (bx bq)<|Jb (Jp "works" 'a') Je)<|eC<|.int 12) cj Jx)<|bU (Ji bg<|Jc g9 (Jl (Cv k) []<|Jb (Jp "works" 'a') Je)<|eC<|.int 80) cj Jx
def Jk0:QF (k+1) [x0,x1] h=(Jim k [V x0,V x1] h).fin:=02
def Jin(k:Nat):S1:=Jk<|bp (bx bq)<|Jb (Jp "works" 'a') Je
def Jk1:Cw (k+1) [x0] h=(Jin k [V x0] h).fin:=02
def Jio(k:Nat):S1:=Jk<|Jc Jh (Jp "works" 'a') 'b'
def Jk2:Cy (k+1) [x0,x1] h=(Jio k [V x0,V x1] h).fin:=02
def KC:E1:=Jl (Yh k) []<|Jb 'a' Je
def KD(k:Nat):E1:=Jc Jh (Jp "works" 'b') 'a'
def Jc5:S1:=Jg (bU (fB (JJ<|Ji cF<|dw Xg 'b')<|JJ<|Ji cF<|bp (bx allI)<|Jb (Jy (Jv 'b') 1 [] (bw 0) JC<|KC k) Je) cj Jx)<|Jg (bU (Ji bg<|Jc jz (bp (bx XX)<|Jb 'b' Je)<|oS<|Jb (Jm (pg k) "size" 0 'a' Je) Je) cj Jx)<|Jk<|JI "Duty" (QF k) []<|Jb (Jy (Jv 'b') 1 [0] (bw 0) JC<|KD k) Je
def Jd4:Cz (k+1) [x0,x1] h=(Jc5 k [V x0,V x1] h).fin:=02
def Jgz(k:Nat):S1:=JL "duty" 'a' 'b'
def Ji9:CA (k+1) [x0,x1] h=(Jgz k [V x0,V x1] h).fin:=02
def Jg0:S1:=Jk<|XC j1 "Order.pick" 0 [3,1,0] (Jb 'c' Je)<|Jc Js (Jm (pg k) "standing" 2 'd'<|Jb (Jc Jh 'c' 'a')<|Jb (Jc Jh 'b' 'a') Je)<|cT<|Jb 'a' Je
def Jja:xn (k+1) [x0,x1,x2,x3] h=(Jg0 k [V x0,V x1,V x2,V x3] h).fin:=02
def Jc6:S1:=Jk<|cT<|Jb (Jm (pg k) "rank_of" 2 'a'<|Jb 'b'<|Jb 'c' Je)<|Jb (k9 (Ji cF<|Jm (pg k) "holds" 2 'a'<|Jb 'b'<|Jb 'c' Je) '0' '1') Je
def Jd5:CB (k+1) [x0,x1,x2] h=(Jc6 k [V x0,V x1,V x2] h).fin:=02
def Jfg:S1:=Jg (JH<|Jl (CA k) []<|Jb 'a'<|Jb 'b' Je)<|JL "tops" 'a'<|Jl (w9 k) []<|Jb 'b' Je
def Jhc:V5 (k+1) [x0,x1] h=(Jfg k [V x0,V x1] h).fin:=02
def Jc4:S1:=Jk<|Jl (B8 k) []<|Jb (Jc Jh 'b' '0')<|Jb (Jl (xg k) []<|Jb (Jm (pg k) "work" 1 (Jp "duty" 'a')<|Jb (Jc Jh 'b' '0') Je)<|Jb 'c' Je)<|Jb (Jp "tops" 'a') Je
def Jd3:CC (k+1) [x0,x1,x2] h=(Jc4 k [V x0,V x1,V x2] h).fin:=02
def Jep:S1:=Jk<|Jc g9 (bp (bx bq)<|Jb (Jl (xg k) []<|Jb (Jm (pg k) "work" 1 (Jp "duty" 'a')<|Jb (Jc Jh 'b' '0') Je)<|Jb 'c' Je) Je) '0'
def Jgc:CD (k+1) [x0,x1,x2] h=(Jep k [V x0,V x1,V x2] h).fin:=02
def CU(k:Nat):E1:=Jc Js (Jc JQ 'b'<|Jp "late" 'c')<|Jc Qs 'a'<|Jp "gap" 'c'
def KG(k:Nat):E1:=cT<|Jb 'b'<|Jb 'a'<|Jb (bp (j9 iP)<|Jb '0'<|Jb (Jc JQ 'c' 'a') Je)<|Jb (Jp "length" 'd') Je
def Jj9:S1:=Jg (Jj 4<|Jm (pg k) "work" 1 'a'<|Jb 'b' Je)<|Jg (Jj 5<|Jy (cR Qi<|Jb 'd' Je) 1 [2,4] (bw 0) JC<|CU k)<|Jk<|Jy (Jv 'f') 1 [1,2,4] (bw 0) JC<|KG k
def Jmo:xp (k+1) [x0,x1,x2,x3] h=(Jj9 k [V x0,V x1,V x2,V x3,Zg,Zg] h).fin:=02
def CV(k:Nat):E1:=Jp "late" 'a'
def CW:S1:=Jg (Jj 6<|Jc JQ (Jp "due"<|Jm (pg k) "work" 1 'a'<|Jb 'b' Je)<|Jp "late"<|Jm (pg k) "work" 1 'a'<|Jb 'b' Je)<|Jg (cD (cR Qi<|Jb 'b' Je) (bw 7)<|JH<|Jm (pg k) "extend" 1 'f'<|Jb (Jl (xp k) []<|Jb 'a'<|Jb 'h'<|Jb 'e'<|Jb (Jl (xk k) []<|Jb (Jm (pg k) "work" 1 'a'<|Jb 'h' Je)<|Jb 'g' Je) Je) Je)<|Jg (JH<|Jm (pg k) "extend" 1 'f'<|Jb (Jl (xp k) []<|Jb 'a'<|Jb 'b'<|Jb 'e'<|Jb '1' Je) Je)<|Jk<|cT<|Jb 'f'<|Jb (Jc JQ (bp (bx bq)<|Jb 'f' Je) '1') Je
def Jl6:S1:=Jg (Jj 2<|Jl (xj k) []<|Jb 'a'<|Jb 'b' Je)<|Jg (Jj 3<|k9 (Ji bg<|Jc lq 'c'<|eC .ah) '0'<|Jc Js (Jc Jh (Jc Jh 'c' '1') '1') '1')<|Jg (Jj 4<|bp (bx VR)<|Jb (Jc Js (Jy (Jv<|jY j8 (Jp "works" 'a') V0<|Qz<|Jc Js 'b' '1') 1 [] (bw 0) JC<|CV k)<|JA<|Jb 'd' Je) Je)<|Jg (Jj 5<|JA Je)<|Jg (bU (Ji bg<|Jc Xj 'c'<|eC .ah) (JH<|Jm (pg k) "append" 1 'f'<|Jb (cT<|Jb (Jc Jh 'c' '0')<|Jb (Jc JQ 'e' 'd')<|Jb '0'<|Jb (Jp "length"<|Jm (pg k) "work" 1 'a'<|Jb (Jc Jh 'c' '0') Je) Je) Je) Jx)<|CW k
def Jo1:CF (k+1) [x0,x1] h=(Jl6 k [V x0,V x1,Zg,Zg,Zg,Zg,Zg,Zg] h).fin:=02
def KH:S1:=Jg (Jj 3<|Jl (Xz k) []<|Jb 'a'<|Jb 'c' Je)<|Jg (bU (Ji bg<|Jc lq 'd'<|eC .ah) (XT (λc=>c=="NotKept")<|Yy "NotKept" (w4 k) []<|Jb 'c' Je) Jx)<|JH<|Jm (pg k) "append" 1 'b'<|Jb 'd' Je
def KI:S1:=Jg (cD (cR Qi<|Jb (Jm (pg k) "size" 0 'a' Je) Je) (bw 2)<|KH k)<|Jk 'b'
def KJ:S1:=Jg (Jj 1<|JA Je)<|KI k
def Jur:CG (k+1) [x0] h=(KJ k [V x0,Zg,Zg,Zg] h).fin:=02
def Jj6(k:Nat):S1:=Jk<|k9 (Ji cF<|dw Xg 'a') (bp (bx Q3)<|Jb 'a' Je) 'a'
def Jmn:xq (k+1) [x0] h=(Jj6 k [V x0] h).fin:=02
def Jip:S1:=JL "lines" 'a'<|Jl (xq k) []<|Jb 'b' Je
def Jk3:xr (k+1) [x0,x1] h=(Jip k [V x0,V x1] h).fin:=02
def Jfe:S1:=Jg (JL "row" 'a'<|Jl (xq k) []<|Jb 'b' Je)<|Jg (JL "place" 'a' 'c')<|JL "turn" 'a' 'd'
def Jha:CH (k+1) [x0,x1,x2,x3] h=(Jfe k [V x0,V x1,V x2,V x3] h).fin:=02
def Jff(k:Nat):S1:=Jk<|eC<|.bl Zo
def Jhb:CI (k+1) [x0] h=(Jff k [V x0] h).fin:=02
def Jis:S1:=Jk<|JI "Broken" (CH k) []<|Jb 'b'<|Jb 'c'<|Jb (Jl (Yg k) []<|Jb 'a'<|Jb (Jc Jh 'b' 'c') Je) Je
def Jk6:CJ (k+1) [x0,x1,x2] h=(Jis k [V x0,V x1,V x2] h).fin:=02
def Jfj:S1:=jE (Jk<|JI "Kept" (xr k) []<|Jb (Jl (CG k) []<|Jb 'a' Je) Je) [(Jpy,V 1,(Xu 1<|Jg (Jj 2<|Jl (CF k) []<|Jb 'a'<|Jb (Yw (dh T "at") "at" 'b') Je)<|Jk<|Jl (CJ k) []<|Jb 'a'<|Jb (Jc Jh 'c' '0')<|Jb (Jc Jh 'c' '1') Je))]
def Jhf:CK (k+1) [x0] h=(Jfj k [V x0,Zg,Zg] h).fin:=02
def Jfk(k:Nat):S1:=Jg (bU (Ji bg<|Jc jU 'b'<|bp (bx bq)<|Jb 'a' Je) (Jk<|Jc Jh 'a' 'b') Jx)<|Jk '0'
def Jhg:Yj (k+1) [x0,x1] h=(Jfk k [V x0,V x1] h).fin:=02
def Jg3:S1:=Jg (Jj 2<|JA Je)<|Jg (bU (Ji bg<|Jc rO 'a'<|Jc Qb (eC<|.int 10)<|eC<|.int 30) (Jg (Jj 3<|Jc JQ 'a'<|Jc Qb (eC<|.int 10)<|eC<|.int 30)<|Jg (cD (cR Qi<|Jb 'b' Je) (bw 4)<|Jg (JH<|Jm (pg k) "append" 1 'c'<|Jb (Jc J8 'd'<|Jc Qb (eC<|.int 10)<|eC<|.int 45) Je)<|Jj 3<|Jc Qa 'd'<|Jc Qb (eC<|.int 10)<|eC<|.int 45)<|Jk 'c') Jx)<|Jg (Jj 5<|Jc Js (Jc J8 'a'<|Jc Js (Jc Qb (eC<|.int 10)<|eC<|.int 18) '9')<|eC<|.int 48271)<|Jg (cD (cR Qi<|Jb (Jc Js 'b' '2') Je) (bw 4)<|Jg (Jj 5<|Jc J8 (Jc Js (Jc Js (Jc Qs 'f' 'f')<|Jc Qs (eC<|.int 48271) 'f') 'e')<|Jc Js (Jc Qb (eC<|.int 10)<|eC<|.int 18) '9')<|JH<|Jm (pg k) "append" 1 'c'<|Jb 'f' Je)<|Jk<|jY j8 'c' (Qz '2') V0
def Jjd:xw (k+1) [x0,x1] h=(Jg3 k [V x0,V x1,Zg,Zg,Zg,Zg] h).fin:=02
def KL(k:Nat):S1:=Jk<|cT<|Jb 'e'<|Jb 'f'<|Jb 'g'<|Jb 'h'<|Jb 'i' Je
def Jiv:S1:=Jg (Jj 3<|Jl (xw k) []<|Jb 'a'<|Jb (eC<|.int 10) Je)<|Jg (Jj 4<|Jc Js (Jc Qs 'b'<|Jc Js '1'<|Jc J8 (Jc Jh 'd' '0') '8')<|Jc J8 (Jc Jh 'd' '1') '5')<|Jg (Jj 5<|Jc Js '1'<|Jc J8 (Jc Jh 'd' '2')<|Jc Js (Jc Qa (Jc Qs 'e'<|Jc Jh (JA<|Jb '1'<|Jb '2' Je)<|Jc J8 (Jc Qa (Jc Jh 'd' '1') '5') '2')<|Jc Qs '2' 'c') '1')<|Jg (Jj 6<|Jc JQ 'e'<|Jc Qs (Jc J8 (Jc Jh 'd' '3') '2')<|Jc J8 (Jc Jh 'd' '4')<|Jc Js (Jc Qa (Jc Qs 'e' '9')<|eC<|.int 10) '1')<|Jg (Jj 7<|Jc Qs (Jc J8 (Jc Jh 'd' '5') '2')<|Jc J8 (Jc Jh 'd' '6')<|Jc Js (Jc Qa 'e' '4') '1')<|Jg (Jj 8<|JA Je)<|Jg (bU (QO (Ji bg<|Jc g9 'f' '1')<|Ji bg<|Jc il (Jc J8 (Jc Jh 'd' '7') '3') '0') (Jg (Jj 9<|Jc J8 (Jc Jh 'd' '8')<|Jc JQ 'f' '1')<|Jg (Jj 10<|Jc Js (Jc Js 'j' '1')<|Jc J8 (Jc Jh 'd' '9')<|Jc JQ (Jc JQ 'f' '1') 'j')<|JH<|Jm (pg k) "append" 1 'i'<|Jb (cT<|Jb (Jc Jh (JA<|Jb (eC<|.str "ink")<|Jb (eC<|.str "oven") Je)<|Jc J8 (Jc Qa (Jc Jh 'd' '7') '3') '2')<|Jb 'j'<|Jb 'k' Je) Je) Jx)<|KL k
def Jk9:CL (k+1) [x0,x1,x2] h=(Jiv k [V x0,V x1,V x2,Zg,Zg,Zg,Zg,Zg,Zg,Zg,Zg] h).fin:=02
def KN(k:Nat):E1:=eC<|.int 0
def Jmb:S1:=Jg (Jj 3<|JA Je)<|Jg (Jj 4<|Jy (Jv 'b') 1 [] (bw 0) JC<|KN k)<|Jg (Jj 5 '0')<|Jg (cD (Jv 'a') (bw 6)<|Jg (Jj 7<|Jl (xw k) []<|Jb 'g'<|Jb '6' Je)<|Jg (Jj 8<|Jc J8 (Jc Jh 'h' '0')<|bp (bx bq)<|Jb 'b' Je)<|Jg (fG (Jc Jh 'b'<|Jc Jh 'c' 'i')<|mE 5<|gC (bw 9)<|gC (bw 10)<|gC (bw 11)<|gC (bw 12)<|gC (bw 13) gN)<|Jg (Jj 14<|Jc Js 'f'<|Jc Jh (JA<|Jb '0'<|Jb '0'<|Jb (Jc J8 (Jc Jh 'h' '1') '3')<|Jb (Jc J8 (Jc Jh 'h' '1')<|Jc Js 'j' '1') Je)<|Jc J8 (Jc Jh 'h' '2') '4')<|Jg (Jj 15<|bp (j9 iP)<|Jb (Jc Jh 'e' 'i')<|Jb (Jc JQ 'o'<|Jc Qs (Jc J8 (Jc Qa (Jc Jh 'h' '2') '4') '2') 'm') Je)<|Jg (Jj 16<|Jc Jh (JA<|Jb '0'<|Jb 'm'<|Jb (bp (j9 iP)<|Jb '0'<|Jb (bp (j9 lE)<|Jb 'm'<|Jb (Jc JQ 'o' 'p') Je) Je)<|Jb (Jc J8 (Jc Jh 'h' '3')<|Jc Js 'm' '1') Je)<|Jc J8 (Jc Jh 'h' '4') '4')<|Jg (Jj 17<|Jc Jh (JA<|Jb 'k'<|Jb 'k'<|Jb (Jc Js '1'<|Jc J8 (Jc Jh 'h' '5') 'k') Je)<|Jc J8 (Jc Qa (Jc Jh 'h' '4') '4') '3')<|Jg (JH<|Jm (pg k) "append" 1 'd'<|Jb (cT<|Jb 'i'<|Jb 'p'<|Jb 'q'<|Jb 'r' Je) Je)<|Jg (fG (Jc Js 'p' 'j')<|tM 'e' 'i')<|Jj 5<|bp (j9 iP)<|Jb 'f'<|Jb 'p' Je)<|Jk 'd'
def Jo6:CM (k+1) [x0,x1,x2] h=(Jmb k [V x0,V x1,V x2,Zg,Zg,Zg,Zg,Zg,Zg,Zg,Zg,Zg,Zg,Zg,Zg,Zg,Zg,Zg] h).fin:=02
def Jiu:S1:=Jg (Jj 2<|oS<|Jb 'a' Je)<|Jg (Jj 3<|JA Je)<|Jg (V1 (Ji bg<|Jc jz 'c'<|JA Je)<|Jg (JH<|Jm (pg k) "append" 1 'd'<|Jb (Jm (pg k) "pop" 1 'c'<|Jb (Jc J8 'b'<|bp (bx bq)<|Jb 'c' Je) Je) Je)<|Jj 1<|Jc Qa 'b' '5')<|Jk 'd'
def Jk8:CO (k+1) [x0,x1] h=(Jiu k [V x0,V x1,Zg,Zg] h).fin:=02
def Jg2:S1:=Jg (Jj 3<|Jl (CK k) []<|Jb 'a' Je)<|Jg (bU (Ji bg<|Jc Xj (Jm (pg k) "kept" 0 'd' Je)<|eC<|.bl Zo) (Jk<|eC<|.bl Zo) Jx)<|Jg (Jj 4<|Jc Jh (Jp "row" 'd')<|Jp "place" 'd')<|Jg (Jj 5<|Jc Jh (Jl (xm k) []<|Jb (JI "ByRank" (V5 k) []<|Jb 'a' Je)<|Jb (Jp "row" 'd') Je)<|Jp "place" 'd')<|Jk<|eX (Jc il (Jp "turn" 'd')<|Jc Js (Jc Jh 'e' '1')<|Jc Jh (Jc Jh 'b'<|Jc Jh 'c'<|Jc Jh 'e' '0') '2') (Jc g9 'f'<|Jp "turn" 'd') cF
def Jjc:xx (k+1) [x0,x1,x2] h=(Jg2 k [V x0,V x1,V x2,Zg,Zg,Zg] h).fin:=02
def CY(k:Nat):E1:=Jc Jh 'b' 'a'
def Jy2:S1:=Jg (Jj 1<|Jl (Yj k) []<|Jb 'a'<|Jb '0' Je)<|Jg (Jj 2<|Jc Js '1'<|Jc J8 (Jc Qa 'b' '4')<|Jc Jh (JA<|Jb '3'<|Jb (Jc Qb (eC<|.int 10)<|eC<|.int 15) Je)<|Jc J8 'b' '2')<|Jg (Jj 3<|Jc Js '1'<|Jc J8 (Jc Qa 'b' '8') '5')<|Jg (Jj 4<|Jy (cR Qi<|Jb 'd' Je) 1 [3,0,2] (bw 0) JC<|Jl (CL k) []<|Jb (Jl (Yj k) []<|Jb 'c'<|Jb (Jc Js '2' 'a') Je)<|Jb 'd'<|Jb 'b' Je)<|Jg (Jj 5<|JA Je)<|Jg (cD (cR Qi<|Jb 'd' Je) (bw 6)<|Jg (fG (Jc Jh 'e' 'g')<|mE 5<|gC (bw 7)<|gC (bw 8)<|gC (bw 9)<|gC (bw 10)<|gC (bw 11) gN)<|JH<|Jm (pg k) "append" 1 'f'<|Jb (JI "Work" (Yf k) []<|Jb (jY nt (eC<|.str "press") (Qz<|Jc JQ '4' 'g') V0)<|Jb 'h'<|Jb 'i'<|Jb 'j'<|Jb 'k'<|Jb (bp (bx Q3)<|Jb 'l' Je) Je) Je)<|Jg (Jj 12<|eC .ah)<|Jg (jE (Jj 12<|Jl (Cf k) []<|Jb (JI "Duty" (QF k) []<|Jb (bp (bx Q3)<|Jb 'f' Je) Je) Je) [(Jpx,Zg,(Jj 12<|eC .ah))])<|Jg (bU (Ji bg<|Jc lq 'm'<|eC .ah) (Jg (Jj 12<|Jl (CO k) []<|Jb 'd'<|Jb (Jc J8 (Jl (Yj k) []<|Jb 'a'<|Jb '1' Je)<|Jc Qb (eC<|.int 10)<|eC<|.int 30) Je)<|Jg (bU (Ji bg<|Jc il (Jc J8 (Jc Qa 'b'<|eC<|.int 40) '2') '1') (Jk<|Jl (xx k) []<|Jb (Jm (pg k) "reordered" 1 (JI "Duty" (QF k) []<|Jb 'f' Je)<|Jb 'm' Je)<|Jb 'e'<|Jb 'm' Je) Jx)<|Jk<|Jl (xx k) []<|Jb (JI "Duty" (QF k) []<|Jb (Jy (Jv 'm') 1 [5] (bw 0) JC<|CY k) Je)<|Jb 'e'<|Jb 'm' Je) Jx)<|Jg (Jj 13<|Jl (CM k) []<|Jb (jY j8 'a' (Qz<|Jc Js '2' 'd')<|Qz<|Jc Js (eC<|.int 14) 'd')<|Jb 'e'<|Jb 'm' Je)<|Jg (bU (Ji bg<|Jc il (Jc J8 (Jc Qa 'b'<|eC<|.int 40) '2') '1') (Jk<|Jc il (Jl (Yk k) []<|Jb (JI "ByRank" (V5 k) []<|Jb (Jm (pg k) "reordered" 1 (JI "Duty" (QF k) []<|Jb 'f' Je)<|Jb 'm' Je) Je)<|Jb 'n' Je)<|JA Je) Jx)<|Jk<|Jc il (Jl (Yk k) []<|Jb (JI "ByRank" (V5 k) []<|Jb (JI "Duty" (QF k) []<|Jb (Jy (Jv 'm') 1 [5] (bw 0) JC<|Jc Jh 'b' 'a') Je) Je)<|Jb 'n' Je)<|JA Je
def J2z:Yi (k+1) [x0] h=(Jy2 k [V x0,Zg,Zg,Zg,Zg,Zg,Zg,Zg,Zg,Zg,Zg,Zg,Zg,Zg] h).fin:=02
end
def xA(k):Qg (pg k) "held" 0 "Work"=V (B7 k,[]):=02
def Jcw(k):Qg (pg k) "next_ready" 0 "Bench"=V (Co k,[]):=02
def Jf6(k):Qg (pg k) "let_in" 0 "Bench"=V (Cp k,[]):=02
def Jdl(k):Qg (pg k) "turns_for" 1 "Bench"=V (Cq k,[]):=02
def Ji5(k):Qg (pg k) "tell" 2 "Bench"=V (Cr k,[]):=02
def Jg6(k):Qg (pg k) "go_on" 0 "Bench"=V (Cs k,[]):=02
def X9(k):Qg (pg k) "size" 0 "Duty"=V (Cw k,[]):=02
def CZ(k):Qg (pg k) "work" 1 "Duty"=V (Cy k,[]):=02
def KO(k):Qg (pg k) "reordered" 1 "Duty"=V (Cz k,[]):=02
def Jd1(k):Qg (pg k) "rank_of" 2 "ByRank"=V (CC k,[]):=02
def Jf7(k):Qg (pg k) "holds" 2 "ByRank"=V (CD k,[]):=02
def Jg8(k):Qg (pg k) "pick" 3 "ByRank"=V (xn k,[]):=02
def Jdm(k):Qg (pg k) "standing" 2 "ByRank"=V (CB k,[]):=02
def Jg7(k):Qg (pg k) "kept" 0 "Broken"=V (CI k,[]):=02
end LW
section
open PySem L2 L3 L4
namespace LW
open PySem L2 L3 L4
section
variable{k:Nat}{h:IH}
def J6:1000000<sizeLine:=01
def VV(o o'):List.set (h++[o]) (WP h) o'=h++[o']:=03
def V2(o o')(g):List.set (h++o::g) (WP h) o'=h++o'::g:=03
end
section
seal L4.run
section
variable{α β:Type}{U:aD}{h h1:IH}{N:aD->IH->Prop}{R P:IV->IH->Prop}
theorem xb(x:WR r λa h=>WR (f a h) Q):WR (r.bind f) Q:=(J9 ..).mpr x
theorem ae(x:WS (a U h) (λj h1=>WS (b j h1) N R) R):WS (Jg a b U h) N R:=(UU ..).mpr x
theorem ao(x:WS r (λ_ h=>P .ah h) P):WR r.fin P:=(US ..).mpr x
theorem ak(x:WR (e U h) λv h1=>N (U.set i<|V v) h1):WS (Jj i e U h) N R:=(UW ..).mpr x
theorem au(x:WR (e U h) R):WS (Jk e U h) N R:=(UY ..).mpr x
theorem JU(x:WR (e U h) λ_ h1=>N U h1):WS (JH e U h) N R:=(UZ ..).mpr x
theorem nF(x:WR (t U h) λc h1=>(c=Zl->WS (a U h1) N R)/\(c=Zo->WS (b U h1) N R)):WS (bU t a b U h) N R:=(UX ..).mpr x
theorem jG(x:WR (t U h) λc h1=>(c=Zl->WR (a U h1) P)/\(c=Zo->WR (b U h1) P)):WR (k9 t a b U h) P:=(U0 ..).mpr x
theorem C0(x:WR (a U h) λc h1=>(c=Zl->WR (b U h1) Q)/\(c=Zo->Q Zo h1)):WR (QO a b U h) Q:=(WA ..).mpr x
def eI[Decidable p](x:p->a)(y:¬p->b):(decide p=Zl->a)/\(decide p=Zo->b):=05
def aM(x:N U h):WS (Jx U h) N R:=(x)
def xok(x:Q a h):WR (.ok a h) Q:=(x)
theorem qm(x:WR (a U h) λxs h1=>WP xs<=sizeLine/\P (.tup xs) h1):WR (cT a U h) P:=(WC ..).mpr x
theorem nG(x:WR (a U h) λxs h1=>WP xs<=sizeLine/\P (.ref (WP h1)) (h1++[.lst xs])):WR (JA a U h) P:=(WG ..).mpr x
theorem C1(g:h[i]?=V (.lst xs))(e:bI xs n=V x)(q:P x h):WR (Jh (.ref i) (.int n) h) P:=(WU ..).mpr #[_,g,_,e,q]
theorem t6(e:bI xs n=V x)(q:P x h):WR (Jh (.tup xs) (.int n) h) P:=(WQ ..).mpr #[_,e,q]
theorem J8p(g:h[i]?=V (.lst xs))(q:P (.int (WP xs)) h):WR (bq (.ref i) h) P:=(WV ..).mpr #[_,g,q]
theorem C2(l:0<j)(q:P (.int<|i%j) h):WR (J8 (.int i) (.int j) h) P:=(WN ..).mpr #[l,q]
theorem J8n(l:0<j/\j.natAbs.log2<9000)(q:P (.int<|i/j) h):WR (Qa (.int i) (.int j) h) P:=(WM ..).mpr #[l,q]
theorem C3(l:Vq i j)(q:P (.int<|i*j) h):WR (Qs (.int i) (.int j) h) P:=(WL ..).mpr #[l,q]
def aq(ho:o U h=.ok (.ref i) h1)(g:h1[i]?=V (.ins c fs))(l:fs.lookup f=V x):Jp f o U h=.ok x h1:=by calc Ju ?_;rw[WK,ho];show#[x,(Q9 g).trans l,07,07]
def aF(j:a U h=.ok x h1)(k:b U h1=.ok y J):Jc f a b U h=f x y J:=by unfold Jc;rw[j];dsimp only[Res.bind];rw[k]
def aj(j:a U h=.ok x h1):Jb a Je U h=.ok [x] h1:=by unfold Jb;rw[j];rfl
def az(j:a U h=.ok x h1)(k:b U h1=.ok y J):Jb a (Jb b Je) U h=.ok [x,y] J:=by unfold Jb;rw[j];dsimp only[Res.bind];rw[k];rfl
def gu(j:a U h=.ok xs h1):bp f a U h=f xs h1:=by unfold bp;rw[j];rfl
def J0(j:a U h=.ok xs h1)(k:f (xs++d) h1=.ok v J):Jl f d a U h=.ok v J:=by unfold Jl;rw[j];show k
def bR(j:a U h=.ok (.bl c) h1):Ji bg a U h=.ok c h1:=by unfold Ji;rw[j];rfl
def dj(j:a U h=.ok (.ref i) h1)(g:h1[i]?=V (.lst xs)):bp (bx bq) (Jb a Je) U h=.ok (.int (WP xs)) h1:=by rw[gu<|aj j];show Ju<|J8p g #[07,07]
def aP(j:a U h=.ok (.ref i) h1)(k:b U h1=.ok (.int n) J)(g:J[i]?=V (.lst xs))(e:bI xs n=V x):Jc Jh a b U h=.ok x J:=by rw[aF j k];show Ju<|C1 g e #[07,07]
def aC(j:a U h=.ok (.tup xs) h1)(k:b U h1=.ok (.int n) J)(e:bI xs n=V x):Jc Jh a b U h=.ok x J:=by rw[aF j k];show Ju<|t6 e #[07,07]
def kj(k:a U h=.ok (.int i) h1)(m:b U h1=.ok (.int j) J):Ji bg (Jc g9 a b) U h=.ok (decide (j<i)) J:=(bR<|aF k m)
def C4(k:a U h=.ok (.int i) h1)(m:b U h1=.ok (.int j) J):Ji bg (Jc eM a b) U h=.ok (decide (i<=j)) J:=(bR<|aF k m)
def ng(k:a U h=.ok (.int i) h1)(m:b U h1=.ok (.int j) J):Ji bg (Jc jU a b) U h=.ok (decide (i<j)) J:=(bR<|aF k m)
def KP(k:a U h=.ok (.int i) h1)(m:b U h1=.ok (.int j) J):Ji bg (Jc rO a b) U h=.ok (decide (j<=i)) J:=(bR<|aF k m)
def rY(k:a U h=.ok (.int i) h1)(m:b U h1=.ok (.int j) J):Ji bg (Jc il a b) U h=.ok (decide (i=j)) J:=(bR<|aF k m)
def aU(k:a U h=.ok (.int i) h1)(m:b U h1=.ok (.int j) J):Jc Js a b U h=.ok (.int<|i+j) J:=(aF k m)
def cZ(k:a U h=.ok (.int i) h1)(m:b U h1=.ok (.int j) J):Jc JQ a b U h=.ok (.int<|i-j) J:=(aF k m)
def fM(j:a U h=.ok x h1)(k:b U h1=.ok y J)(m:c U J=.ok z h3):Jb a (Jb b<|Jb c Je) U h=.ok [x,y,z] h3:=by rw[show Jb a (Jb b<|Jb c Je) U h=(a U h).bind λx h1=>(Jb b (Jb c Je) U h1).bind λxs J=>.ok (x::xs) J from 07,j];change(Jb b (Jb c Je) U h1).bind _=_;rw[az k m];rfl
def iS(j:a U h=.ok x h1)(m:b U h1=.ok y J)(B:c U J=.ok z h3)(k:d U h3=.ok u h4):Jb a (Jb b<|Jb c<|Jb d Je) U h=.ok [x,y,z,u] h4:=by rw[show Jb a (Jb b<|Jb c<|Jb d Je) U h=(a U h).bind λx h1=>(Jb b (Jb c<|Jb d Je) U h1).bind λxs J=>.ok (x::xs) J from 07,j];change(Jb b (Jb c<|Jb d Je) U h1).bind _=_;rw[fM m B k];rfl
theorem bN(k:a U h=.ok (.int i) h1)(m:b U h1=.ok (.int j) J)(l:0<j):Jc J8 a b U h=.ok (.int<|i%j) J:=(aF k m).trans<|Ju<|C2 l #[07,07]
theorem Q8(k:a U h=.ok (.int i) h1)(m:b U h1=.ok (.int j) J)(l:0<j)(z:j.natAbs.log2<9000):Jc Qa a b U h=.ok (.int<|i/j) J:=(aF k m).trans<|Ju<|J8n #[l,z] #[07,07]
theorem fN(k:a U h=.ok (.int i) h1)(m:b U h1=.ok (.int j) J)(l:Vq i j):Jc Qs a b U h=.ok (.int<|i*j) J:=(aF k m).trans<|Ju<|C3 l #[07,07]
def dH(j:a U h=.ok xs h1)(l:Nat.ble (WP xs) 1000=Zl):JA a U h=.ok (.ref (WP h1)) (h1++[.lst xs]):=(Ju<|nG<|Jf j #[Zb (Ef l)<|Zb 01<|Z7 J6,07,07])
def hZ(j:a U h=.ok xs h1)(l:Nat.ble (WP xs) 1000=Zl):cT a U h=.ok (.tup xs) h1:=(Ju<|qm<|Jf j #[Zb (Ef l)<|Zb 01<|Z7 J6,07,07])
def rZ(j:a U h=.ok xs h1)(l:Nat.ble (WP xs) 1000=Zl)(k:b U (h1++[.lst xs])=.ok (.int n) (h1++[.lst xs]))(e:bI xs n=V x):Jc Jh (JA a) b U h=.ok x (h1++[.lst xs]):=(aP (dH j l) k Jr e)
def lQ(k:a U h=.ok (.int i) h1)(m:b U h1=.ok (.int j) J):bp (j9 iP) (Jb a<|Jb b Je) U h=.ok (.int (if j>i then j else i)) J:=(gu<|az k m)
def t7(k:a U h=.ok (.int i) h1)(m:b U h1=.ok (.int j) J):bp (j9 lE) (Jb a<|Jb b Je) U h=.ok (.int (if j<i then j else i)) J:=(gu<|az k m)
def dk{Pg:Pg}(e:o U h=.ok (.ref i) h1)(hi:h1[i]?=V (.ins c fs))(k:fs.lookup m=Zg)(hd:Qg Pg m n c=V (f,d))(ha:a U h1=.ok xs J)(j:f (.ref i::(xs++d)) J=.ok v h3):Jm Pg m n o a U h=.ok v h3:=by calc Ju<|(Hm e hi k hd).mpr<|Jf ha<|Jf j #[07,07]
def km[Decidable p](e:t U h=.ok (decide p) h1)(x:p->WS (a U h1) N R)(y:¬p->WS (b U h1) N R):WS (bU t a b U h) N R:=(nF<|Jf e<|eI x y)
def bE(e:t U h=.ok Zo h1)(x:WS (b U h1) N R):WS (bU t a b U h) N R:=(nF (Jf e #[(λz=>by cases z),λ_=>x]))
def qp(e:t U h=.ok Zl h1)(x:WS (a U h1) N R):WS (bU t a b U h) N R:=(nF (Jf e #[λ_=>x,λz=>by cases z]))
def jg(e:r=.next W1 h1)(x:N W1 h1):WS r N R:=by rw[e];show x
theorem jH(x:WR (it U h) λbB h1=>WS (Qc bB.2 g b bB.1 U h1) N R):WS (cD it g b U h) N R:=(He ..).mpr x
def eS{r:Res α}(e:r=.ok c h)(q:c=d):r=.ok d h:=(q▸e)
def jI(j:a U h=.ok v h1)(t:(iO v h1).bind dG=V b):dw dG a U h=.ok (.bl b) h1:=(Ju<|(WI ..).mpr<|Jf j #[b,t,07,07])
def c3(e:a U h=.ok c h1):JJ a U h=.ok (!c) h1:=by unfold JJ;rw[e];rfl
def cK(e:a U h=.ok (.bl c) h1):Ji cF a U h=.ok c h1:=by unfold Ji;rw[e];rfl
def r7(e:a U h=.ok Zo h1)(j:b U h1=r):fB a b U h=r:=by unfold fB;rw[e];show j
def C5(e:a U h=.ok Zl h1)(j:b U h1=r):QO a b U h=r:=by unfold QO;rw[e];show j
def C6(e:a U h=.ok Zo h1):QO a b U h=.ok Zo h1:=by unfold QO;rw[e];rfl
def xB(e:a U h=.ok (.bl Zl) h1)(j:b U h1=r):eX a b cF U h=r:=by unfold eX;rw[e];show j
theorem C7(k:a U h=.ok (.int i) h1)(m:b U h1=.ok (.int j) J)(l:i<j):Jc jU a b U h=.ok (.bl Zl) J:=(aF k m).trans (by change Res.ok (IV.bl<|decide (i<j)) J=_;rw[decide_eq_true l])
def chT(k:a U h=.ok (.int i) h1)(m:b U h1=.ok (.int j) J)(u:c U J=.ok (.int l) h3)(t1:i<=j)(t2:j<l):JS eM jU a b c U h=.ok (.bl Zl) h3:=by unfold JS;rw[k];dsimp only[Res.bind];rw[m];change(match IV.bl (decide (i<=j))with|.bl Zl=>_|.bl Zo=>_|_=>_)=_;rw[decide_eq_true t1];rw[u];change Res.ok (IV.bl<|decide (j<l)) h3=_;rw[decide_eq_true t2]
def lR{n:Nat}(j:e U h=.ok (.int (n:Int)) h1)(l:n<1000000)(x:WS (Qc (λ_=>True) g b (aR 0 (n:Int)) U h1) N R):WS (cD (cR Qi<|Jb e Je) g b U h) N R:=by rw[He,Vn];calc Jf (aj j) ?_;rw[Yd];show#[05,x]
def xD(j:a U h=.ok (.ref i) h1)(g:h1[i]?=V (.lst xs)):bp (bx Q3) (Jb a Je) U h=.ok (.ref (WP h1)) (h1++[.lst xs]):=by rw[gu<|aj j];show Ju<|(Za ..).mpr #[_,g,07,07]
def Qu(ev:e U h=.ok v h1)(j:o U h1=.ok (.ref i) h1)(g:h1[i]?=V (.ins c fs))(l:WP fs<1000)(q:N U<|h1.set i<|.ins c<|bL f v fs):WS (JL f o e U h) N R:=by rw[YZ];show Jf ev<|Jf j #[i,c,fs,07,g,l,q]
def J8j(k:o U h=.ok (.ref i) h1)(g:h1[i]?=V (.ins c fs))(l:fs.lookup f=V (.int a))(j:e U h1=.ok (.int b) J)(g2:J[i]?=V (.ins c gs))(z:WP gs<1000)(q:N U<|J.set i<|.ins c<|bL f (.int<|a+b) gs):WS (XR .Add f o e U h) N R:=by unfold XR;rw[k];simp![rS,g,l,j,L4.mJ,g2,z];show q
def J8k(E:o U h=.ok (.ref i) h1)(D:k U h1=.ok (.int n) J)(g:J[i]?=V (.lst xs))(m:bI xs n=V (.int a))(u:0<=n)(C:e U J=.ok (.int b) h3)(B:h3[i]?=V (.lst ys))(F:ik (WP ys) n=V j)(q:N U<|h3.set i<|.lst<|ys.set j<|.int<|a+b):WS (XS .Add o k e U h) N R:=by unfold XS;rw[E];simp![rS,D,wQ,g,m,u,if_true,C,L4.mJ,hJ,B,F];show q
theorem Xf{Pg:Pg}(e:o U h=.ok (.ref i) h1)(hi:h1[i]?=V (.ins c fs))(j:fs.lookup m=Zg)(hd:Qg Pg m n c=V (f,d))(x:WR (a U h1) λvs J=>WR (f (.ref i::(vs++d)) J) P):WR (Jm Pg m n o a U h) P:=(Hm e hi j hd).mpr x
theorem Qo{Pg:Pg}(e:o U h=.ok (.ref i) h1)(k:h1[i]?=V (.lst xs))(j:dX "list" m n=V g)(x:WR (a U h1) λvs J=>WR (g (.ref i) vs J) P):WR (Jm Pg m n o a U h) P:=(W8 e k j).mpr x
theorem gv(g:h[i]?=V (.lst xs))(l:WP xs<sizeLine)(q:P .ah<|h.set i<|.lst<|xs++[y]):WR (Xh (.ref i) [y] h) P:=(W9 ..).mpr #[_,g,l,q]
def t8(g:h[i]?=V (.lst xs))(l:xs[WP xs-1]?=V y)(q:P y<|h.set i<|.lst xs.dropLast):WR (XN (.ref i) [] h) P:=by
 let e:VQ (.ref i) h=V (i,xs):=by unfold VQ;simp![g]
 unfold XN;rw[e];dsimp only;rw[l];show q
def t9{ns:To}(g:h[i]?=V (.lst<|ns.map .int))(l:ns.findIdx? (· ==k)=V j)(q:P .ah<|h.set i<|.lst<|(ns.map IV.int).eraseIdx j):WR (XO (.ref i) [.int k] h) P:=by
 let e:VQ (.ref i) h=V (i,ns.map .int):=by unfold VQ;simp![g]
 unfold XO;rw[e];dsimp only;rw[Vv];dsimp only;rw[l];show q
def KQ:dX "list" "pop" 0=V XN:=02
def KR:dX "list" "remove" 1=V XO:=02
end
end
section
variable{k:Nat}{h:IH}
def C8(ns:To)(n)(hn:0<=n):Yj (k+1) [.cG<|ns.map .int,.int n] h=.ok (.int<|ns.getD n.toNat 0) h:=(Ju (by
 rw[Jhg];refine ao<|ae<|km (ng 07 ((gu<|aj 07).trans 07)) (λq=>?_) λq=>aM<|au<|Jf 07 #[?_,07]
 .rw[Zn]at q;let l:n.toNat<WP ns:=(vm hn).2 q;show au (Jf ((aF 07 07).trans<|Ju<|(WT ..).mpr #[.int ns[n.toNat],Hg hn 03,07,07]) #[by rw[Zk,Zd l];rfl,07])
 .rw[Zn]at q;rw[Zk,qM 05];rfl))
end
section
seal L4.run L4.WS
section
variable{k:Nat}{h:IH}
def chV{q:Int->Int->Bool}(B:∀x y h,f (.int x) (.int y) h=.ok (.bl<|q x y) h)(k:a U h=.ok (.int i) h)(m:b U h=.ok (.int j) h)(u:c U h=.ok (.int l) h):JS eM f a b c U h=.ok (.bl<|decide (i<=j)&&q j l) h:=by unfold JS;rw[k];dsimp only[Res.bind];rw[m];change(match IV.bl (decide (i<=j))with|.bl Zl=>_|.bl Zo=>_|_=>_)=_;cases decide (i<=j)with|false=>rfl|true=>rw[u];show B _ _ _
def C9(i):Yh (k+1) [.int i] h=.ok (.bl Zl) h:=by rw[Jmm];rfl
def xE(i j):V6 (k+2) [.int i,.int j] h=.ok (.bl<|decide (j<=i)) h:=by show Ju<|by rw[Jeu];show ao<|au<|Jf (xB (J0 (aj 07)<|C9 i)<|(aF 07 07).trans 07) #[07,07]
def h2(x:Str):Prop:=1<=x.length/\x.length<=8/\∀c∈x.1.1,97<=c/\c<=122
def J6c:(eA "a").1.1=[97]:=by decide +kernel
def J8q:(eA "z").1.1=[122]:=by decide +kernel
def J03(j:97<=c/\c<=122):xy k [V<|.str ⟨#[c]⟩] h=.ok (.bl Zl) h:=by
 calc Ju ?_;let m:¬([c]<[97]):=λq=>by cases q with|rel q=>show uu (Zc j.1 1) q|cons q=>cases q
 let J:¬([122]<[c]):=λq=>by cases q with|rel q=>show uu (Zc j.2 1) q|cons q=>cases q
 simp![xy,WB,Vm,RF,YV,WO,J6c,J8q,m,J,decide_false,Bool.not_false,false_implies,true_and,Bool.true_eq_false,IV.bl.injEq,exists_eq_left',implies_true]
def KS(C:h2 x):WR (w6 (k+1) [.str x] h) λv h'=>v=.bl Zl/\Ex h h':=by let#[G,J,D]:=C;let j:=J6;let B:x.length<=sizeLine:=Zb (Zi _ 999993)<|Zb (Zc J 999993) j;let H:(1:Int)<=x.length:=jq.2 06;let I:(x.length:Int)<=8:=jq.2 06;let u:bx bq [IV.str x] h=.ok (.int x.length) h:=Ju<|(WW x).mpr #[B,07,07];rw[Jo5];calc ao<|ae<|bE (r7 (c3<|cK<|jI (b:=Zl) 07 07)<|eS (c3<|bR<|chV (λ_ _ _=>07) 07 ((gu<|aj 07).trans u) 07) 05)<|aM<|au ?_;let#[_,_,E,rfl,g,rfl]:=(Q0 (it:=Jv 'a') (e:=xy k) (js:=[]) (U:=[V<|.str x]) (f:=λ_=>.bl Zl) #[07,07,07] (by rw[show(VX x).length=x.length by simp[VX,Str.length]];show Zb (Zi _ 999992)<|Zb (Zc (Zc J 1) 999992) j) (λ_ _=>trivial) (by intro v F J _;let#[c,m,rfl]:=ZC.1 F;show Jf (J03<|D c m) #[07,.refl _])).eq;show Jf ((gu<|aj E).trans<|all_map Jw) #[by rw[pb.2 λ_ _=>07],.cons ..]
abbrev Hd:=Str×Int×Int
abbrev _root_.Wg:=Option<|Nat×Hd
abbrev _root_.Wm:=List<|List Hd
abbrev _root_.Tx:=List Hd
noncomputable def aJ (a:Hd):IV:=.tup [.str a.1,.int a.2.1,.int a.2.2]
def nr(len:Int)(a:Hd):Prop:=h2 a.1/\0<=a.2.1/\a.2.1<a.2.2/\a.2.2<len
def Dc(a b:Hd):Prop:=a.2.2<=b.2.1\/b.2.2<=a.2.1\/(a.1≠b.1/\((b.2.1<=a.2.1/\a.2.2<=b.2.2)\/(a.2.1<=b.2.1/\b.2.2<=a.2.2)))
def Jpf(ha:nr len a):WR (B3 (k+3) [aJ a,.int len] h) λv h'=>v=.bl Zl/\Ex h h':=by let#[m,J,j,u]:=ha;let#[_,h',e,rfl,x]:=(KS m).eq;rw[Jo4];show ao (ae<|bE (r7 (c3<|cK<|jI (b:=Zl) 07 07)<|r7 (bR<|(aF ((gu<|aj 07).trans 07) 07).trans 07)<|c3<|cK<|J0 (aj<|aC 07 07 JR) e)<|aM<|ae<|bE (eS (c3<|cK<|J0 (az (aC 07 07 JP) 07)<|xE a.2.1 0)<|by simp_all)<|aM<|au<|Jf (xB (eS (J0 (az (aC 07 07 Q2)<|aU (aC 07 07 JP) 07)<|xE a.2.2<|a.2.1+1)<|congrArg IV.bl<|decide_eq_true j)<|C7 (aC 07 07 Q2) 07 u) #[07,x])
def KU(j:a U h=.ok (.bl x) h)(k:b U h=.ok (.bl y) h):rN a b cF U h=.ok (.bl<|x||y) h:=by
 unfold rN;rw[j];cases x
 .show k
 .rfl
def Dd(j:a U h=.ok (.bl x) h)(k:b U h=.ok (.bl y) h):eX a b cF U h=.ok (.bl<|x&&y) h:=by
 unfold eX;rw[j];cases x
 .rfl
 .show k
def Jlh(a b):B4 (k+1) [aJ a,aJ b] h=.ok (.bl<|decide (a.2.2<=b.2.1)||decide (b.2.2<=a.2.1)) h:=(Ju (by rw[Jla];show ao<|au<|Jf (KU ((aF (aC 07 07 Q2)<|aC 07 07 JP).trans 07)<|(aF (aC 07 07 Q2)<|aC 07 07 JP).trans 07) #[07,07]))
def KW(a b):w7 (k+1) [aJ a,aJ b] h=.ok (.bl<|decide (b.2.1<=a.2.1)&&decide (a.2.2<=b.2.2)) h:=(Ju (by rw[Jo7];show ao<|au<|Jf (Dd ((aF (aC 07 07 JP)<|aC 07 07 JP).trans 07)<|(aF (aC 07 07 Q2)<|aC 07 07 Q2).trans 07) #[07,07]))
def Jhi{a b:Hd}(t:Dc a b):B5 (k+2) [aJ a,aJ b] h=.ok (.bl Zl) h:=(Ju (by
 let A:=Jlh (k:=k) (h:=h) a b;rw[Jhe];cases q:(decide (a.2.2<=b.2.1)||decide (b.2.2<=a.2.1))with|true=>rw[q]at A;show ao<|ae<|qp (cK<|J0 (az 07 07) A)<|au<|Jf 07 #[07,07]|false=>
  rw[q]at A;rw[Bool.or_eq_false_iff,decide_eq_false_iff_not,decide_eq_false_iff_not]at q;let#[ne,t]:=(t.resolve_left q.1).resolve_left q.2;calc ao<|ae<|bE (cK<|J0 (az 07 07) A)<|aM<|ae<|bE (eS (bR<|(aF (aC 07 07 JR)<|aC 07 07 JR).trans 07)<|decide_eq_false ne)<|aM<|au<|Jf (KU (J0 (az 07 07)<|KW a b)<|J0 (az 07 07)<|KW b a) #[congrArg IV.bl ?_,07];rcases t with t|t
  .lia
  .rw[decide_eq_true t.1,decide_eq_true t.2,Bool.or_comm];rfl))
def Jm4{hs:Tx}(hi:h[i]?=V (.lst<|hs.map aJ))(H:WP hs<=6)(D:∀m n (hm:m<n)(hn:n<WP hs),Dc hs[n] hs[m]):
  WR (B6 (k+3) [.ref i] h) λv h'=>v=.bl Zl/\Ex h h':=by
 let F:=J6;rw[Jdo];calc ao<|ae<|jH ?_;rw[Vn];calc Jf (aj 07)<|(BM _).mpr #[_,hi,?_];refine Vd (λn U h'=>(∃a b,U=[V<|.ref i,a,b])/\Ex h h') (λn U h' ⟨_,x⟩=>x.get hi) ?_ ?_ #[#[_,_,07],.refl h]
 .rintro n hn _ h' ⟨⟨a,b,rfl⟩,x⟩;let B:n<WP hs:=by rw[VN,Zn]at hn;show hn
  rw[Hi,fS];let G:jY j8 'a' V0 (Qz 'b') [V<|.ref i,V<|.int n,V<|aJ hs[n]] h'=.ok (.ref (WP h')) (h'++[.lst<|(hs.map aJ).take n]):=Ju ((YX ..).mpr<|Jf 07 (Jf 07 (Jf 07 ((Hj ..).mpr #[_,x.get hi,07,by rw[Hl]]))));let#[_,_,I,rfl,g,rfl]:=(Q0 (e:=Kf<|k+2) (js:=[2]) (f:=λ_=>.bl Zl)
   (by rw[Qn];show Jf G<|(Qt _).mpr #[_,Jr,07,07,07]) (by rw[ic,Zn];show Zb (Zi _ 999994)<|Zb (Zc (Zb (Zc (kO _ _) 1)<|Zc H 1) 999994) F) (λJ q=>q _ _ Jr) (by intro v E J q;let#[j,C,rfl]:=ib.1 E;rw[ic,Zn]at C;let u:j<n:=Zb C<|kP _ _;rw[uL,fS];show Jf (J0 (az 07 07)<|Jhi<|D j n u B) #[07,.refl _])).eq
  show jg 07 (bE (eS (c3<|cK<|(gu<|aj I).trans<|all_map Jw)<|by simp_all)<|aM #[#[_,_,07],x.trans<|(Ex.one _ _).trans<|.cons ..])
 .rintro _ h' ⟨⟨a,b,rfl⟩,x⟩;show au<|Jf 07 #[07,x]
structure jJ(len:Int)(hs:Tx):Prop where
 cW:WP hs<=6
 each:∀a∈hs,nr len a
 De:∀m n (hm:m<n)(hn:n<WP hs),Dc hs[n] hs[m]
def Jlk(hi:h[i]?=V (.lst<|hs.map aJ))(ok:jJ len hs):WR (Ym (k+4) [.ref i,.int len] h) λv h'=>v=.tup (hs.map aJ)/\Ex h h':=by let D:=J6;let C:=ok.1;let#[_,_,m,rfl,g,rfl]:=(Q0 (it:=Jv 'a') (e:=CP<|k+3) (js:=[1]) (U:=[V<|.ref i,V<|.int len]) (f:=λ_=>.bl Zl) (by rw[Qn];show Jf 07 ((Qt _).mpr #[_,hi,07,07,07])) (by rw[Zn];show Zb (Zi _ 999994)<|Zb (Zc (Zc C 1) 999994) D) (λJ q=>q _ _ hi) (by intro v B J q;let#[a,ha,rfl]:=ZC.1 B;unfold CP;show xb<|Jf (az 07 07)<|Jpf<|ok.2 a ha)).eq;rw[Jlc];calc ao (ae<|bE (bR<|(aF 07 07).trans 07)<|aM<|ae<|bE (c3 (c:=Zl)<|cK<|jI 07 (by rw[wY hi];rfl))<|aM<|ae<|bE (eS (kj (dj 07 hi) 07)<|decide_eq_false<|by rw[Zn];lia)<|aM<|ae<|bE (eS (c3<|cK<|(gu<|aj m).trans<|all_map Jw)<|by simp_all)<|aM ?_);let u:Ex h (h++IX.lst (List.map (λ_=>IV.bl Zl)<|hs.map aJ)::g):=.cons ..;let#[_,J,F,rfl,E]:=(Jm4 (u.get hi) C ok.3).eq;let j:=E.get<|u.get hi;let#[_,_,m,rfl,G,rfl]:=(Q0 (it:=Jv 'a') (e:=Kg<|k+3) (U:=[V<|.ref i,V<|.int len]) (f:=λx=>x) (by rw[Qn];show Jf 07 ((Qt _).mpr #[_,j,07,07,07])) (by rw[Zn];show Zb (Zi _ 999994)<|Zb (Zc (Zc C 1) 999994) D) (λJ q=>q _ _ j) (by intro v B H q;let#[a,ha,rfl]:=ZC.1 B;show Jf (hZ (fM (aC 07 07 JR) (aC 07 07 JP)<|aC 07 07 Q2) 07) #[07,.refl _])).eq;rw[List.map_id']at m;show ae<|bE (c3<|cK<|J0 (aj 07) F)<|aM<|au<|Jf ((gu<|aj m).trans<|Ju<|(Hn ..).mpr #[_,Jw,07,07]) #[07,u.trans<|E.trans<|.cons ..]
def Jpn(h1:1<=bh)(J:bh<=gap):Yl (k+3) [.int bh,.int gap] h=.ok (.int bh) h:=(Ju (by rw[Jo8];show ao<|ae<|bE (bR<|(aF 07 07).trans 07)<|aM<|ae<|bE (r7 (eS (c3<|cK<|J0 (az 07 07)<|xE bh 1) 05)<|eS (kj 07 07)<|decide_eq_false<|ZU.2 J)<|aM<|au<|Jf 07 #[07,07]))
noncomputable def fm (name:Str)(gap len bh ag:Int)(hs:Tv):Wo:=[("name",.str name),("gap",.int gap),("length",.int len),("due",.int bh),("late",.int ag),("hold_tuples",.tup hs)]
section
variable(a b c d e f:IV)
def Df:bL "name" a ([]:Wo)=([("name",a)]:Wo):=02
def Dg:bL "gap" b ([("name",a)]:Wo)=([("name",a),("gap",b)]:Wo):=02
def put2:bL "length" c ([("name",a),("gap",b)]:Wo)=([("name",a),("gap",b),("length",c)]:Wo):=02
def put3:bL "due" d ([("name",a),("gap",b),("length",c)]:Wo)=([("name",a),("gap",b),("length",c),("due",d)]:Wo):=02
def Dh:bL "late" e ([("name",a),("gap",b),("length",c),("due",d)]:Wo)=([("name",a),("gap",b),("length",c),("due",d),("late",e)]:Wo):=02
def Di:bL "hold_tuples" f ([("name",a),("gap",b),("length",c),("due",d),("late",e)]:Wo)=([("name",a),("gap",b),("length",c),("due",d),("late",e),("hold_tuples",f)]:Wo):=02
variable{name:Str}{gap len bh ag:Int}{hs:Tv}
def Dj:(fm name gap len bh ag hs).lookup ("name":Str)=V (.str name):=02
def qq:(fm name gap len bh ag hs).lookup ("gap":Str)=V (.int gap):=02
def oR:(fm name gap len bh ag hs).lookup ("length":Str)=V (.int len):=02
def r8:(fm name gap len bh ag hs).lookup ("due":Str)=V (.int bh):=02
def kK:(fm name gap len bh ag hs).lookup ("late":Str)=V (.int ag):=02
def fl5:(fm name gap len bh ag hs).lookup ("hold_tuples":Str)=V (.tup hs):=02
def xF:(fm name gap len bh ag hs).lookup ("held":Str)=Zg:=02
end
def Jtp(E:h[w]?=V (.ins "Work" []))(hn:h2 name)(L:1<=gap)(O:1<=len)(I:0<=ag) (hd:∀h1,Yl (k+4) [dv,.int gap] h1=.ok (.int bh) h1)(u:∀h1:IH,(∀(j:Nat)(o:IX),j≠w->h[j]?=V o->h1[j]?=V o)->WR (Ym (k+4) [hv,.int len] h1) λv J=>v=.tup hs/\Ex h1 J):WR (Yf (k+5) [.ref w,.str name,.int gap,.int len,dv,.int ag,hv] h) λv h'=>v=.ah/\∃g,h'=h.set w (.ins "Work"<|fm name gap len bh ag hs)++g:=by
 rw[Jk5];calc ao<|ae<|nF<|xb<|xb<|xb<|Jf (aj 07)<|WR.mono (KS hn) ?_;rintro v h1 ⟨rfl,g1,rfl⟩;let C:=JF E;let M:∀{o:IX},(h++g1).set w o=h.set w o++g1:=by intro o;rw[mR (h:=C)]
 let m:∀{o:IX},(h.set w o++g1)[w]?=V o:=by intro o;rw[ZN (by simp_all),iY C]
 let B:∀{o D:IX},(h.set w o++g1).set w D=h.set w D++g1:=by intro o D;rw[mR (h:=by rw[nY];show C),uR]
 let ok:∀{U:aD}{F G:E1}{a b:Int}{u:IH},F U u=.ok (.int a) u->G U u=.ok (.int b) u->b<=a->JJ (Ji cF<|Jl (V6<|k+4) []<|Jb F<|Jb G Je) U u=.ok Zo u:=λh1 J l=>eS (c3<|cK<|J0 (az h1 J)<|xE _ _)<|by simp_all
 calc Jf 07 (Jf 07 #[(λz=>by cases z),λ_=>aM<|ae<|bE (ok 07 07 L)<|aM<|ae<|bE (ok 07 07 O)<|aM<|ae<|bE (ok 07 07 I)<|aM<|ae<|Qu 07 07 (grow E) 01 ?_]);rw[M,Df];calc ae (Qu 07 07 m (by simp_all) ?_);rw[B,Dg];calc ae (Qu 07 07 m (by simp_all) ?_);rw[B,put2];calc ae (Qu (J0 (az 07 07)<|hd _) 07 m (by simp_all) ?_);rw[B,put3];calc ae (Qu 07 07 m (by simp_all) ?_);rw[B,Dh];unfold Kh;rw[YZ];refine xb<|Jf (az 07 07)<|WR.mono (u _ λj o H e=>?_) ?_
 .calc grow ?_;rw[ia<|bP H];show e
 .rintro v J ⟨rfl,g2,rfl⟩;calc Jf 07 #[w,_,_,07,grow m,by change(5:Nat)<1000;decide,07,g1++g2,?_];rw[mR (h:=JF m),B,Di,fQ];rfl
def J0e(hn:h2 name)(m:1<=gap)(C:1<=len)(B:0<=ag) (hd:∀h1,Yl (k+4) [dv,.int gap] h1=.ok (.int bh) h1)(u:∀h1:IH,(∀(j:Nat)(o:IX),h[j]?=V o->h1[j]?=V o)->WR (Ym (k+4) [hv,.int len] h1) λv J=>v=.tup hs/\Ex h1 J):WR (Yf (k+5) [.ref (WP h),.str name,.int gap,.int len,dv,.int ag,hv]<|h++[.ins "Work" []]) λv h'=>v=.ah/\∃g,h'=h++.ins "Work" (fm name gap len bh ag hs)::g:=by calc WR.mono (Jtp Jr hn m C B hd λh1 q=>u h1 λj o e=>q j o (by let:=JF e;show Zu this)<|grow e) ?_;rintro v h' ⟨rfl,g,rfl⟩;show#[07,g,by rw[VV];simp]
end
end
section
seal L4.run L4.WS
section
variable{k:Nat}{h:IH}
def xG(j:h[w]?=V (.ins "Work"<|fm name gap len bh ag hs)):B7 (k+1) [.ref w] h=.ok (.ref (WP h)) (h++[.lst hs]):=by show Ju<|by rw[Jk4];show ao<|au<|Jf ((gu<|aj<|aq 07 j fl5).trans 07) #[07,07]
end
end
structure WD where
 name:Str
 gap:Int
 len:Int
 bh:Int
 ag:Int
def ua(h:IH)(v:IV)(d:WD):Prop:=∃i hs,v=.ref i/\h[i]?=V (.ins "Work"<|fm d.1 d.2 d.3 d.4 d.5 hs)
def ua.kp(k:Kp h h')(w:ua h v d):ua h' v d:=by let#[i,j,e,q]:=w;show#[i,j,e,k _ _ q]
structure fO(h:IH)(vs:Tv)(ds:List WD):Prop where
 len:WP vs=WP ds
 at_:∀(i:Nat) v d,vs[i]?=V v->ds[i]?=V d->ua h v d
def fO.kp(k:Kp h h')(w:fO h vs ds):fO h' vs ds:=(#[w.1,λi v d a b=>(w.2 i v d a b).kp k])
def fO.of(w:fO h vs ds)(m:v∈vs):∃d∈ds,ua h v d:=by
 let#[i,k,rfl]:=ib.1 m;let j:i<WP ds:=by rw[<-w.1];show k
 show#[ds[i],Zy j,w.2 i _ _ (Zd k)<|Zd j]
def lT(f:Str)(h:IH)(v:IV):IV:=(Vg f v h).getD .ah
def fO.nH(w:fO h vs ds)(u:∀(i:Nat) (d:WD) hs,h[i]?=V (.ins "Work"<|fm d.1 d.2 d.3 d.4 d.5 hs)->F (.ref i)=g d):vs.map F=ds.map g:=by
 refine nX λi=>?_
 rw[Zz,Zz];by_cases m:i<WP vs
 .let k:i<WP ds:=by rw[<-w.1];show m
  rw[Zd m,Zd k];let#[j,hs,e,q]:=w.2 i _ _ (Zd m)<|Zd k;simp;rw[e,u j _ hs q]
 .let k:¬i<WP ds:=by rw[<-w.1];show m
  rw[qM<|ZM m,qM<|ZM k];rfl
section
variable{k:Nat}{h:IH}
def Jv2:Hb ["Work"] (.ins "Work")=V Zl:=02
def Jll(hi:h[i]?=V (.lst vs))(w:fO h vs ds)(nd:(ds.map (·.1)).Nodup)(L:WP ds<=20):WR (Cu (k+1) [.ref i] h) λv h'=>v=.tup vs/\Ex h h':=by let M:=J6;let H:=w.1;rw[Jld];let#[_,_,B,rfl,g,rfl]:=(Q0 (it:=Jv 'a') (e:=Ky k) (U:=[V<|.ref i]) (f:=λ_=>.bl Zl) (by rw[Qn];show Jf 07 ((Qt _).mpr #[_,hi,07,07,07])) 05 (λJ q=>q _ _ hi) (by intro v D J q;let#[d,_,j,G,rfl,e]:=w.of D;show Jf (jI 07 (by rw[show iO (.ref j) J=V (.ins "Work") by simp[iO,q _ _ e]];show Jv2)) #[07,.refl _])).eq;calc ao (ae<|bE (c3 (c:=Zl)<|cK<|jI 07 (by rw[wY hi];rfl))<|aM<|ae<|bE (eS (c3<|cK<|(gu<|aj B).trans<|all_map Jw) 03)<|aM<|ae ?_);let u:Ex h (h++IX.lst (vs.map λ_=>.bl Zl)::g):=.cons _ _ _;generalize h++IX.lst (vs.map λ_=>.bl Zl)::g=C at u;let F:=w.kp u.kp;let m:=u.get hi;let#[_,_,B,rfl,g2,rfl]:=(Q0 (it:=Jv 'a') (e:=Kz k) (U:=[V<|.ref i]) (f:=lT "name" C) (by rw[Qn];show Jf 07 ((Qt _).mpr #[_,m,07,07,07])) 05 (λJ q=>q _ _ m) (by intro v D J q;let#[d,_,j,G,rfl,e]:=F.of D;show Jf (aq 07 (q _ _ e) Dj) #[by rw[lT,Q9 e,Dj];rfl,.refl _])).eq;rw[F.nH (g:=λd=>.str d.1) λj d G e=>by rw[lT,Q9 e,Dj];rfl,show ds.map (λd=>IV.str d.1)=(ds.map (·.1)).map IV.str by rw[fY];rfl]at B;let E:Ex C (C++IX.lst ((ds.map (·.1)).map IV.str)::g2):=.cons _ _ _;let I:=Ju (by rw[Jtu];calc Jf (aj B) #[_,07,_,Jw,ds.map (·.1),Ho _,by rw[Zn];unfold oy;show Zb (Zc L 2)<|Zi _ 4074,?_];rw[Hs nd _<|Zm _,Zn];show#[07,07]);calc bE (eS (bR<|(aF I<|dj 07 (E.get m)).trans 07)<|by rw[H];simp)<|aM<|au<|Jf ((gu<|aj 07).trans<|Ju ?_) #[07,u.trans E];change WR (Xb (.ref i) _) _;rw[Hn];show#[_,E.get m,07,07]
noncomputable def ir (top bottom:Int):Int:=(top+bottom-1)/bottom
def gy(ds:List WD):Int:=if ds.map (·.4)=[]then 0 else Qd (λi=>(ds.map (·.4)).getD i 0) (ds.map (·.4)).length
def xH(ds:List WD):Int:=(ds.map λd=>ir (gy ds+d.5) d.2).sum
def Dl(T:Int)(h:IH)(v:IV):IV:=match Vg "late" v h,Vg "gap" v h with|some (.int l),V (.int g)=>.int<|ir (T+l) g|_,_=>.ah
section
seal L4.run L4.WS
def KY(m:0<b)(j:b.natAbs.log2<9000):w5 (k+1) [.int a,.int b] h=.ok (.int<|ir a b) h:=(Ju (by rw[Jle];show ao<|au<|Jf (Q8 (cZ (aU 07 07) 07) 07 m j) #[07,07]))
def Jua(w:fO h vs ds)(M:WP ds<=20)(F:∀d∈ds,0<d.2/\d.2.natAbs.log2<9000):WR (Cv (k+2) [.tup vs] h) λv h'=>v=.int (xH ds)/\Ex h h':=by let L:=J6;let I:=w.1;let#[_,_,m,rfl,g,rfl]:=(Q0 (it:=Jv 'a') (e:=CT<|k+1) (U:=[V<|.tup vs,Zg]) (f:=lT "due" h) #[07,07,07] 05 (λ_ _=>trivial) (by intro v C J q;let#[d,_,j,B,rfl,e]:=w.of C;show Jf (aq 07 (q _ _ e) r8) #[by rw[lT,Q9 e,r8];rfl,.refl _])).eq;rw[w.nH (g:=λd=>.int d.4) λj d B e=>by rw[lT,Q9 e,r8];rfl,show ds.map (λd=>IV.int d.4)=(ds.map (·.4)).map IV.int by rw[fY];rfl]at m;let u:Ex h (h++IX.lst ((ds.map (·.4)).map IV.int)::g):=.cons _ _ _;let E:XB (Jb (Jy (Jv 'a') 1 [] (bw 0) JC<|CT<|k+1) Je) '0' [V<|.tup vs,Zg] h=.ok (.int<|gy ds) (h++IX.lst ((ds.map (·.4)).map IV.int)::g):=Ju (by rw[J1r];calc Jf (aj m)<|Jf 07 #[_,07,_,Jw,_,Vv _,?_,07];unfold maxD gy;split<;>rfl);generalize h++IX.lst ((ds.map (·.4)).map IV.int)::g=H at u E;let D:=w.kp u.kp;let#[_,_,m,rfl,g2,rfl]:=(Q0 (it:=Jv 'a') (e:=KA<|k+1) (js:=[1]) (U:=[V<|.tup vs,V<|.int<|gy ds]) (f:=Dl (gy ds) H) #[07,07,07] 05 (λ_ _=>trivial) (by intro v C J q;let#[d,hd,j,B,rfl,e]:=D.of C;let G:=q _ _ e;show Jf (J0 (az (aU 07 (aq 07 G kK))<|aq 07 G qq)<|KY (F d hd).1 (F d hd).2) #[by rw[Dl,Q9 e,Q9 e,kK,qq],.refl _])).eq;rw[D.nH λj d B e=>by rw[Dl,Q9 e,Q9 e,kK,qq],show ds.map (λd=>IV.int<|ir (gy ds+d.5) d.2)=(ds.map λd=>ir (gy ds+d.5) d.2).map IV.int by rw[fY];rfl]at m;rw[Jml];calc ao<|ae<|ak<|Jf E<|au ?_;rw[Hf];calc Jf (aj m) ?_;change WR (iQ (.ref _) _) _;rw[Hr];show#[_,Jw,_,Vv _,07,u.trans<|.cons _ _ _]
abbrev qr(vs:Tv):Wo:=[("works",.tup vs)]
def dp0:bL "works" a ([]:Wo)=([("works",a)]:Wo):=02
def r9:(([("works",a)]:Wo)).lookup ("works":Str)=V a:=02
def Dm:(([("works",a)]:Wo)).lookup ("work":Str)=Zg:=02
def Jq3(hi:h[i]?=V (.lst vs))(w:fO h vs ds)(nd:(ds.map (·.1)).Nodup)(D:WP ds<=12)(j:∀d∈ds,0<d.2/\d.2.natAbs.log2<9000)(B:xH ds<=80):WR (QF (k+3) [.ref (WP h),.ref i]<|h++[.ins "Duty" []]) λv h'=>v=.ah/\∃g,h'=h++.ins "Duty" (qr vs)::g:=by let C:=w.1;rw[Jk0];let#[_,_,m,rfl,g1,rfl]:=(Jll (grow hi) (w.kp (Ex.one h<|IX.ins "Duty" []).kp) nd<|kr 06).eq;calc ao<|ae<|Qu (J0 (aj 07) m) 07 (grow Jr) 01 ?_;rw[dp0,fQ,fR,kC,V2];let#[_,_,u,rfl,g2,rfl]:=(Jua (w.kp (Ex.cons h (IX.ins "Duty"<|qr vs) g1).kp) (kr 06) j).eq;show ae<|bE (eS (kj ((gu<|aj<|aq 07 Jw r9).trans 07) 07)<|decide_eq_false 05)<|aM<|bE (eS (kj (J0 (aj<|aq 07 Jw r9) u) 07)<|decide_eq_false<|ZU.2 B)<|aM #[07,g1++g2,03]
def Dp(j:h[D]?=V (.ins "Duty"<|qr vs))(m:bI vs n=V x):Cy (k+1) [.ref D,.int n] h=.ok x h:=by show Ju<|by rw[Jk2];show ao<|au<|Jf (aC (aq 07 j r9) 07 m) #[07,07]
end
end
def Dq(j:0<b)(h:a<=m*b):ir a b<=m:=by
 unfold ir;let:(a+b-1)/b<m+1:=by rw[Int.ediv_lt_iff_lt_mul j,oG];lia
 show yX this
theorem Dr(m):∀l:To,(∀x∈l,x<=m)->l.sum<=WP l*m
 |[],_=>03
 |x::l,q=>by
  let:=Dr m l λy j=>q y<|Zq _ j
  let:=q x<|Z2 ..;rw[mU,jj,y8,oG];simp
  (rw[oF];show oE 06 this)
def Jvf{a b K:Nat}(h:a<=b)(k:b.log2<K):a.log2<K:=by
 by_cases ha:a=0
 .subst ha;show kN (ZX _) k
 .let j:b≠0:=ZY<|Zb (iA (ZX _)<|bP ha) h;rw[Nat.log2_lt ha];show kN h<|(Nat.log2_lt j).1 k
abbrev RH:=WD×Tx
abbrev _root_.Tz:=List RH
noncomputable def rd:RH:=#[#[⟨#[]⟩,0,0,0,0],[]]
abbrev wo(r:RH):IX:=.ins "Work"<|fm r.1.1 r.1.2 r.1.3 r.1.4 r.1.5<|r.2.map aJ
structure cQ(h:IH)(vs:Tv)(rs:Tz):Prop where
 len:WP vs=WP rs
 at_:∀(i:Nat) v r,vs[i]?=V v->rs[i]?=V r->∃j,v=.ref j/\h[j]?=V (wo r)
def cQ.kp(k:Kp h h')(w:cQ h vs rs):cQ h' vs rs:=(#[w.1,λi v r a b=>let ⟨j,e,g⟩:=w.2 i v r a b;#[j,e,k _ _ g]])
def cQ.w(w:cQ h vs rs):fO h vs (rs.map (·.1)):=by calc#[by rw[Zn];show w.1,λi v d a b=>?_];rw[Zz]at b;cases k:rs[i]? with|none=>rw[k]at b;cases b|some r=>rw[k]at b;cases b;let#[j,e,g]:=w.2 i v r a k;show#[j,_,e,g]
def cQ.get(w:cQ h vs rs){n:Nat}(e:rs[n]?=V r):∃j,vs[n]?=V (.ref j)/\h[j]?=V (wo r):=by
 let hn:n<WP vs:=by rw[w.1];show(Zp.1 e).1
 let#[j,k,g]:=w.2 n _ r (Zd hn) e;show#[j,by rw[Zd hn,k],g]
def cf(h:IH)(D:Nat)(rs:Tz):Prop:=∃vs,h[D]?=V (.ins "Duty"<|qr vs)/\cQ h vs rs
def cf.kp(k:Kp h h')(w:cf h D rs):cf h' D rs:=(let ⟨j,a,b⟩:=w;#[j,k _ _ a,b.kp k])
section
seal L4.run L4.WS
section
variable{k:Nat}{h:IH}
def e45(U)(h):Jc Qb (eC<|.int 10) (eC<|.int 45) U h=.ok (.int<|10^45) h:=(Ju (by rw[Yc,Vm,Vm,YW];show#[01,07,07]))
def e30(U)(h):Jc Qb (eC<|.int 10) (eC<|.int 30) U h=.ok (.int<|10^30) h:=(Ju (by rw[Yc,Vm,Vm,YW];show#[01,07,07]))
def e18(U)(h):Jc Js (Jc Qb (eC<|.int 10)<|eC<|.int 18) '9' U h=.ok (.int 1000000000000000009) h:=(Ju (by rw[Yc,Yc,Vm,Vm,YW];calc#[01,?_];show#[congrArg IV.int (by decide +kernel),07]))
def KZ(c)(m:Nat)(hm:m<=40):WR (xw (k+1) [.int c,.int m] h) λv h'=>∃(i:Nat)(xs:To),v=.ref i/\WP h<=i/\h'[i]?=V (.lst<|xs.map .int)/\WP xs=m/\(∀x∈xs,(0:Int)<=x/\x<10^45)/\Ex h h':=by
 let S:=J6;let L:(0:Int)<10^45:=by decide +kernel
 let O:(1000000000000000009:Int)<=10^45:=by decide +kernel
 obtain⟨T,Q⟩:∃T:Int,∀U h,Jc Qb (eC<|.int 10) (eC<|.int 30) U h=.ok (.int T) h:=#[_,e30];obtain⟨G,P,Y⟩:∃G:Int,(∀U h,Jc Js (Jc Qb (eC<|.int 10)<|eC<|.int 18) '9' U h=.ok (.int G) h)/\G=1000000000000000009:=#[_,e18,07];obtain⟨F,M,I,W,X⟩:∃F:Int,(∀U h,Jc Qb (eC<|.int 10) (eC<|.int 45) U h=.ok (.int F) h)/\0<F/\F.natAbs.log2<9000/\F=10^45:=#[_,e45,L,by decide +kernel,07];rw[<-X]at O ⊢;rw[Jjd];refine ao<|ae<|ak<|Jf (dH 07 07)<|ae<|km (KP 07 (Q _ _)) (λ_=>ae<|ak<|Jf (cZ 07 (Q _ _))<|ae<|lR 07 (Zb (Zc hm 1)<|Zi _ 999959) ?_) λ_=>aM<|ae<|ak<|Jf (aU (bN 07 (P _ _) 05) 07)<|ae<|lR (eS (aU 07 07) 07) 05 ?_
 .refine Vd (λn U h'=>∃xs B a b,h'=h++[.lst<|xs.map IV.int]/\U=[V<|.int c,V<|.int (m:Int),V<|.ref (WP h),V<|.int B,a,b]/\WP xs=n/\∀x∈xs,(0:Int)<=x/\x<F) (λ_ _ _ _=>trivial) ?_ ?_ #[[],_,_,_,07,07,07,03]
  .rintro n hn _ _ ⟨xs,B,a,b,rfl,rfl,C,D⟩;rw[JN]at hn;let H:=i3 B (b:=F)<|i4 I;let J:=jo B I;refine jg 07 (ae<|JU<|Qo 07 Jr Vt (Jf (aj<|bN 07 (M _ _) I)<|gv Jr (by rw[Zn];show Zb (Zi _ 999961)<|Zb (Zc (Zb (Zb (Zc (Zh C) 1) hn) hm) 999961) S)<|ak<|Jf (Q8 07 (M _ _) I W) #[xs++[B%F],_,_,_,?_,07,by simp[C],λx u=>?_]))
   .rw[VV];simp
   .rw[ZQ,ZB]at u;rcases u with u|rfl
    .show D x u
    .show#[H,J]
  .rintro _ _ ⟨xs,B,a,b,rfl,rfl,C,D⟩;rw[JN]at C;show au<|Jf 07 #[_,xs,07,Zm _,Jr,06,D,.one _ _]
 .let s0:=i3 c (b:=G) 05;let R:=jo c (b:=G) 05;refine Vd (λn U h'=>∃xs j a b,h'=h++[.lst<|xs.map IV.int]/\U=[V<|.int c,V<|.int (m:Int),V<|.ref (WP h),a,b,V<|.int j]/\(0<=j/\j<2000000000000000000)/\WP xs=n/\∀x∈xs,(0:Int)<=x/\x<G) (λ_ _ _ _=>trivial) ?_ ?_ #[[],_,_,_,07,07,05,07,03]
  .rintro n hn _ _ ⟨xs,j,a,b,rfl,rfl,E,C,D⟩;rw[QL];rw[JN]at hn;let H:=i3 (j*j+48271*j+(0+(n:Int))) (b:=G)<|i4<|ZE s0 R;let J:=jo (j*j+48271*j+(0+(n:Int))) (b:=G)<|ZE s0 R;refine jg 07 (ae<|ak<|Jf (bN (aU (aU (fN 07 07 (.inl 05))<|fN 07 07 (.inl 01)) 07) (P _ _)<|ZE H J)<|JU<|Qo 07 Jr Vt (Jf (aj 07)<|gv Jr (by rw[Zn];lia) #[xs++[(j*j+48271*j+(0+(n:Int)))%G],_,_,_,?_,07,00,by simp[C],λx u=>?_]))
   .rw[VV];simp
   .rw[ZQ,ZB]at u;rcases u with u|rfl
    .show D x u
    .show#[H,J]
  .rintro _ _ ⟨xs,j,a,b,rfl,rfl,E,C,D⟩;rw[JN]at C;calc au<|(YX ..).mpr<|Jf 07 (Jf 07 (Jf 07 ((Hj ..).mpr #[_,Jr,?_])));rw[show(V (2:Int))=V ((2:Nat):Int)from 07,W0,<-List.map_drop];calc#[_,xs.drop 2,07,03,Jr,by simp;(rw[C];rfl),λx u=>?_,(Ex.one _ _).trans<|.one _ _];let:=D x<|List.mem_of_mem_drop u;show#[this.1,(Z8 (Z8 this.2<|Z3 Y) O)]
end
end
section
variable{k:Nat}{h:IH}
mutual
theorem K0:∀d:l7,d.canLay0=Zl->my d d=Zl|.none,_=>by simp[my]|.bool _,_=>by simp[my]|.int _,_=>by simp[my]|.str _,_=>by simp[my]|.list xs,q=>by rw[my];show Ds xs<|by rw[pG]at q;show q|.tuple xs,q=>by rw[my];show Ds xs<|by rw[pG]at q;show q|.dict _,q=>by rw[pG]at q;cases q
theorem Ds:∀ds:List l7,vB ds=Zl->sZ ds ds=Zl|[],_=>by rw[sZ]|d::ds,q=>by rw[vB,Zt]at q;rw[sZ,K0 d q.1,Ds ds q.2];rfl
end
def J32(hi:toD h 6 (.ref i)=V d)(k:toD h 6 (.ref j)=V d)(q:d.canLay0=Zl):jz (.ref i) (.ref j) h=.ok (.bl Zo) h:=by
 let m:Vu (.ref i) (.ref j) h=V Zl:=by unfold Vu;rw[hi,k];dsimp only;rw[if_pos #[q,q],K0 d q]
 unfold jz;let u:VU (.ref i) (.ref j)=Zg:=07;rw[u];dsimp only;rw[m];rfl
def J1c(e:h[i]?=V (.lst xs)):toD h (n+1) (.ref i)=(xs.mapM<|toD h n).map vC:=by change(match h[i]? with|some (.lst xs)=>(xs.mapM<|toD h n).map vC|_=>Zg)=_;rw[e]
end
section
variable{k:Nat}{h h1:IH}{U:aD}
def J1l(e:o U h=.ok (.ref i) h1)(j:h1[i]?=V (.aV kvs))(k:dX "dict" m n=V g):WR (Jm P m n o a U h) Q=WR (a U h1) λvs J=>WR (g (.ref i) vs J) Q:=by
 unfold Jm;rw[e];let B:Xp (.ref i) h1=Zo:=by simp[Xp,j]
 let u:p8 (.ref i) h1="dict":=by simp[p8,j]
 dsimp only;rw[B,u,k];dsimp only;rw[if_neg Zx];unfold rQ;rw[e,J9,YV];let:eE "dict" (.ref i) h1=Zl:=by simp[eE,j]
 rw[if_pos this,J9]
def Jqk:dX "dict" "setdefault" 2=V VW:=02
def Jxa(hi:h[i]?=V (.aV kvs))(e:aK kvs (.inr x)=V w):WR (VW (.ref i) [.str x,v] h) Q=Q w h:=by unfold VW;simp![hi,eF,e];rfl
def Jw9(hi:h[i]?=V (.aV kvs))(e:aK kvs (.inr x)=Zg)(j:WP kvs<sizeLine):WR (VW (.ref i) [.str x,v] h) Q=Q v (h.set i<|.aV<|kvs++[(.inr x,v)]):=by unfold VW;simp![hi,eF,e,j];rfl
end
theorem Jtn(kvs)(k k')(v):aK (kvs++[(k,v)]) k'=match aK kvs k' with|some w=>V w|none=>if k=k' then V v else Zg:=by
 induction kvs with
 |nil=>
  by_cases e:k=k'
  .rw[kC,Vb e,if_pos e];rfl
  .rw[kC,QQ e,if_neg e];rfl
 |cons p r j=>
  by_cases e:p.1=k'
  .rw[fR,Vb e,Vb e]
  .rw[fR,QQ e,QQ e,j]
noncomputable def has (x:Str)(hs:Tx):Bool:=hs.any λa=>decide (a.1=x)
def cE(hss:Wm)(x:Str):Ta:=hss.findIdx?<|has x
def fV(o:Ta):IV:=match o with|some i=>.int (i:Int)|none=>.ah
theorem Jrg(hss)(hs)(x):cE (hss++[hs]) x=match cE hss x with|some i=>V i|none=>if has x hs=Zl then V (WP hss) else Zg:=by
 unfold cE;rw[List.findIdx?_append];cases hss.findIdx? (has x)with|some i=>rfl|none=>
  by_cases e:has x hs=Zl
  .simp
  .simp
def K6(x)(hs)(a):has x (hs++[a])=(has x hs||decide (a.1=x)):=by simp[has]
section
variable{k:Nat}{h:IH}
section
seal L4.run L4.WS
def sd:(([("works",a)]:Wo)).lookup ("size":Str)=Zg:=02
def XA(j:h[D]?=V (.ins "Duty"<|qr vs)):Cw (k+1) [.ref D] h=.ok (.int (WP vs)) h:=by show Ju<|by rw[Jk1];show ao<|au<|Jf ((gu<|aj<|aq 07 j r9).trans 07) #[07,07]
def Told(kvs:Wp)(hss:Wm)(n:Nat)(hs:Tx):Prop:=∀x,aK kvs (.inr x)=match cE hss x with|some i=>V<|.int (i:Int)|none=>if has x hs=Zl then V (.int (n:Int))else Zg
def Told.next(t:Told kvs hss n hs)(hn:WP hss=n):Told kvs (hss++[hs]) (n+1) []:=(λx=>by
 subst hn;rw[t x,Jrg];cases cE hss x with|some i=>rfl|none=>
  by_cases e:has x hs=Zl
  .simp only[e,if_true]
  .simp only[e];rfl)
def Told.old(t:Told kvs hss n hs)(e:aK kvs (.inr a.1)=V w):Told kvs hss n (hs++[a]):=(λx=>by
 rw[t x];cases k:cE hss x with|some i=>rfl|none=>
  dsimp only;rw[K6];by_cases j:a.1=x
  .let:=t x;rw[<-j,e,j,k]at this;by_cases q:has x hs=Zl
   .simp[q]
   .lia
  .simp[j])
def Told.new(t:Told kvs hss n hs)(e:aK kvs (.inr a.1)=Zg):Told (kvs++[(.inr a.1,.int (n:Int))]) hss n (hs++[a]):=(λx=>by
 rw[Jtn,t x];cases j:cE hss x with|some i=>rfl|none=>
  dsimp only;rw[K6];by_cases q:has x hs=Zl
  .simp[q]
  .lia)
def K8(H:h[D]?=V (.ins "Duty"<|qr vs))(w:cQ h vs rs)(Y:WP rs<=12)(W:∀r∈rs,WP r.2<=6):
  WR (w9 (k+2) [.ref D] h) λv h'=>∃i B,v=.ref i/\h'[i]?=V (.aV B)/\(∀x,(aK B<|.inr x).getD .ah=fV (cE (rs.map (·.2)) x))/\Ex h h':=by
 let hb:=J6;let Q:=w.1;rw[Jmk];calc ao<|ae<|ak<|Jf 07 (ae<|lR (n:=WP vs) (dk 07 (grow H) sd (X9 _) 07 (XA<|grow H)) (Zb (Zb (Zc (Zh Q) 1)<|Zc Y 1)<|Zi _ 999987) ?_);refine Vd (λn U h'=>∃B g a b,h'=h++IX.aV B::g/\U=[V<|.ref D,V<|.ref (WP h),a,b]/\WP B<=6*n/\Told B ((rs.map (·.2)).take n) n []) (λ_ _ _ _=>trivial) ?_ ?_ #[[],[],Zg,Zg,07,07,03,λx=>by simp[aK,cE,has]]
 .rintro n hn _ _ ⟨B,g,a,b,rfl,rfl,ln,P⟩;rw[QL];rw[JN]at hn;let E:n<WP rs:=mL 06 06;let en:(0:Int)+(n:Int)=n:=oF _ _;let#[j,S,O]:=w.2 n _ _ (Zd<|hn)<|Zd E;let X:bI vs (n:Int)=V (.ref j):=JE<|by rw[Zd<|hn,S]
  let G:=W _<|Zy E;let hm:n<(rs.map (·.2)).length:=by rw[Zn];show E
  let Z:(rs.map (·.2)).take (n+1)=(rs.map (·.2)).take n++[(rs[n]).2]:=by rw[o6 hm,fS]
  rw[Z];generalize rs[n]=r at O G;rw[en];let I:Ex h (h++IX.aV B::g):=.cons _ _ _;let ed:Jm (pg<|k+1) "work" 1 'a' (Jb 'c' Je) [V<|IV.ref D,V<|IV.ref (WP h),V<|IV.int (n:Int),b] (h++IX.aV B::g)=.ok (.ref j) (h++IX.aV B::g):=by show dk 07 (I.get H) Dm (CZ _) (aj 07) (Dp (I.get H) X)
  calc jg 07 (jH ?_);rw[Qn];calc Jf (dk ed (I.get O) xF (xA _) 07 (xG<|I.get O))<|(Qt _).mpr #[_,Jr,?_];generalize r.2=C at G;refine Vd (λm U h'=>∃u J,h'=h++IX.aV u::(g++[IX.lst<|C.map aJ])/\U=[V<|.ref D,V<|.ref (WP h),V<|.int (n:Int),J]/\WP u<=6*n+m/\Told u ((rs.map (·.2)).take n) n (C.take m)) ?_ ?_ ?_ #[B,b,by rw[fQ,fR],07,ln,P]
  .rintro _ _ _ ⟨u,J,rfl,_⟩;rw[show h++IX.aV u::(g++[IX.lst<|C.map aJ])=(h++IX.aV u::g)++[IX.lst<|C.map aJ] by rw[fQ,fR],
    show(h++IX.aV B::g).length=(h++IX.aV u::g).length by simp]
   show Jr
  .rintro m hm _ _ ⟨u,J,rfl,rfl,R,F⟩;let L:m<WP C:=by simpa using hm
   rw[fS,o6 L];generalize C[m]=a at *;calc jg 07 (JU ?_);rw[J1l (i:=WP h) (h1:=h++IX.aV u::(g++[IX.lst<|C.map aJ])) 07 Jw Jqk];calc Jf (az (aC 07 07 JR) 07) ?_;cases ev:aK u (.inr a.1)with|some w'=>rw[Jxa Jw ev];show#[u,_,07,07,sk 06,F.old ev]|none=>rw[Jw9 Jw ev 05,V2];show#[_,_,07,07,by rw[Z1,o7];show mO 06,F.new ev]
  .rintro _ _ ⟨u,J,rfl,rfl,R,F⟩;rw[Zn]at R F;rw[nW<|Zm _]at F;let M:((rs.map (·.2)).take n).length=n:=by rw[ic];show ZW (kP _ _)<|Nat.le_min.2 #[(Zm _),(Z7 hm)]
   show#[u,_,_,_,07,07,05,F.next M]
 .rintro _ _ ⟨B,g,a,b,rfl,rfl,ln,P⟩;calc au<|Jf 07 #[_,B,07,Jw,λx=>?_,.cons _ _ _];let:=P x;rw[JN,nW<|by rw[Zn];show Zh Q.symm]at this;rw[this];cases cE (rs.map (·.2)) x with|some i=>rfl|none=>simp[has,fV]
end
def K9(kvs)(k k')(v):aK (putD kvs k v) k'=if k=k' then V v else aK kvs k':=by
 unfold putD;let j:∀l:Wp,(l.any λC=>decide (C.1=k))=(aK l k).isSome:=by
  intro l;induction l with|nil=>rfl|cons p r B=>
   rw[qR,B];by_cases e:p.1=k
   .rw[Vb e];simp[e]
   .rw[QQ e];simp[e]
 split
 .rename_i ha;let u:∀l:Wp,aK (l.map λC=>if C.1=k then(C.1,v)else C) k'=if k=k' then(if (aK l k).isSome then V v else Zg)else aK l k':=by
   intro l;induction l with|nil=>by_cases e:k=k'<;>simp[aK]|cons p r B=>
    rw[ZS];by_cases e:p.1=k
    .rw[if_pos e];by_cases m:k=k'
     .rw[Vb (by rw[<-m];show e),if_pos m,Vb e];rfl
     .rw[QQ (by rw[e];show m),B,if_neg m,if_neg m,QQ<|by rw[e];show m]
    .rw[if_neg e];by_cases m:p.1=k'
     .let:¬k=k':=λz=>e<|m.trans z.symm
      rw[Vb m,if_neg this,Vb m]
     .rw[QQ m,B,QQ e,QQ m]
  rw[u,<-j,ha];simp
 .rename_i ha;let hn:aK kvs k=Zg:=by let:=j kvs;cases q:aK kvs k with|none=>rfl|some z=>rw[q]at this;show absurd this ha
  let u:∀l:Wp,aK (l++[(k,v)]) k'=match aK l k' with|some w=>V w|none=>if k=k' then V v else Zg:=by
   intro l;induction l with
   |nil=>
    by_cases e:k=k'
    .rw[kC,Vb e,if_pos e];rfl
    .rw[kC,QQ e,if_neg e];rfl
   |cons p r B=>
    by_cases e:p.1=k'
    .rw[fR,Vb e,Vb e]
    .rw[fR,QQ e,QQ e,B]
  rw[u];by_cases e:k=k'
  .subst e;rw[hn,if_pos 07]
  .rw[if_neg e,if_neg e];cases aK kvs k'<;>rfl
def J5q(hi:h[i]?=V (.aV kvs)):WR (jB (.int x) (.ref i) h) Q=Q (.bl (aK kvs<|.inl x).isSome) h:=by unfold jB;simp![hi];rfl
def La(hi:h[i]?=V (.aV kvs))(e:aK kvs (.inl x)=V v):WR (Vi (.ref i) (.int x) h) Q=Q v h:=by unfold Vi;simp![hi,eF,e];rfl
def Lb(o i)(v):WS (jC o i v U h) N R=WR (o U h) λj h1=>WR (i U h1) λiv J=>WS (YM j iv v U J) N R:=by unfold jC;rw[Vc];congr 1;funext j h1;rw[Vc]
def Lc(hi:h[i]?=V (.aV kvs))(j:WP kvs<sizeLine):WS (YM (.ref i) (.int x) v U h) N R=N U (h.set i<|.aV<|putD kvs (.inl x) v):=by unfold YM;simp![hi,j];rfl
end
section
seal L4.run
structure Cm where
 at_:Nat
 aG:Int
 ag:Int
 len:Int
abbrev _root_.Ua:=List Cm
noncomputable abbrev ax (c:Cm):IV:=.tup [.int c.1,.int c.2,.int c.3,.int c.4]
structure xI(rs:Tz)(c:Cm):Prop where
 at_:c.1<WP rs
 aG:0<=c.2
 l0:0<=c.3
 l1:c.3<=(rs[c.1]).1.5
 n1:1<=c.4
 n2:c.4<=(rs[c.1]).1.3
structure br(rs:Tz)(cs:Ua):Prop where
 ok:∀c∈cs,xI rs c
 nJ:∀(i j:Nat)(a b:Cm),i<j->cs[i]?=V a->cs[j]?=V b->a.1=b.1->∀r,rs[a.1]?=V r->a.2+r.1.2<=b.2
def Y3(k:Kp h h'):Ex h h':=by
 calc#[h'.drop (WP h),nX λi=>?_];by_cases j:i<WP h
 .rw[ZN j,Zd j];show k i _<|Zd j
 .rw[ZL<|ZM j,List.getElem?_drop];congr 1;show ZW (Zh (mK<|ZM j).symm)<|iW (ZM j)<|Zm _
section
variable{k:Nat}{h:IH}
def J1s(hi:h[i]?=V (.lst<|ms.map .int))(hm:ms≠[]):WR (VR (.ref i) h) Q=Q (.int<|Qd (λi=>ms.getD i 0) (WP ms)) h:=by unfold VR;simp![hi,Vv,hm];rfl
end
end
def dS(v:IV):l7:=match v with|.str x=>.str x|_=>.none
noncomputable def kn (d:Int)(a:Hd):Bool:=decide (a.2.1<d)&&decide (d<a.2.2)
def act(hs:Tx)(d:Int):Tj:=(hs.filter<|kn d).map (·.1)
noncomputable def xJ (d:Int)(v:IV):Bool:=match v with|.tup [.str _,.int s,.int e]=>decide (s<d)&&decide (d<e)|_=>Zo
noncomputable def eK (v:IV):IV:=match v with|.tup (x::_)=>x|_=>.ah
theorem Ld(d):∀hs:Tx,((hs.map aJ).filter<|xJ d).map eK=(act hs d).map IV.str
 |[]=>07
 |a::hs=>by
  let k:=Ld d hs;unfold act at *;rw[ZS];by_cases q:kn d a=Zl
  .let j:xJ d (aJ a)=Zl:=q;rw[uF j,uF q,ZS,ZS,ZS,k];rfl
  .let j:¬xJ d (aJ a)=Zl:=q;rw[uG j,uG q,k]
def Jyx(hs)(d):(act hs d).length<=WP hs:=by unfold act;rw[Zn];show o8 ..
def Jyy(h:x∈act hs d):∃a∈hs,a.1=x:=by let#[a,ha,rfl]:=ZC.1 h;show#[a,(eZ.1 ha).1,07]
theorem Yr(f):∀(n j:Nat),j<n->QI f n<=f j
 |0,j,h=>absurd 06<|mQ _
 |1,j,h=>by
  let:j=0:=by show qI 06
  subst this;show ZD _
 |n+2,j,h=>by
  rw[AJ f ((iX _):0<n+1)];by_cases e:j=n+1
  .lia
  .let:=Yr f (n+1) j<|iA (yn h) e;split<;>(first|show ZH (ZJ 06) 06|assumption|lia)
theorem Dt(f):∀(n:Nat),0<n->∃j,j<n/\QI f n=f j
 |0,h=>absurd 06<|jM _
 |1,_=>#[0,06,07]
 |n+2,_=>by
  rw[AJ f ((iX _):0<n+1)];let#[j,k,e]:=Dt f (n+1)<|iX _;split
  .lia
  .show#[j,iB 06,e]
def fZ(hss:Wm)(x:Str):Int:=match cE hss x with
 |some j=>(j:Int)
 |none=>0
def c5(hss:Wm)(zs:Tj)(a:Nat):To:=(a:Int)::zs.map (fZ hss)
def rk(hss:Wm)(zs:Tj)(a:Nat):Int:=QI (λi=>(c5 hss zs a).getD i 0) (c5 hss zs a).length
def qt(hss:Wm)(v:IV):IV:=match v with|.str t=>.int<|fZ hss t|_=>.ah
section
variable{k:Nat}{h:IH}
def Le(hi:h[i]?=V (.lst<|ns.map .int))(hn:ns≠[]):WR (VS (.ref i) h) Q=Q (.int<|QI (λi=>ns.getD i 0) (WP ns)) h:=by unfold VS;simp![hi,Vv];rw[if_neg hn];rfl
def Lf(hi:h[i]?=V (.aV kvs))(e:aK kvs (.inr x)=V v):WR (Vi (.ref i) (.str x) h) Q=Q v h:=by unfold Vi;simp![hi,eF,e];rfl
def Dv(k:a U h=.ok (.int i) h)(m:b U h=.ok (.int j) h)(u:c U h=.ok (.int l) h):JS jU jU a b c U h=.ok (.bl<|decide (i<j)&&decide (j<l)) h:=by unfold JS;rw[k];dsimp only[Res.bind];rw[m];change(match IV.bl (decide (i<j))with|.bl Zl=>_|.bl Zo=>_|_=>_)=_;cases decide (i<j)with|false=>rfl|true=>change(c U h).bind _=_;rw[u];rfl
section
seal L4.run L4.WS
def Lh(m:h[w]?=V (.ins "Work"<|fm name gap len bh ag<|hs.map aJ))(l6:WP hs<=6):WR (xg (k+2) [.ref w,.int d] h) λv h'=>∃i,v=.ref i/\WP h<=i/\h'[i]?=V (.lst<|(act hs d).map .str)/\Ex h h':=by
 let u:=J6;rw[Jhh];refine ao (au<|WR.mono (YU (h:=h++[IX.lst<|hs.map aJ]) (xs:=hs.map aJ) (bf:=λh'=>h'[WP h]?=V (.lst<|hs.map aJ)) (p:=xJ d) (f:=eK) ?_ (by rw[Zn];show Zb (Zi _ 999994)<|Zb (Zc (Zc l6 1) 999994) u) (λJ q=>q _ _ Jr) ?_ ?_) ?_)
 .rw[Qn];show Jf (dk 07 m xF (xA _) 07 (xG m))<|(Qt _).mpr #[_,Jr,07,07,07]
 .intro v j J q;let#[a,_,rfl]:=ZC.1 j;show Jf (bR<|Dv (aC 07 07 JP) 07 (aC 07 07 Q2)) #[07,.refl _]
 .intro v j _ J q;let#[a,_,rfl]:=ZC.1 j;show Jf (aC 07 07 JR) #[07,.refl _]
 .rintro _ _ ⟨rfl,g,rfl⟩;rw[Ld];show#[_,07,by rw[Z1];show fP _,Jw,(Ex.one _ _).trans<|.cons _ _ _]
end
section
seal L4.run L4.WS
def Jsh{a i t:Nat}(D:h[i]?=V (.lst<|zs.map .str))(gt:h[t]?=V (.aV kvs))(tv:∀x,(aK kvs<|.inr x).getD .ah=fV (cE hss x))(J:∀z∈zs,cE hss z≠Zg)(C:WP zs<=6):WR (B8 (k+1) [.int (a:Int),.ref i,.ref t] h) λv h'=>v=.int (rk hss zs a)/\Ex h h':=by
 let E:=J6;let m:Ex h (h++[IX.lst [IV.int (a:Int)]]):=.one _ _;let#[_,_,G,rfl,g,rfl]:=(Q0 (it:=Jv 'b') (e:=Ki k) (js:=[2]) (U:=[V<|.int (a:Int),V<|.ref i,V<|.ref t]) (h0:=h++[IX.lst [IV.int (a:Int)]]) (h:=h++[IX.lst [IV.int (a:Int)]]) (xs:=zs.map IV.str) (bf:=λh'=>h'[i]?=V (.lst<|zs.map IV.str)) (f:=qt hss) (by rw[Qn];show Jf 07 ((Qt _).mpr #[_,m.get D,07,07,07])) (by rw[Zn];show Zb (Zi _ 999994)<|Zb (Zc (Zc C 1) 999994) E) (λL q=>q _ _<|m.get D) (by
  intro v I L q;let#[x,H,rfl]:=ZC.1 I;let j:=tv x;let ne:=J x H;cases u:cE hss x with|none=>show absurd u ne|some F=>
   rw[u]at j;let M:aK kvs (.inr x)=V (.int (F:Int)):=by cases ev:aK kvs (.inr x)with|none=>rw[ev]at j;cases j|some v=>rw[ev]at j;rw[show v=.int (F:Int)from j]
   show Jf ((aF 07 07).trans<|Ju<|by rw[Lf (q _ _<|m.get gt) M];show#[07,07]) #[by simp![qt,fZ,u],.refl _])).eq
 rw[show(zs.map IV.str).map (qt hss)=(zs.map<|fZ hss).map IV.int by rw[fY,fY];rfl]at G;let B:Ex (h++[IX.lst [IV.int (a:Int)]]) (h++[IX.lst [IV.int (a:Int)]]++IX.lst ((zs.map<|fZ hss).map IV.int)::g):=.cons _ _ _;rw[Jrj];calc ao<|au ?_;rw[Hf];calc Jf (aj<|(aF (dH (aj 07) 07) G).trans<|Ju<|(BN ..).mpr #[_,B.get Jr,_,Jw,by rw[Zn,Zn];change 1+_<=_;(rw[nS];show Zb (Zi _ 999994)<|Zb (Zc (Zc C 1) 999994) E),07,07]) ?_;change WR (VS (.ref _) _) _;rw[show[IV.int (a:Int)]++(zs.map<|fZ hss).map IV.int=(c5 hss zs a).map IV.int from 07,Le (ns:=c5 hss zs a) Jr<|by simp[c5]];show#[07,(m.trans B).trans<|.one _ _]
def Jyw{rs:Tz}(ha:a<WP rs):∀z∈act (rs[a]).2 d,cE (rs.map (·.2)) z≠Zg:=(λz q=>by let#[b,j,rfl]:=Jyy q;intro e;unfold cE at e;rw[uD]at e;let:=e (rs[a]).2 (ZC.2 #[rs[a],Zy ha,07]);unfold has at this;let t2:((rs[a]).2.any λx=>decide (x.1=b.1))=Zl:=pd.2 #[b,j,03];rw[t2]at this;cases this)
abbrev kM(D T:Nat):Wo:=[("duty",.ref D),("tops",.ref T)]
abbrev kq(D:Nat):Wo:=[("duty",.ref D)]
def op0:bL "duty" a ([]:Wo)=([("duty",a)]:Wo):=02
def op1:bL "tops" b ([("duty",a)]:Wo)=([("duty",a),("tops",b)]:Wo):=02
def Dx{D T:Nat}:(kM D T).lookup ("duty":Str)=V (.ref D):=02
def ol1{D T:Nat}:(kM D T).lookup ("tops":Str)=V (.ref T):=02
def olr{D T:Nat}:(kM D T).lookup ("rank_of":Str)=Zg:=02
def olh{D T:Nat}:(kM D T).lookup ("holds":Str)=Zg:=02
def dZ(h:IH)(kind:Int)(bC:Nat)(rs:Tz):Prop:=∃D,cf h D rs/\∃T kvs,h[bC]?=V (.ins "ByRank"<|kM D T)/\h[T]?=V (.aV kvs)/\∀x,(aK kvs<|.inr x).getD .ah=fV (cE (rs.map (·.2)) x)
def dZ.kp(k:Kp h h')(o:dZ h kind bC rs):dZ h' kind bC rs:=by let#[D,d,T,j,b,c,e]:=o;show#[D,d.kp k,T,j,k _ _ b,k _ _ c,e]
def Jpm(j:h[bC]?=V (.ins c [])):CA (k+1) [.ref bC,.ref D] h=.ok .ah (h.set bC<|.ins c<|kq D):=by calc Ju ?_;rw[Ji9];calc ao<|Qu 07 07 j 01 ?_;rw[op0];show#[07,07]
def Li(d:cf h D rs)(L:WP rs<=12)(I:∀r∈rs,WP r.2<=6):WR (V5 (k+4) [.ref (WP h),.ref D]<|h++[.ins "ByRank" []]) λv h'=>v=.ah/\Ex h h'/\dZ h' 0 (WP h) rs:=by
 let E:Ex h (h++[IX.ins "ByRank"<|kq D]):=.one _ _;let d1:=d.kp E.kp;let#[O,F,w]:=id d1;let#[_,_,J,t,u,rfl,m,M,g,rfl]:=(K8 (k:=k+1) F w L I).eq;let B:=Jpm (k:=k+2) (h:=h++[.ins "ByRank" []]) (D:=D) Jr;rw[VV]at B;rw[Jhc];calc ao (ae<|JU<|Jf (J0 (az 07 07) B)<|Qu (J0 (aj 07) J) 07 (grow Jr) (by change(1:Nat)<1000;decide) ?_);rw[op1];let e:(h++[IX.ins "ByRank"<|kq D]++g).set (WP h) (.ins "ByRank"<|kM D t)=h++.ins "ByRank" (kM D t)::g:=by rw[fQ,fR,kC,V2]
 rw[e];let H:jf (WP h) (h++[IX.ins "ByRank"<|kq D]++g) (h++IX.ins "ByRank" (kM D t)::g):=λj o C z=>by rw[<-e,ia<|bP C];show z
 let G:t≠h.length:=λz=>by rw[z]at m;let:(h++[IX.ins "ByRank"<|kq D]++g)[WP h]?=V (.ins "ByRank"<|kq D):=grow Jr;rw[this]at m;cases m
 show#[07,.cons _ _ _,D,d.kp (Ex.cons _ _ _).kp,t,u,Jw,H _ _ G m,M]
end
end
section
seal L4.run L4.WS
section
variable{k:Nat}{h:IH}
def lU(m:h[D]?=V (.ins "Duty"<|qr vs))(C:o U h=.ok (.ref D) h)(u:e U h=.ok (.int n) h)(B:bI vs n=V (.ref j)):Jm (pg<|k+1) "work" 1 o (Jb e Je) U h=.ok (.ref j) h:=(dk C m Dm (CZ _) (aj u)<|Dp m B)
def Jqm{bC D T:Nat}(hd:cf h D rs)(gO:h[bC]?=V (.ins "ByRank"<|kM D T))(I:h[T]?=V (.aV kvs))(tv:∀x,(aK kvs<|.inr x).getD .ah=fV (cE (rs.map (·.2)) x))(ha:c.1<WP rs)(l6:∀r∈rs,WP r.2<=6):WR (CC (k+3) [.ref bC,ax c,.int d] h) λv h'=>v=.int (rk (rs.map (·.2)) (act (rs[c.1]).2 d) c.1)/\Ex h h':=by let#[H,F,w]:=hd;let#[j,E,u]:=w.get<|Zd ha;let M:bI H (c.1:Int)=V (.ref j):=JE E;let B:=Jyw ha (d:=d);let l:=l6 _<|Zy ha;generalize rs[c.1]=r at u B l;rw[Jd3];calc ao<|au<|xb<|xb ?_;calc Jf (aC 07 07 JR)<|xb<|xb<|xb<|Jf (az (lU F (aq 07 gO Dx) (aC 07 07 JR) M) 07)<|WR.mono (Lh (k:=k) u l) ?_;rintro _ O ⟨i,rfl,P,G,m⟩;let C:=Jyx r.2 d;calc xb<|Jf (aj<|aq 07 (m.get gO) ol1)<|Jf 07 (Jf 07 (WR.mono (Jsh (k:=k+1) G (m.get I) tv B<|Zb C l) ?_));rintro _ J ⟨rfl,L⟩;show#[07,m.trans L]
def Jkg{bC D T:Nat}(hd:cf h D rs)(gO:h[bC]?=V (.ins "ByRank"<|kM D T))(ha:c.1<WP rs)(l6:∀r∈rs,WP r.2<=6):WR (CD (k+3) [.ref bC,ax c,.int d] h) λv h'=>v=.bl (!(act (rs[c.1]).2 d).isEmpty)/\Ex h h':=by let#[J,B,w]:=hd;let#[j,u,m]:=w.get<|Zd ha;let G:=JE u;let l:=l6 _<|Zy ha;generalize rs[c.1]=r at m l;rw[Jgc];let#[_,H,F,i,rfl,I,C,E]:=(Lh m l).eq;calc ao<|au<|Jf ((aF (dj (J0 (az (lU B (aq 07 gO Dx) (aC 07 07 JR) G) 07) F) C) 07).trans 07) #[?_,E];rw[Zn];cases act r.2 d<;>simp
def Yo(kind:Int)(rs:Tz)(c:Cm)(d:Int):Int:=rk (rs.map (·.2)) (act (rs.getD c.1 rd).2 d) c.1
def X3(kind:Int)(rs:Tz)(c:Cm)(d:Int):Bool:=!(act (rs.getD c.1 rd).2 d).isEmpty
def Qr{rs:Tz}(hn:n<WP rs):rs.getD n rd=rs[n]:=by simp_all
def Dy(o:dZ h kind bC rs):∃j,cf h j rs/\∀(e:E1) (U:aD),e U h=.ok (.ref bC) h->Jp "duty" e U h=.ok (.ref j) h:=by let#[D,hd,T,m,gO,_]:=o;show#[D,hd,λe U k=>aq k gO Dx]
def Jor(o:dZ h kind bC rs)(ho:oe U h=.ok (.ref bC) h)(h1:e1 U h=.ok (ax c) h)(J:e2 U h=.ok (.int d) h)(ha:c.1<WP rs)(l6:∀r∈rs,WP r.2<=6):WR (Jm (pg<|k+3) "rank_of" 2 oe (Jb e1<|Jb e2 Je) U h) λv h'=>v=.int (Yo kind rs c d)/\Ex h h':=by let#[D,hd,T,B,gO,m,u]:=o;calc Xf ho gO olr (Jd1 _)<|Jf (az h1 J)<|WR.mono (Jqm (k:=k) hd gO m u ha l6) ?_;rintro _ C ⟨rfl,j⟩;show#[by rw[Yo,Qr ha],j]
def Jl4(o:dZ h kind bC rs)(ho:oe U h=.ok (.ref bC) h)(h1:e1 U h=.ok (ax c) h)(J:e2 U h=.ok (.int d) h)(ha:c.1<WP rs)(l6:∀r∈rs,WP r.2<=6):WR (Jm (pg<|k+3) "holds" 2 oe (Jb e1<|Jb e2 Je) U h) λv h'=>v=.bl (X3 kind rs c d)/\Ex h h':=by let#[D,hd,T,m,gO,B,C]:=o;calc Xf ho gO olh (Jf7 _)<|Jf (az h1 J)<|WR.mono (Jkg (k:=k) hd gO ha l6) ?_;rintro _ u ⟨rfl,j⟩;show#[by rw[X3,Qr ha],j]
end
end
def cd:Cm:=#[0,0,0,0]
def c6(kind:Int)(rs:Tz)(cs:Ua)(ds:To)(n:Nat):To:=[Yo kind rs (cs.getD n cd)<|ds.getD n 0,if X3 kind rs (cs.getD n cd) (ds.getD n 0)=Zl then 0 else 1,(n:Int)]
def qA(kind:Int)(rs:Tz)(cs:Ua)(ds:To)(v:IV):To:=match v with|.int x=>c6 kind rs cs ds x.toNat|_=>[0,0,0]
theorem Lj:∀{a b:To},WP a=WP b->da a b=Zo->da b a=Zo->a=b
 |[],[],_,_,_=>07
 |a::as,b::bs,l,h1,J=>by
  unfold da at h1 J;by_cases e:a=b
  .subst e;rw[if_pos 07]at h1 J;rw[Lj (by simpa using l) h1 J]
  .lia
 |[],_::_,l,_,_=>by simp at l
 |_::_,[],l,_,_=>by simp at l
section
variable{k:Nat}{h:IH}
def J1k(m:xs≠[])(k:ys≠[])(j:WP xs+WP ys<=sizeLine):WR (Js (.tup xs) (.tup ys) h) Q=Q (.tup<|xs++ys) h:=by unfold Js;dsimp only;rw[if_pos #[m,k,j]];rfl
def ols{D T:Nat}:(kM D T).lookup ("standing":Str)=Zg:=02
def olp{D T:Nat}:(kM D T).lookup ("pick":Str)=Zg:=02
abbrev Dz(kind:Int)(rs:Tz)(c:Cm)(d:Int):IV:=.tup [.int<|Yo kind rs c d,.int (if X3 kind rs c d=Zl then 0 else 1)]
section
seal L4.run L4.WS
def Jm1(o:dZ h kind bC rs)(ha:c.1<WP rs)(l6:∀r∈rs,WP r.2<=6):WR (CB (k+4) [.ref bC,ax c,.int d] h) λv h'=>v=Dz kind rs c d/\Ex h h':=by let B:=J6;rw[Jd5];calc ao<|au<|qm<|xb<|WR.mono (Jor (k:=k) (c:=c) (d:=d) o 07 07 07 ha l6) ?_;rintro _ u ⟨rfl,j⟩;calc xb<|xb<|jG<|xb<|WR.mono (Jl4 (k:=k) (c:=c) (d:=d) (o.kp j.kp) 07 07 07 ha l6) ?_;rintro _ J ⟨rfl,m⟩;let x:=j.trans m;unfold Dz;let l2:(2:Nat)<=sizeLine:=kx _ _;cases X3 kind rs c d with|true=>show#[λ_=>#[l2,07,x],λz=>by cases z]|false=>show#[(λz=>by cases z),λ_=>#[l2,07,x]]
def Jgw(o:dZ h kind bC rs)(ho:oe U h=.ok (.ref bC) h)(h1:e1 U h=.ok (ax c) h)(J:e2 U h=.ok (.int d) h)(ha:c.1<WP rs)(l6:∀r∈rs,WP r.2<=6):WR (Jm (pg<|k+4) "standing" 2 oe (Jb e1<|Jb e2 Je) U h) λv h'=>v=Dz kind rs c d/\Ex h h':=by let j:=Jm1 (k:=k) (d:=d) o ha l6;let#[D,hd,T,m,gO,u,B]:=o;show Xf ho gO ols (Jdm _)<|Jf (az h1 J) j
def J0r{cs:Ua}(h0:h[0]?=V (.tab "Order.pick"))(o:dZ h kind bC rs)(l6:∀r∈rs,WP r.2<=6)(H:∀c∈cs,c.1<WP rs)
  (M:h[R]?=V (.lst<|cs.map ax))(G:h[W]?=V (.lst (ps.map λp:Nat=>.int p)))(gN:h[N]?=V (.lst<|ds.map .int))(ld:WP ds=WP cs)(ne:ps≠[])(hp:∀p∈ps,p<WP cs):
  WR (xn (k+5) [.ref bC,.ref R,.ref W,.ref N] h) λv h'=>∃p∈ps,v=.int (p:Int)/\(∀p'∈ps,da (c6 kind rs cs ds p') (c6 kind rs cs ds p)=Zo)/\Ex h h':=by
 let P:=J6;rw[Jja];calc ao<|au ?_;rw[J1t h0 07];refine WR.mono (Jtt (kf:=qA kind rs cs ds) (n:=3) G (by simpa using ne) ?_ ?_) ?_
 .intro y B E m;let#[p,j,rfl]:=ZC.1 B;let lp:=hp p j;let C:bI (cs.map ax) (p:Int)=V (ax cs[p]):=JE<|by rw[Zz,Zd lp];rfl
  let D:bI (ds.map IV.int) (p:Int)=V (.int<|ds[p]'(Zb lp<|Zh ld.symm)):=JE<|by rw[Zz,Zd];rfl
  let I:qA kind rs cs ds (.int (p:Int))=[Yo kind rs cs[p]<|ds[p]'(Zb lp<|Zh ld.symm),if X3 kind rs cs[p] (ds[p]'(Zb lp<|Zh ld.symm))=Zl then 0 else 1,(p:Int)]:=by change c6 kind rs cs ds (oH (p:Int))=_;rw[jP];unfold c6;rw[Zk,Zk,Zd lp,Zd<|show p<WP ds by show Zb lp<|Zh ld.symm];rfl
  let u:=H _<|Zy lp;rw[I];generalize cs[p]=c at C u;generalize ds[p]'(Zb lp<|Zh ld.symm)=d at D;calc xb<|WR.mono (Jgw (k:=k) (o.kp m.kp) 07 (aP 07 07 (m.get M) C) (aP 07 07 (m.get gN) D) u l6) ?_;rintro _ J ⟨rfl,L⟩;calc xb<|Jf (hZ (aj 07) 07) ?_;rw[J1k 03 03<|by simp;show kx _ _];show#[07,L]
 .intro y B;let#[p,j,rfl]:=ZC.1 B;rfl
 .rintro v E ⟨F,O,m⟩;let#[p,j,rfl]:=ZC.1 F;calc#[p,j,07,λp' q=>?_,m];let:=O _<|ZC.2 #[p',q,07];simpa only[qA,jP]using this
def Joq(o:dZ h kind bC rs)(ho:oe U h=.ok (.ref bC) h)(h1:a U h=.ok [v1,v2,v3] h)(q:WR (xn k [.ref bC,v1,v2,v3] h) P):
  WR (Jm (pg k) "pick" 3 oe a U h) P:=by
 let#[D,hd,T,j,gO,m,u]:=o;show Xf ho gO olp (Jg8 _)<|Jf h1 q
end
end
section
seal L4.run L4.WS
noncomputable def gz (c:Cm):Int:=c.2+c.3
def oX(rs:Tz)(c:Cm):Int:=c.2+(rs.getD c.1 rd).1.4
section
variable{k:Nat}{h:IH}
def Lk(k:a U h=.ok (.int i) h1)(m:b U h1=.ok (.int j) J)(u:c U J=.ok (.int l) h3)(t1:i<=j)(t2:j<=l):JS eM eM a b c U h=.ok (.bl Zl) h3:=by unfold JS;rw[k];dsimp only[Res.bind];rw[m];change(match IV.bl (decide (i<=j))with|.bl Zl=>_|.bl Zo=>_|_=>_)=_;rw[decide_eq_true t1];rw[u];change Res.ok (IV.bl<|decide (j<=l)) h3=_;rw[decide_eq_true t2]
def Ju7(hd:cf h D rs)(ok:xI rs c):WR (Cg (k+3) [.ref D,ax c] h) λv h'=>v=.bl Zl/\Ex h h':=by
 let O:=J6;let#[P,G,w]:=hd;let F:=w.1;let#[a,b,c,d]:=c;let#[q1,q2,q3,q4,H,u]:=ok;let q1:a<WP rs:=q1;let#[j,ev,B]:=w.get<|Zd q1;let I:=JE ev;let q4:c<=(rs[a]).1.5:=q4;let u:d<=(rs[a]).1.3:=u;generalize rs[a]=r at B q4 u;rw[Jk7];calc ao<|ae<|bE 07 (aM<|ae ?_);let#[_,_,L,rfl,g,rfl]:=(Q0 (it:=Jv 'b') (e:=CS<|k+2) (js:=[]) (U:=[V<|.ref D,V<|ax #[a,b,c,d],Zg]) (h0:=h) (h:=h) (xs:=[IV.int (a:Int),IV.int b,IV.int c,IV.int d]) (bf:=λ_=>True) (f:=λ_=>.bl Zl) #[07,07,07] (by simp;show kx _ _) (λ_ _=>trivial) (by
  intro v E J q;obtain⟨i,rfl⟩:∃i,v=.int i:=by simp![ZG,kB,or_false]at E;rcases E with rfl|rfl|rfl|rfl<;>show#[_,07]
  unfold CS;show Jf (J0 (aj 07)<|C9 _) #[07,.refl _])).eq
 calc bE (c3 (c:=Zl)<|cK<|(gu<|aj L).trans<|all_map (f:=λ_=>Zl) Jw)<|aM ?_;let m:Ex h (h++IX.lst ([IV.int (a:Int),IV.int b,IV.int c,IV.int d].map λ_=>.bl Zl)::g):=.cons _ _ _;generalize h++IX.lst ([IV.int (a:Int),IV.int b,IV.int c,IV.int d].map λ_=>.bl Zl)::g=M at m;let C:=m.get G;calc ae (bE (r7 (c3<|bR<|chT 07 (aC 07 07 JR) (dk 07 C sd (X9 _) 07 (XA C)) (jn a) (by rw[F];show mj.2 06))<|eS (ng (aC 07 07 JP) 07)<|decide_eq_false<|ZU.2 q2)<|aM<|ae<|ak<|Jf (lU C 07 (aC 07 07 JR) I) ?_);show au<|Jf (xB (Lk 07 (aC 07 07 Q2) (aq 07 (m.get B) kK) q3 q4)<|Lk 07 (aC 07 07 BJ) (aq 07 (m.get B) oR) H u) #[07,m]
def Jzp(hd:cf h D rs)(Y:h[R]?=V (.lst<|cs.map ax))(L:br rs cs)(hl:WP cs<=1000):
  WR (Ci (k+4) [.ref D,.ref R] h) λv h'=>v=.ah/\Ex h h':=by
 let hb:=J6;let#[vs,Z,w]:=id hd;rw[Jhd];calc ao<|ae<|ak<|Jf 07 (ae<|jH ?_);rw[Vn];calc Jf (aj 07)<|(BM _).mpr #[_,grow Y,?_];refine Vd (λn U h'=>∃m g a b c,h'=h++IX.aV m::g/\U=[V<|.ref D,V<|.ref R,V<|.ref (WP h),a,b,c]/\WP m<=n/\∀(a:Nat) v,aK m (.inl (a:Int))=V v->∃i c,i<n/\cs[i]?=V c/\c.1=a/\v=.int c.2) ?_ ?_ ?_ #[[],[],Zg,Zg,Zg,07,07,Zm _,λa v e=>by cases e]
 .rintro _ _ _ ⟨m,g,a,b,c,rfl,_⟩;show grow Y
 .rintro n hn _ _ ⟨m,g,a,b,c,rfl,rfl,ln,X⟩;rw[Hi];let F:n<WP cs:=by simpa[VN]using hn
  let x1:Ex h (h++IX.aV m::g):=.cons _ _ _;rw[fS];let M:cs[n]?=V cs[n]:=Zd F;let ok:=L.1 _<|Zy F;generalize cs[n]=B at M ok;let#[_,_,e2,rfl,g2,rfl]:=(Ju7 (k:=k) (c:=B) (hd.kp x1.kp) ok).eq;calc jg 07 (ae<|bE (c3<|cK<|J0 (az 07 07) e2)<|aM<|ae<|ak<|Jf (aC 07 07 JR)<|ae ?_);let eh:h++IX.aV m::g++g2=h++IX.aV m::(g++g2):=by rw[fQ,fR]
  rw[eh];let Q:Ex h (h++IX.aV m::(g++g2)):=.cons _ _ _;let G:=ok.1;let H:=Zd G;let#[j,ev,W]:=w.get H;let av:=JE ev;generalize rs[B.1]=r at H W;let fin:∀{U:aD}(a b c),U=[V<|.ref D,V<|.ref R,V<|.ref (WP h),a,b,c]->∃u I a b c,List.set (h++IX.aV m::(g++g2)) (WP h) (IX.aV<|putD m (.inl (B.1:Int))<|.int B.2)=h++IX.aV u::I/\U=[V<|.ref D,V<|.ref R,V<|.ref (WP h),a,b,c]/\WP u<=n+1/\∀(a:Nat) v,aK u (.inl (a:Int))=V v->∃i c,i<n+1/\cs[i]?=V c/\c.1=a/\v=.int c.2:=by
   intro U a b c hU;refine#[_,_,_,_,_,V2 _ _ _,hU,?_,λa v e=>?_]
   .unfold putD;split
    .rw[Zn];show sk 06
    .rw[Z1,o7];show mO 06
   .rw[K9]at e;split at e
    .rename_i z;cases e;show#[n,B,ZZ _,M,by let:=Sum.inl.inj z;lia,07]
    .let#[i,c,h1,J]:=X a v e;show#[i,c,iB 06,J]
  let C:∀{U:aD}(a b:Te),U=[V<|.ref D,V<|.ref R,V<|.ref (WP h),a,V<|ax B,V<|.int (B.1:Int)]->∀P,WS (fG (Jc Jh 'e' '1') (jC 'c' 'f') U<|h++IX.aV m::(g++g2)) (λU h'=>∃m g a b c,h'=h++IX.aV m::g/\U=[V<|.ref D,V<|.ref R,V<|.ref (WP h),a,b,c]/\WP m<=n+1/\∀(a:Nat) v,aK m (.inl (a:Int))=V v->∃i c,i<n+1/\cs[i]?=V c/\c.1=a/\v=.int c.2) P:=by rintro U a b rfl P;calc(YY ..).mpr<|Jf (aC 07 07 JP) ?_;rw[Lb];calc Jf 07 (Jf 07 ?_);rw[Lc (Jw (h:=h))<|show (WP m)<sizeLine by show Zb (Zi _ 999001)<|Zb (Zc (Zb (Zb (Zc ln 1) F) hl) 999001) hb];show fin _ _ _ 07
  let S:∀{U:aD}(a b:Te),U=[V<|.ref D,V<|.ref R,V<|.ref (WP h),a,V<|ax B,V<|.int (B.1:Int)]->Ji bg (Jc jB 'f' 'c') U (h++IX.aV m::(g++g2))=.ok (aK m<|.inl (B.1:Int)).isSome (h++IX.aV m::(g++g2)):=by rintro U a b rfl;show bR ((aF 07 07).trans<|Ju<|by rw[J5q Jw];show#[07,07])
  cases E:aK m (.inl (B.1:Int))with|none=>show bE (C6<|(S _ Zg 07).trans<|by rw[E];rfl)<|aM<|C _ Zg 07 _|some l=>
   let#[i,c0,hi,e0,O,rfl]:=X _ _ E;let nJ:=L.2 i n c0 B hi e0 M O r<|by rw[O];show H
   show bE (C5 ((S _ Zg 07).trans<|by rw[E];rfl)<|eS (ng (cZ (aC 07 07 JP)<|(aF 07 07).trans<|Ju<|by rw[La Jw E];show#[07,07])<|aq (lU (Q.get Z) 07 07 av) (Q.get W) qq)<|decide_eq_false 05)<|aM<|C _ Zg 07 _
 .rintro _ _ ⟨m,g,a,b,c,rfl,rfl,_⟩;show au<|Jf 07 #[07,.cons _ _ _]
def J2e(hd:cf h D rs)(j:h[R]?=V (.lst<|cs.map ax))(L:br rs cs)(u:WP cs<=200):
  WR (Cj (k+5) [.ref D,.ref R] h) λv h'=>v=.ah/\Ex h h':=by
 rw[Jo0];calc ao (ae<|bE (eS (kj (dj 07 j) 07)<|decide_eq_false<|by rw[Zn];lia)<|aM<|ae<|ak<|xb<|Jf (az 07 07)<|WR.mono (Jzp (k:=k) hd j L<|kr 06) ?_);rintro _ B ⟨rfl,m⟩;show bE 07 (aM #[07,m])
def Ll:xl (k+1) [ax c] h=.ok (.int<|gz c) h:=(Ju<|by rw[Jus];show ao<|au<|Jf (aU (aC 07 07 JP)<|aC 07 07 Q2) #[07,07])
end
end
def xK(I:Nat->aD->IH->Prop) (j:∀m U h,I m U h->WR (t U h) λc h1=>(c=Zl->∃k,m=k+1/\WS (b U h1) (I k) R)/\(c=Zo->N U h1))(hm:m<1000000)(start:I m U h):WS (V1 t b U h) N R:=by
 let B:∀(n m:Nat)(U:aD)(h:IH),m<n->I m U h->WS (V3 t b n U h) N R:=by
  intro n;induction n with|zero=>intro m U h hn _;show absurd 06 (mQ _)|succ n E=>
   intro m U h hn F;let#[c,h1,e,q1,q2]:=(j m U h F).eq;unfold V3;rw[e];cases c with|false=>show q2 07|true=>let#[k,rfl,w]:=q1 07;simp![if_true];cases u:b U h1 with|next C J=>rw[u]at w;show E k C J (yk 06) w|ret v J=>rw[u]at w;show w|_=>rw[u]at w;show w.elim
 let D:Xc=1000000:=by unfold Xc;rfl
 show B _ m U h (by rw[D];show hm) start
structure Bs where
 ds:To
 lr:Tp
 wa:Tp
 t:Int
 sr:Wa
def ar(cs:Ua)(p:Nat):Int:=gz<|cs.getD p cd
def aW(cs:Ua)(p:Nat):Int:=(cs.getD p cd).4
def c7(rs:Tz)(cs:Ua)(p:Nat):Tx:=(rs.getD (cs.getD p cd).1 rd).2
def bY(cs:Ua)(t:Int):Tp->Tp->List Nat×Tp|[],wa=>([],wa)|p::lr,wa=>if ar cs p<=t then bY cs t lr (wa++[p])else(p::lr,wa)
def aT(cs:Ua)(s:Bs):Int:=match s.3,s.2 with|[],p::_=>if ar cs p>s.t then ar cs p else s.t|_,_=>s.t
def aO(cs:Ua)(s:Bs):Bs:=#[s.1,(bY cs (aT cs s) s.2 s.3).1,(bY cs (aT cs s) s.2 s.3).2,aT cs s,s.5]
def Vp(kind:Int)(rs:Tz)(cs:Ua)(ds:To)(wa:Tp)(p:Nat):Prop:=p∈wa/\∀q∈wa,da (c6 kind rs cs ds q) (c6 kind rs cs ds p)=Zo
def XM(kind:Int)(rs:Tz)(cs:Ua)(ds:To)(wa:Tp):Nat:=(wa.find? λp=>wa.all λq=>!da (c6 kind rs cs ds q) (c6 kind rs cs ds p)).getD 0
def Vp.uniq(a:Vp kind rs cs ds wa p)(b:Vp kind rs cs ds wa q):p=q:=by let:=Lj (a:=c6 kind rs cs ds p) (b:=c6 kind rs cs ds q) 07 (b.2 p a.1) (a.2 q b.1);simp![c6]at this;lia
def Vp.eq(a:Vp kind rs cs ds wa p):XM kind rs cs ds wa=p:=by unfold XM;cases e:wa.find? λp=>wa.all λq=>!da (c6 kind rs cs ds q) (c6 kind rs cs ds p)with|none=>let:=List.find?_eq_none.1 e p a.1;simp![pb,pE]at this;show absurd a.2 this|some q=>let j:=List.find?_some e;simp at j;show Vp.uniq #[List.mem_of_find?_eq_some e,j] a
noncomputable def Q6 (hs:Tx)(d len:Int):To:=len::(hs.filter λa=>decide (d<a.2.2)).map (·.2.2)
def QN(hs:Tx)(d len:Int):Int:=QI (λi=>(Q6 hs d len).getD i 0) (Q6 hs d len).length
def Qj(rs:Tz)(cs:Ua)(s:Bs)(p:Nat):Int:=match s.2 with|[]=>QN (c7 rs cs p) (s.1.getD p 0) (aW cs p)-s.1.getD p 0|q::_=>if ar cs q-s.t<QN (c7 rs cs p) (s.1.getD p 0) (aW cs p)-s.1.getD p 0 then ar cs q-s.t else QN (c7 rs cs p) (s.1.getD p 0) (aW cs p)-s.1.getD p 0
noncomputable def QP (p:Nat)(t u:Int):Wa->Wa|[]=>[(p,t,u)]|a::r=>if a.1=p then(p,a.2.1,u)::r else(p,t,u)::a::r
def jh(rs:Tz)(cs:Ua)(s:Bs)(p:Nat)(n:Int):Bs:=#[s.1.set p<|s.1.getD p 0+n,s.2,if s.1.getD p 0+n=aW cs p then s.3.erase p else s.3,s.t+n,QP p s.t (s.t+n) s.5]
def xM(kind:Int)(rs:Tz)(cs:Ua)(s:Bs):Bs:=jh rs cs s (XM kind rs cs s.1 s.3)<|Qj rs cs s<|XM kind rs cs s.1 s.3
def Q5(kind:Int)(rs:Tz)(cs:Ua)(s:Bs):Bs:=xM kind rs cs<|aO cs s
def runM(kind:Int)(rs:Tz)(cs:Ua):Nat->Bs->Bs|0,s=>s|m+1,s=>if s.2=[]/\s.3=[]then s else runM kind rs cs m (Q5 kind rs cs s)
def iw(cs:Ua):Tp:=(cY (cs.map gz).reverse (WP cs)).map λi=>WP cs-1-i
def s0(cs:Ua):Bs:=#[cs.map λ_=>0,iw cs,[],0,[]]
def eY(kind:Int)(rs:Tz)(cs:Ua):Bs:=runM kind rs cs (8*WP cs)<|s0 cs
def Lm(hs)(d len):QN hs d len=len\/∃a∈hs,d<a.2.2/\QN hs d len=a.2.2:=by
 let#[j,u,e]:=Dt (λi=>(Q6 hs d len).getD i 0) (Q6 hs d len).length<|by simp[Q6]
 unfold QN;rw[e];cases j with|zero=>show .inl 07|succ j=>
  calc .inr ?_;let k:j<(hs.filter λa=>decide (d<a.2.2)).length:=by simpa[Q6]using u
  let m:=Zy k;rw[eZ]at m;calc#[_,m.1,of_decide_eq_true m.2,?_];simp[Q6,Zd k]
def xN(hs)(d len):QN hs d len<=len:=(Yr (λi=>(Q6 hs d len).getD i 0) _ 0<|by simp[Q6])
def J09(h:d<len):d<QN hs d len:=by rcases Lm hs d len with e|⟨a,_,l,e⟩<;>(first|show Z8 l (Z3 e.symm)|show Z8 h (Z3 e.symm)|lia)
structure Wf(cs:Ua)(s:Bs):Prop where
 ld:WP s.ds=WP cs
 mem:∀p∈s.2++s.3,p<WP cs
 nd:(s.2++s.3).Nodup
 qB:s.2.Pairwise λp q=>ar cs p<=ar cs q
 z:∀p∈s.2++s.3,0<=s.1.getD p 0/\s.1.getD p 0<aW cs p
 dn:∀p,p<WP cs->p∉s.2++s.3->s.1.getD p 0=aW cs p
 z0:∀p∈s.2,s.1.getD p 0=0
 rw:∀p∈s.3,ar cs p<=s.t
theorem xO(cs)(t):∀(lr wa:Tp),((bY cs t lr wa).1++(bY cs t lr wa).2).Perm (lr++wa)
 |[],wa=>.refl _
 |p::lr,wa=>by
  unfold bY;split
  .calc(xO cs t lr<|wa++[p]).trans ?_;rw[<-fQ];show Eh p<|lr++wa
  .show .refl _
theorem YJ(cs)(t):∀(lr wa:Tp),∃a,lr=a++(bY cs t lr wa).1/\(bY cs t lr wa).2=wa++a/\(∀p∈a,ar cs p<=t)/\∀q r,(bY cs t lr wa).1=q::r->t<ar cs q
 |[],wa=>#[[],07,by simp[bY],03,by simp[bY]]
 |p::lr,wa=>by
  unfold bY;split
  .rename_i c;let#[a,m,B,k,u]:=YJ cs t lr<|wa++[p];show#[p::a,congrArg (p:: ·) m,by rw[B];simp,λq j=>by rcases ZG.1 j with rfl|j;show c;show k q j,u]
  .simp_all
def YR(cs)(s):s.t<=aT cs s:=by
 unfold aT;split
 .split<;>(first|show ZJ 06|show ZD _|lia)
 .show ZD _
def Wf.let(w:Wf cs s):Wf cs (aO cs s):=by
 let#[a,m,B,u,C]:=YJ cs (aT cs s) s.2 s.3;let k:=xO cs (aT cs s) s.2 s.3;let tg:=YR cs s;refine#[w.1,λp j=>w.2 p<|k.mem_iff.1 j,k.nodup_iff.2 w.3,?_,λp j=>w.z p<|k.mem_iff.1 j,λp l j=>w.6 p l λz=>j<|k.mem_iff.2 z,λp j=>w.7 p ?_,λp j=>?_]
 .let:=w.4;rw[m]at this;show(qN.1 this).2.1
 .rw[m];show Zr _ j
 .let j:p∈(bY cs (aT cs s) s.2 s.3).2:=j;rw[B]at j;rcases ZQ.1 j with j|j
  .let:=w.8 p j;show ZH this tg
  .show u p j
def DA(ne:¬(s.2=[]/\s.3=[])):(aO cs s).3≠[]:=by
 let#[a,u,C,E,B]:=YJ cs (aT cs s) s.2 s.3;intro e;let e:(bY cs (aT cs s) s.2 s.3).2=[]:=e;rw[C]at e;let#[k,m]:=List.append_eq_nil_iff.1 e;cases j:s.2 with|nil=>show ne #[j,k]|cons p r=>
  let:=B p r<|by rw[<-j];simpa[m]using u.symm
  let D:aT cs s=if ar cs p>s.t then ar cs p else s.t:=by unfold aT;rw[k,j]
  rw[D]at this;split at this<;>(first|show cN.2 this (ZD _)|show cN.2 this (ZU.1 06)|lia)
def xP(w:Wf cs s):∀q∈(aO cs s).2,(aO cs s).t<ar cs q:=by
 let#[a,B,C,u,m]:=YJ cs (aT cs s) s.2 s.3;let j:=w.let.4;change ∀q∈(bY cs (aT cs s) s.2 s.3).1,aT cs s<ar cs q;let j:((bY cs (aT cs s) s.2 s.3).1).Pairwise _:=j;cases e:(bY cs (aT cs s) s.2 s.3).1 with|nil=>simp|cons p r=>
  let:=m p r e;rw[e]at j;intro q k;rcases ZG.1 k with rfl|k
  .show this
  .let:=(qO.1 j).1 q k;show Z8 06 this
def DB(gt:∀q∈s.2,s.t<ar cs q)(l:s.1.getD p 0<aW cs p):0<Qj rs cs s p/\s.1.getD p 0+Qj rs cs s p<=QN (c7 rs cs p) (s.1.getD p 0) (aW cs p):=by
 let:=J09 (hs:=c7 rs cs p) l;unfold Qj;split
 .lia
 .rename_i q r e;let:=gt q<|by rw[e];simp
  split<;>lia
def Xm{l:List α}:(l.set i x).getD j z=if i=j/\j<WP l then x else l.getD j z:=by
 simp;by_cases e:i=j
 .subst e;by_cases k:i<WP l
  .simp[k]
  .simp[k]
 .simp[e]
def Wf.do(w:Wf cs s)(hp:p∈s.3)(m:0<n)(C:s.1.getD p 0+n<=aW cs p):Wf cs (jh rs cs s p n):=by
 let lp:=w.2 p<|Zr _ hp;let sub:(s.2++(jh rs cs s p n).3).Sublist (s.2++s.3):=by
  calc List.Sublist.append_left ?_ _;change List.Sublist (if _ then _ else _) _;split
  .show List.erase_sublist
  .show List.Sublist.refl _
 let k:=λq j e=>(qN.1 w.3).2.2 q j p hp e
 let u:=(qN.1 w.3).2.1;let g:∀q,(jh rs cs s p n).1.getD q 0=if p=q then s.1.getD p 0+n else s.1.getD q 0:=λq=>by
  change(s.1.set p _).getD q 0=_;rw[Xm];by_cases e:p=q
  .subst e;rw[if_pos #[07,by rw[w.1];show lp],if_pos 07]
  .rw[if_neg λz=>e z.1,if_neg e]
 refine#[by change(s.1.set _ _).length=_;rw[nY];show w.1,λq j=>w.2 q<|sub.subset j,w.3.sublist sub,w.4,λq j=>?_,λq B j=>?_,λq j=>?_,λq j=>?_]
 .let:=w.z q<|sub.subset j;rw[g];split
  .rename_i e;subst e;calc#[ZJ<|ZE this.1<|ZR _ m,?_];rcases ZQ.1 j with j|j
   .show absurd 07 (k p j)
   .let j:p∈if s.1.getD p 0+n=aW cs p then s.3.erase p else s.3:=j
    split at j
    .show absurd j<|List.Nodup.not_mem_erase u
    .show vh.2 #[C,06]
  .show this
 .rw[g];split
  .rename_i e;subst e;let j:p∉s.2++if s.1.getD p 0+n=aW cs p then s.3.erase p else s.3:=j
   split at j
   .assumption
   .show absurd (Zr _ hp) j
  .rename_i ne;refine w.6 q B λz=>j ?_
   change q∈s.2++if s.1.getD p 0+n=aW cs p then s.3.erase p else s.3
   split
   .rcases ZQ.1 z with z|z
    .show iZ _ z
    .show Zr _<|(List.mem_erase_of_ne<|bP ne).2 z
   .show z
 .rw[g,if_neg<|bP<|k q j];show w.7 q j
 .let:=w.8 q (by
   let j:q∈if s.1.getD p 0+n=aW cs p then s.3.erase p else s.3:=j
   split at j
   .show List.mem_of_mem_erase j
   .show j)
  change _<=s.t+n;show ZJ<|ZE this<|ZR _ m
theorem DC:∀{wa:Tp},wa≠[]->∃p,Vp kind rs cs ds wa p
 |[],h=>absurd 07 h
 |[p],_=>#[p,03,λq u=>by rw[ZB.1 u];show YB _]
 |p::q::r,_=>by
  let#[m,hm,k]:=DC (wa:=q::r) 03;cases c:da (c6 kind rs cs ds p) (c6 kind rs cs ds m)with
  |true=>
   calc#[p,03,λx j=>?_];rcases ZG.1 j with rfl|j
   .show YB _
   .cases z:da (c6 kind rs cs ds x) (c6 kind rs cs ds p)with
    |false=>rfl
    |true=>show absurd (BZ z c)<|by rw[k x j];show Zx
  |false=>
   calc#[m,Zq _ hm,λx j=>?_];rcases ZG.1 j with rfl|j
   .show c
   .show k x j
def VM(rs:Tz)(cs:Ua)(ds:To)(p:Nat):Nat:=((c7 rs cs p).filter λa=>decide (ds.getD p 0<a.2.2)).length
def lV(rs:Tz)(cs:Ua)(s:Bs):Nat:=(s.2++s.3).length+((Z6 (WP cs)).map<|VM rs cs s.1).sum+(s.2.filter λp=>decide (s.t<ar cs p)).length
theorem Y5:∀{l:List α},(∀x∈l,f x=Zl->g x=Zl)->(l.filter f).length<=(l.filter g).length
 |[],_=>03
 |x::l,h=>by
  let j:=Y5 λy k=>h y<|Zq _ k
  let:=h x 03;simp![qP];split
  .simp_all
  .split
   .simp;show sk 06
   .show j
theorem DD:∀{l:List α},a∈l->f a=Zo->g a=Zl->(∀x∈l,f x=Zl->g x=Zl)->(l.filter f).length<(l.filter g).length
 |x::l,ha,fa,ga,h=>by
  let u:=Y5 λy j=>h y<|Zq _ j
  let m:=h x 03;rcases ZG.1 ha with rfl|ha
  .simp only[qP,fa,ga,if_true,jj];show mO 06
  .let k:=DD ha fa ga λy j=>h y<|Zq _ j
   simp![qP];split
   .simp_all
   .split
    .simp;show mO 06
    .show k
theorem xQ{f g:Nat->Nat}:∀{l:Tp},(∀x∈l,f x<=g x)->(l.map f).sum<=(l.map g).sum
 |[],_=>Zm _
 |x::l,h=>by
  let:=h x 03;let:=xQ λy j=>h y<|Zq _ j
  simp;show qK 06 this
theorem Ln{f g:Nat->Nat}:∀{l:Tp},a∈l->f a<g a->(∀x∈l,f x<=g x)->(l.map f).sum<(l.map g).sum
 |x::l,ha,la,h=>by
  let k:=h x 03;let m:=xQ λy j=>h y<|Zq _ j
  simp;rcases ZG.1 ha with rfl|ha
  .show Ed la m
  .let:=Ln ha la λy j=>h y<|Zq _ j
   show yj k this
def J0f(rs)(cs)(s):lV rs cs (aO cs s)<=lV rs cs s:=by
 let#[a,u,D,B,C]:=YJ cs (aT cs s) s.2 s.3;let j:=(xO cs (aT cs s) s.2 s.3).length_eq;let tg:=YR cs s;change((bY cs (aT cs s) s.2 s.3).1++(bY cs (aT cs s) s.2 s.3).2).length+_+((bY cs (aT cs s) s.2 s.3).1.filter λp=>decide (aT cs s<ar cs p)).length<=_;rw[j];unfold lV;let m:=Y5 (g:=λp=>decide (s.t<ar cs p)) (l:=(bY cs (aT cs s) s.2 s.3).1) λx _ c=>decide_eq_true<|ZE tg<|of_decide_eq_true c
 let J:(s.2.filter λp=>decide (s.t<ar cs p)).length=(a.filter λp=>decide (s.t<ar cs p)).length+((bY cs (aT cs s) s.2 s.3).1.filter λp=>decide (s.t<ar cs p)).length:=by
  conv=>lhs;rw[u]
  rw[List.filter_append,Z1]
 let k:((Z6 (WP cs)).map<|VM rs cs (aO cs s).1).sum=((Z6 (WP cs)).map<|VM rs cs s.1).sum:=07;show qK (qK (Zm _)<|Zh k)<|Zb (Zb m<|kx _ _)<|Zh J.symm
def J30(w:Wf cs s)(gt:∀q∈s.2,s.t<ar cs q)(hp:p∈s.3):lV rs cs (jh rs cs s p<|Qj rs cs s p)<lV rs cs s:=by
 let lp:=w.2 p<|Zr _ hp;let#[k,C]:=DB gt (w.z p<|Zr _ hp).2;let E:=xN (c7 rs cs p) (s.1.getD p 0)<|aW cs p;let hn:∀n,n=Qj rs cs s p->0<n/\s.1.getD p 0+n<=aW cs p:=λn e=>by rw[e];show#[k,ZH C E]
 let j:(s.1.getD p 0+Qj rs cs s p=aW cs p)\/(∃a∈c7 rs cs p,s.1.getD p 0<a.2.2/\s.1.getD p 0+Qj rs cs s p=a.2.2)\/∃q∈s.2,s.t+Qj rs cs s p=ar cs q:=by
  unfold Qj;let:=Lm (c7 rs cs p) (s.1.getD p 0)<|aW cs p;split
  .rcases this with e|⟨a,ha,l,e⟩
   .show .inl 05
   .show .inr<|.inl #[a,ha,l,05]
  .rename_i q r e;split
   .show .inr (.inr #[q,by rw[e];simp,05])
   .rcases this with e|⟨a,ha,l,e⟩
    .show .inl 05
    .show .inr<|.inl #[a,ha,l,05]
 generalize Qj rs cs s p=n at k C j;let D:∀q,(s.1.set p<|s.1.getD p 0+n).getD q 0=if p=q then s.1.getD p 0+n else s.1.getD q 0:=λq=>by
  rw[Xm];by_cases e:p=q
  .subst e;rw[if_pos #[07,by rw[w.1];show lp],if_pos 07]
  .rw[if_neg λz=>e z.1,if_neg e]
 let B:∀q∈Z6 (WP cs),VM rs cs (s.1.set p<|s.1.getD p 0+n) q<=VM rs cs s.1 q:=λq _=>Y5 λx _ c=>by
  let c:=of_decide_eq_true c;rw[D]at c;calc decide_eq_true ?_;split at c
  .rename_i e;subst e;show pF (ZR _ k) 06
  .show c
 let u:∀x∈s.2,decide (s.t+n<ar cs x)=Zl->decide (s.t<ar cs x)=Zl:=λx _ c=>decide_eq_true<|by simp_all
 let l2:=xQ B;let F:=Y5 u;let m:(s.2++if s.1.getD p 0+n=aW cs p then s.3.erase p else s.3).length<=(s.2++s.3).length:=by
  rw[Z1,Z1];split
  .let:=Ek hp;show qK (Zm _)<|Zb (Zh this)<|nU _ _
  .show Zm _
 change(s.2++if s.1.getD p 0+n=aW cs p then s.3.erase p else s.3).length+((Z6 (WP cs)).map<|VM rs cs<|s.1.set p<|s.1.getD p 0+n).sum+(s.2.filter λx=>decide (s.t+n<ar cs x)).length<(s.2++s.3).length+((Z6 (WP cs)).map<|VM rs cs s.1).sum+(s.2.filter λx=>decide (s.t<ar cs x)).length;rcases j with e|⟨a,ha,la,e⟩|⟨q,hq,e⟩
 .rw[if_pos e,Z1,Z1];let:=Ek hp;let:=List.length_pos_of_mem hp;omega
 .let:=Ln (ig.2 lp) (DD ha (decide_eq_false<|by simp_all) (decide_eq_true la) λx _ c=>by let c:=of_decide_eq_true c;rw[D,if_pos 07]at c;show decide_eq_true<|pF (Z8 la<|Z3 e.symm) c) B;show Ed (yj m this) F
 .let:=DD hq (decide_eq_false<|ZU.2<|Z3 e.symm) (decide_eq_true<|gt q hq) u;show yj (qK m l2) this
section
seal L4.run
abbrev nI(n:Nat):IV:=.int (n:Int)
noncomputable abbrev tupS (a:Nat×Int×Int):IV:=.tup [.int (a.1:Int),.int a.2.1,.int a.2.2]
noncomputable def cM (bC R D L W:Nat)(t:Int)(S:Nat):Wo:=[("order",.ref bC),("row",.ref R),("dones",.ref D),("later",.ref L),("waiting",.ref W),("turn",.int t),("stretches",.ref S)]
section
variable{bC R D L W S:Nat}{t u:Int}
def Lo:(cM bC R D L W t S).lookup ("order":Str)=V (.ref bC):=02
def xR:(cM bC R D L W t S).lookup ("row":Str)=V (.ref R):=02
def xS:(cM bC R D L W t S).lookup ("dones":Str)=V (.ref D):=02
def uc:(cM bC R D L W t S).lookup ("later":Str)=V (.ref L):=02
def ud:(cM bC R D L W t S).lookup ("waiting":Str)=V (.ref W):=02
def se:(cM bC R D L W t S).lookup ("turn":Str)=V (.int t):=02
def ue:(cM bC R D L W t S).lookup ("stretches":Str)=V (.ref S):=02
def bn0:(cM bC R D L W t S).lookup ("next_ready":Str)=Zg:=02
def bn1:(cM bC R D L W t S).lookup ("let_in":Str)=Zg:=02
def bn2:(cM bC R D L W t S).lookup ("turns_for":Str)=Zg:=02
def bn3:(cM bC R D L W t S).lookup ("tell":Str)=Zg:=02
def bn4:(cM bC R D L W t S).lookup ("go_on":Str)=Zg:=02
def Lp:bL "turn" (.int u) (cM bC R D L W t S)=cM bC R D L W u S:=02
end
structure Bg(h0:IH)(kind:Int)(rs:Tz)(cs:Ua)(bC R:Nat):Prop where
 o:dZ h0 kind bC rs
 r:h0[R]?=V (.lst<|cs.map ax)
 c:∀c∈cs,c.1<WP rs
 l6:∀r∈rs,WP r.2<=6
 p1:h0[0]?=V (.tab "Order.pick")
 n:WP cs<=200
structure Bn(h0 h:IH)(B bC R D L W S:Nat)(s:Bs):Prop where
 x:Ex h0 h
 ap:WP h0<=B/\B<D/\D<L/\L<W/\W<S
 b:h[B]?=V (.ins "Bench"<|cM bC R D L W s.t S)
 d:h[D]?=V (.lst<|s.1.map .int)
 l:h[L]?=V (.lst<|s.2.reverse.map nI)
 w:h[W]?=V (.lst<|s.3.map nI)
 s:h[S]?=V (.lst<|s.5.reverse.map tupS)
def Q7(x:Ex h0 h)(l:WP h0<=i):Ex h0 (h.set i o):=by let#[g,rfl]:=x;show#[g.set (i-WP h0) o,by rw[Ep _ _ l]]
def J4{h:IH}(e:h[j]?=V o)(n:i≠j):(h.set i o')[j]?=V o:=by rw[ia n];show e
def JW{h:IH}(e:h[i]?=V o):(h.set i o')[i]?=V o':=(iY<|JF e)
section
variable{h0 h h':IH}{B bC R D L W S:Nat}{s:Bs}
def Bn.ex(b:Bn h0 h B bC R D L W S s)(x:Ex h h'):Bn h0 h' B bC R D L W S s:=(#[b.x.trans x,b.2,x.get b.b,x.get b.d,x.get b.l,x.get b.w,x.get b.s])
theorem Bn.uf(b:Bn h0 h B bC R D L W S s)(u):Bn h0 (h.set B<|.ins "Bench"<|cM bC R D L W u S) B bC R D L W S #[s.1,s.2,s.3,u,s.5]:=
 have ap:=b.2
 #[Q7 b.x<|ap.1,ap,JW b.b,J4 b.d<|Zu ap.2.1,J4 b.l<|Zu<|Z7<|Zb (Zc ap.2.1 1) ap.2.2.1,J4 b.w<|Zu<|Zb (Zi _ 2)<|Zb (Zc (Zb (Zc ap.2.1 1) ap.2.2.1) 1) ap.2.2.2.1,J4 b.s<|Zu<|Zb (Zi _ 3)<|Zb (Zc (Zb (Zc (Zb (Zc ap.2.1 1) ap.2.2.1) 1) ap.2.2.2.1) 1) ap.2.2.2.2]
theorem Bn.DE(b:Bn h0 h B bC R D L W S s)(ds):Bn h0 (h.set D<|.lst<|ds.map .int) B bC R D L W S #[ds,s.2,s.3,s.t,s.5]:=
 have ap:=b.2
 #[Q7 b.x<|Z7<|Zb (Zc ap.1 1) ap.2.1,ap,J4 b.b<|ZY ap.2.1,JW b.d,J4 b.l<|Zu ap.2.2.1,J4 b.w<|Zu<|Z7<|Zb (Zc ap.2.2.1 1) ap.2.2.2.1,J4 b.s<|Zu<|Zb (Zi _ 2)<|Zb (Zc (Zb (Zc ap.2.2.1 1) ap.2.2.2.1) 1) ap.2.2.2.2]
theorem Bn.DG(b:Bn h0 h B bC R D L W S s)(lr):Bn h0 (h.set L<|.lst<|lr.reverse.map nI) B bC R D L W S #[s.1,lr,s.3,s.t,s.5]:=
 have ap:=b.2
 #[Q7 b.x<|Zb (Zi _ 2)<|Zb (Zc (Zb (Zc ap.1 1) ap.2.1) 1) ap.2.2.1,ap,J4 b.b<|ZY<|Z7<|Zb (Zc ap.2.1 1) ap.2.2.1,J4 b.d<|ZY ap.2.2.1,JW b.l,J4 b.w<|Zu ap.2.2.2.1,J4 b.s<|Zu<|Z7<|Zb (Zc ap.2.2.2.1 1) ap.2.2.2.2]
theorem Bn.ug(b:Bn h0 h B bC R D L W S s)(wa):Bn h0 (h.set W<|.lst<|wa.map nI) B bC R D L W S #[s.1,s.2,wa,s.t,s.5]:=
 have ap:=b.2
 #[Q7 b.x<|Zb (Zi _ 3)<|Zb (Zc (Zb (Zc (Zb (Zc ap.1 1) ap.2.1) 1) ap.2.2.1) 1) ap.2.2.2.1,ap,J4 b.b<|ZY<|Zb (Zi _ 2)<|Zb (Zc (Zb (Zc ap.2.1 1) ap.2.2.1) 1) ap.2.2.2.1,J4 b.d<|ZY<|Z7<|Zb (Zc ap.2.2.1 1) ap.2.2.2.1,J4 b.l<|ZY ap.2.2.2.1,JW b.w,J4 b.s<|Zu ap.2.2.2.2]
theorem Bn.uh(b:Bn h0 h B bC R D L W S s)(sr):Bn h0 (h.set S<|.lst<|sr.reverse.map tupS) B bC R D L W S #[s.1,s.2,s.3,s.t,sr]:=
 have ap:=b.2
 #[Q7 b.x<|Zb (Zi _ 4)<|Zb (Zc (Zb (Zc (Zb (Zc (Zb (Zc ap.1 1) ap.2.1) 1) ap.2.2.1) 1) ap.2.2.2.1) 1) ap.2.2.2.2,ap,J4 b.b<|ZY<|Zb (Zi _ 3)<|Zb (Zc (Zb (Zc (Zb (Zc ap.2.1 1) ap.2.2.1) 1) ap.2.2.2.1) 1) ap.2.2.2.2,J4 b.d<|ZY<|Zb (Zi _ 2)<|Zb (Zc (Zb (Zc ap.2.2.1 1) ap.2.2.2.1) 1) ap.2.2.2.2,J4 b.l<|ZY<|Z7<|Zb (Zc ap.2.2.2.1 1) ap.2.2.2.2,J4 b.w<|ZY ap.2.2.2.2,JW b.s]
end
def Lq:bI ((p::lr).reverse.map f) (-1)=V (f p):=by let e:(-1+((WP lr:Int)+1)).toNat=WP lr:=05;let l:(1:Int)<=(WP lr:Int)+1:=yV<|jn _;simp[bI,ik,e,l]
def X4{cs:Ua}(lp:p<WP cs):bI (cs.map ax) (p:Int)=V (ax<|cs.getD p cd):=(JE<|by simp_all)
def DH{ds:To}(lp:p<WP ds):bI (ds.map IV.int) (p:Int)=V (.int<|ds.getD p 0):=(JE<|by simp_all)
section
variable{k:Nat}{h0 h:IH}{kind:Int}{rs:Tz}{cs:Ua}{B bC R D L W S:Nat}{s:Bs}{P:IV->IH->Prop}
def J7e(g:Bg h0 kind rs cs bC R)(b:Bn h0 h B bC R D L W S s)(e:s.2=p::lr)(lp:p<WP cs):Co (k+2) [.ref B] h=.ok (.int<|ar cs p) h:=by let bl:=b.l;rw[e]at bl;calc Ju ?_;rw[Jcx];show ao<|au<|Jf (J0 (aj<|aP (aq 07 b.b xR) (aP (aq 07 b.b uc) 07 bl Lq) (b.x.get g.r)<|X4 lp) Ll) #[07,07]
def DI(g:Bg h0 kind rs cs bC R)(b:Bn h0 h B bC R D L W S s)(e:s.2=p::lr)(lp:p<WP cs):Jm (pg<|k+2) "next_ready" 0 'a' Je (V (.ref B)::Pn) h=.ok (.int<|ar cs p) h:=(dk 07 b.b bn0 (Jcw _) 07 (J7e g b e lp))
theorem Jsu:bY cs t (p::lr) wa=if ar cs p<=t then bY cs t lr (wa++[p])else(p::lr,wa):=rfl
def Lr(g:Bg h0 kind rs cs bC R)(u:∀p∈s.2,p<WP cs)(C:WP s.lr+WP s.wa<=1000)(b:Bn h0 h B bC R D L W S s):WS (Ku (k+2) [V<|.ref B] h) (λ_ h'=>Bn h0 h' B bC R D L W S #[s.1,(bY cs s.t s.2 s.3).1,(bY cs s.t s.2 s.3).2,s.t,s.5]) P:=by
 let H:=J6;calc xK (λm U h'=>∃lr wa,U=[V<|.ref B]/\Bn h0 h' B bC R D L W S #[s.1,lr,wa,s.t,s.5]/\WP lr=m/\WP lr+WP wa<=1000/\(∀p∈lr,p<WP cs)/\bY cs s.t lr wa=bY cs s.t s.2 s.3) ?_ (show (WP s.lr)<1000000 by show Zb (Zb (Zc (Zi _ _) 1)<|Zc C 1)<|Zi _ 998999) #[s.2,s.3,07,b,07,C,u,07];rintro m _ I ⟨lr,wa,rfl,b,G,l2,u,j⟩;refine C0<|Jf (kj (dj (aq 07 b.b uc) b.l) 07)<|eI (λc=>?_) λc=>?_
 .cases lr with|nil=>show absurd c 03|cons p lr=>
   rw[Jsu]at j;refine Jf (C4 (DI g b 07 (u p 03))<|aq 07 b.b se)<|eI (λc=>?_) λc=>?_
   .calc#[WP lr,by simpa using G.symm,?_];calc JU<|Qo (aq 07 b.b ud) b.w Vt<|xb<|Qo (aq 07 b.b uc) b.l KQ<|Jf 07 (t8 (y:=nI p) b.l 03 ?_);let e:(((p::lr).reverse.map nI).dropLast)=lr.reverse.map nI:=03;rw[e];let E:=b.DG lr;calc xb (Jf 07 (Jf 07 (gv E.w (by simp at l2 ⊢;show Zb (Zi _ 999000)<|Zb (Zc (Zb (Zc (kx _ _) 1)<|Zc l2 1) 999000) H) #[lr,wa++[p],07,?_,07,by simp at l2 ⊢;lia,λq F=>u q<|Zq _ F,by rw[<-j,if_pos c]])));let:=E.ug<|wa++[p];rw[jl]at this;show this
   .rw[if_neg c]at j;rw[<-j];show b
 .cases lr with|nil=>show#[(λz=>by cases z),λ_=>by rw[<-j];show b]|cons p lr=>show absurd 03 c
def J7b(g:Bg h0 kind rs cs bC R)(m:∀p∈s.2,p<WP cs)(C:WP s.lr+WP s.wa<=1000)(ne:¬(s.2=[]/\s.3=[]))(b:Bn h0 h B bC R D L W S s):
  WR (Cp (k+3) [.ref B] h) λv h'=>v=.ah/\Bn h0 h' B bC R D L W S (aO cs s):=by
 rw[Jgb];refine ao<|ae<|km (rY (dj (aq 07 b.b ud) b.w) 07) (λc=>?_) λc=>?_
 .let E:s.3=[]:=qL.1<|by simpa using c
  cases j:s.2 with|nil=>show absurd #[j,E] ne|cons p lr=>
   let u:aT cs s=if ar cs p>s.t then ar cs p else s.t:=by unfold aT;rw[E,j]
   calc Qu (lQ (aq 07 b.b se)<|DI g b j<|m p<|by rw[j];simp) 07 b.b (by change(7:Nat)<1000;decide) ?_;rw[Lp];let F:=b.uf (if ar cs p>s.t then ar cs p else s.t);refine WS.mono (Lr (s:=#[s.1,s.2,s.3,if ar cs p>s.t then ar cs p else s.t,s.5]) g m C F) (λ_ h' q=>#[07,?_]) λ_ _ z=>z
   unfold aO;rw[u];show q
 .let u:aT cs s=s.t:=by
   unfold aT;split
   .rename_i e _;rw[e]at c;show absurd 07 c
   .rfl
  refine aM<|WS.mono (Lr g m C b) (λ_ h' q=>#[07,?_]) λ_ _ z=>z
  unfold aO;rw[u];show q
end
end
section
seal L4.run
noncomputable def DJ (d:Int):IV->Bool|.tup [_,_,.int e]=>decide (d<e)|_=>Zo
noncomputable def Ls:IV->IV|.tup [_,_,e]=>e|_=>.ah
def J2s(hs:Tx)(d):((hs.map aJ).filter<|DJ d).map Ls=((hs.filter λa=>decide (d<a.2.2)).map (·.2.2)).map .int:=by
 induction hs with|nil=>rfl|cons a hs j=>
  simp![ZS,qP];rw[show DJ d (aJ a)=decide (d<a.2.2)from 07];split
  .simp only[ZS,j];rfl
  .show j
section
variable{k:Nat}{h0 h:IH}{kind:Int}{rs:Tz}{cs:Ua}{B bC R D L W S:Nat}{s:Bs}{P:IV->IH->Prop}
def J7f(u:h[w]?=V (.ins "Work"<|fm name gap ln bh ag<|hs.map aJ))(l6:WP hs<=6):WR (Ck (k+2) [.ref w,.int d,.int len] h) λv h'=>v=.int (QN hs d len)/\Ex h h':=by
 let C:=J6;rw[Jlb];let j:Ex h (h++[.lst [.int len]]):=.one _ _;calc ao (au<|xb<|xb<|xb<|nG<|Jf (aj 07) #[by simp;show mP 06,xb ?_]);refine WR.mono (YU (h:=h++[.lst [.int len]]++[.lst<|hs.map aJ]) (xs:=hs.map aJ) (bf:=λh'=>h'[(h++[IX.lst [IV.int len]]).length]?=V (.lst<|hs.map aJ)) (p:=DJ d) (f:=Ls) ?_ (by rw[Zn];show Zb (Zi _ 999994)<|Zb (Zc (Zc l6 1) 999994) C) (λJ q=>q _ _ Jr) ?_ ?_) ?_
 .rw[Qn];show Jf (dk 07 (j.get u) xF (xA _) 07 (xG<|j.get u))<|(Qt _).mpr #[_,Jr,07,07,07]
 .intro v m J q;let#[a,_,rfl]:=ZC.1 m;show Jf (kj (aC 07 07 Q2) 07) #[07,.refl _]
 .intro v m _ J q;let#[a,_,rfl]:=ZC.1 m;show Jf (aC 07 07 Q2) #[07,.refl _]
 .rintro _ _ ⟨rfl,g,rfl⟩;rw[J2s];let D:=o8 (λa:Hd=>decide (d<a.2.2)) hs;let B:Ex (h++[.lst [.int len]]) (h++[.lst [.int len]]++[.lst<|hs.map aJ]++.lst (((hs.filter λa=>decide (d<a.2.2)).map (·.2.2)).map .int)::g):=(Ex.one _ _).trans<|.cons _ _ _;calc(BN ..).mpr #[_,B.get Jr,_,Jw,by simp;(rw[nS];show Zb (Zi _ 999994)<|Zb (Zc (Zb (Zc D 1)<|Zc l6 1) 999994) C),?_];calc xb<|Jf 07 (Jf 07 ?_);rw[WH,show[IV.int len]++((hs.filter λa=>decide (d<a.2.2)).map (·.2.2)).map .int=(Q6 hs d len).map .int from 07,Le Jr<|by simp[Q6]];show#[07,(j.trans B).trans<|.one _ _]
def J78(g:Bg h0 kind rs cs bC R)(I:∀p∈s.2,p<WP cs)(b:Bn h0 h B bC R D L W S s)(lp:p<WP cs)(ld:WP s.ds=WP cs):WR (Cq (k+3) [.ref B,nI p] h) λv h'=>v=.int (Qj rs cs s p)/\Ex h h':=by
 let#[Q,#[M,F,w],J]:=Dy<|g.o.kp b.x.kp;let ca:(cs.getD p cd).1<WP rs:=g.c _<|by rw[Zk,Zd lp];show Zy lp
 let l6:=g.4 _<|Zy ca;let#[j,H,u]:=w.get<|Zd ca;let O:bI M ((cs.getD p cd).1:Int)=V (.ref j):=JE H;let G:c7 rs cs p=(rs[(cs.getD p cd).1]).2:=by unfold c7;rw[Qr ca]
 rw[<-G]at l6;rw[Jdn];calc ao<|ae<|ak<|Jf (aP (aq 07 b.b xR) 07 (b.x.get g.r) (X4 lp))<|ae<|ak<|Jf (aP (aq 07 b.b xS) 07 b.d (DH<|Zb lp<|Zh ld.symm)) ?_;calc ae<|ak<|xb<|xb<|xb<|Jf (dk (J _ _<|aq 07 b.b Lo) F Dm (CZ _) (aj<|aC 07 07 JR)<|Dp F O)<|xb<|Jf (az 07 (aC 07 07 BJ))<|Jf 07 ?_;let u:h[j]?=V (.ins "Work"<|fm _ _ _ _ _<|(rs[(cs.getD p cd).1]).2.map aJ):=u;rw[<-G]at u;calc WR.mono (J7f (k:=k) u l6) ?_;rintro _ P ⟨rfl,E⟩;let C:=b.ex E;refine xb<|Jf 07 (Jf 07 (ae<|km (kj (dj (aq 07 C.b uc) C.l) 07) (λc=>?_) λc=>?_))
 .cases m:s.2 with|nil=>rw[m]at c;show absurd c 03|cons q lr=>calc ak (Jf (t7 07 (cZ (DI g C m<|I q<|by rw[m];simp)<|aq 07 C.b se))<|au<|Jf 07 #[?_,E]);unfold Qj;rw[m];rfl
 .calc aM<|au<|Jf 07 #[?_,E];let m:s.2=[]:=by cases m:s.2 with|nil=>rfl|cons q lr=>rw[m]at c;show absurd 03 c
  unfold Qj;rw[m];rfl
def J77(b:Bn h0 h B bC R D L W S s)(sl:WP s.sr<100000):WR (Cr (k+1) [.ref B,nI p,.int u] h) λv h'=>v=.ah/\Bn h0 h' B bC R D L W S #[s.1,s.2,s.3,s.t,QP p s.t u s.5]:=by
 let F:=J6;let fin:∀{E:IH}{C:Int}{r:Wa},Bn h0 E B bC R D L W S #[s.1,s.2,s.3,s.t,r]->WP r<=WP s.sr->QP p s.t u s.5=(p,C,u)::r ->WS (Kv k [V<|.ref B,V<|nI p,V<|.int u,V<|.int C] E) (λ_ h'=>IV.ah=.ah/\Bn h0 h' B bC R D L W S #[s.1,s.2,s.3,s.t,QP p s.t u s.5]) λv h'=>v=.ah/\Bn h0 h' B bC R D L W S #[s.1,s.2,s.3,s.t,QP p s.t u s.5]:=by intro E C r m lr G;calc JU (Qo (aq 07 m.b ue) m.s Vt<|xb<|qm<|xb<|Jf 07 (xb<|Jf (az 07 07)<|Jf 07 #[by simp;show kx _ _,xb<|Jf 07 (Jf 07 (gv m.s (by simp;show Zb (Zi _ 900001)<|Zb (Zc (Zb (Zc lr 1) sl) 900001) F) #[07,?_]))]));let:=m.uh<|(p,C,u)::r;rw[mS,jl]at this;rw[G];show this
 rw[Ji8];refine ao<|ae<|ak<|Jf (aq 07 b.b se)<|ae<|nF<|C0<|Jf (kj (dj (aq 07 b.b ue) b.s) 07)<|eI (λc=>?_) λc=>?_
 .cases j:s.5 with|nil=>rw[j]at c;show absurd c 03|cons a r=>
   let bs:=b.s;rw[j]at bs;refine Jf (rY (aC (aP (aq 07 b.b ue) 07 bs Lq) 07 JR) 07)<|eI (λc=>?_) λc=>?_
   .calc ak<|xb<|Qo (aq 07 b.b ue) bs KQ<|Jf 07 (t8 (y:=tupS a) bs 03<|xb<|Jf 07 (t6 JP ?_));let e:((a::r).reverse.map tupS).dropLast=r.reverse.map tupS:=03;rw[e];rw[<-j];calc fin (r:=r) (b.uh r) (by rw[j];simp) ?_;rw[j];show if_pos 05
   .calc aM ?_;rw[<-j];calc fin (r:=s.5) b (Zm _) ?_;rw[j];show if_neg λz=>c<|by rw[z]
 .calc#[(λz=>by cases z),λ_=>aM<|fin (r:=s.5) b (Zm _) ?_];cases j:s.5 with|nil=>rfl|cons a r=>rw[j]at c;show absurd 03 c
theorem Lu:∀(l:List α)(j:Nat),(l.map f).eraseIdx j=(l.eraseIdx j).map f|[],_=>07|_::_,0=>07|a::l,j+1=>congrArg (f a:: ·)<|Lu l j
def Jrb{wa:Tp}{p j:Nat}(e:(wa.map λn:Nat=>(n:Int)).findIdx? (· ==(p:Int))=V j):wa.eraseIdx j=wa.erase p:=by
 rw[List.findIdx?_map]at e;let e:wa.findIdx? (· ==p)=V j:=by rw[<-e];congr 1;funext x;change(x==p)=((x:Int)==(p:Int));rw[sS,beq_iff_eq,beq_iff_eq];lia
 rw[List.erase_eq_eraseIdx,show List.idxOf? p wa=V j from e]
def J6v(g:Bg h0 kind rs cs bC R)(w:Wf cs s)(ne:¬(s.2=[]/\s.3=[]))(sl:WP s.sr<100000)(b:Bn h0 h B bC R D L W S s):WR (Cs (k+6) [.ref B] h) λv h'=>v=.ah/\Bn h0 h' B bC R D L W S (Q5 kind rs cs s):=by
 let X:(s.2++s.3).length<=WP cs:=by
  let:=w.3.length_le_of_subset (l₂:=Z6 (WP cs)) λp C=>ig.2<|w.2 p C
  rwa [kz]at this
 rw[Z1]at X;let cn:=g.n;let F:=w.let;let n1:=DA (cs:=cs) ne;rw[Jg9];calc ao<|ae<|JU<|Xf 07 b.b bn1 (Jf6 _) (Jf 07 (WR.mono (J7b (k:=k+2) g (λp C=>w.2 p<|iZ _ C) (Zb (Zb X cn)<|Zi _ 800) ne b) ?_));rintro _ G ⟨rfl,u⟩;let Y:=g.o.kp u.x.kp;unfold Q5;let P:(aO cs s).5.length<100000:=sl;generalize aO cs s=m at *;calc ae (ak<|Joq Y (aq 07 u.b Lo) (by rw[show ∀(a b c:E1)(U:aD),Jb a (Jb b<|Jb c Je) U G=(a U G).bind λx G=>((Jb b<|Jb c Je) U G).bind λxs J=>.ok (x::xs) J from λ_ _ _ _=>07,aq 07 u.b xR];show congrArg (λr=>Res.bind r _)<|az (aq 07 u.b ud)<|aq 07 u.b xS)<|WR.mono (J0r (k:=k) (u.x.get g.5) Y g.4 g.c (u.x.get g.r) u.w u.d F.1 n1 λp C=>F.2 p<|Zr _ C) ?_);rintro _ J ⟨p,C,rfl,lm,x2⟩;let ep:=Vp.eq #[C,lm];let lp:=F.2 p<|Zr _ C;let ld:=F.1;let I:=u.ex x2;calc ae<|ak<|Xf 07 I.b bn2 (Jdl _) (Jf (aj 07)<|WR.mono (J78 (k:=k+2) g (λq hq=>F.2 q<|iZ _ hq) I lp ld) ?_);rintro _ h3 ⟨rfl,x3⟩;let O:=I.ex x3;unfold xM;rw[ep];generalize Qj rs cs m p=n;calc ae<|JU<|Xf 07 O.b bn3 (Ji5 _) (Jf (az 07 (aU (aq 07 O.b se) 07))<|WR.mono (J77 (k:=k+4) O P) ?_);rintro _ h4 ⟨rfl,M⟩;calc ae (J8j 07 M.b se 07 M.b (by change(7:Nat)<1000;decide) ?_);rw[Lp];let H:Bn h0 _ B bC R D L W S #[m.1,m.2,m.3,m.t+n,QP p m.t (m.t+n) m.5]:=M.uf<|m.t+n;calc ae (J8k (aq 07 H.b xS) 07 H.d (DH (by change p<WP m.ds;show Zb lp<|Zh ld.symm)) (jn _) 07 H.d (j:=p) (by rw[Zn];simp[ik];show Zb lp<|Zh ld.symm) ?_);let E:Bn h0 _ B bC R D L W S #[m.1.set p<|m.1.getD p 0+n,m.2,m.3,m.t+n,QP p m.t (m.t+n) m.5]:=H.DE<|m.1.set p<|m.1.getD p 0+n;rw[<-List.map_set];refine km (rY (aP (aq 07 E.b xS) 07 E.d (DH<|by rw[nY];show Zb lp<|Zh ld.symm))<|aC (aP (aq 07 E.b xR) 07 (E.x.get g.r) (X4 lp)) 07 BJ) (λc=>?_) λc=>?_
 .rw[Xm,if_pos #[07,Zb lp<|Zh ld.symm]]at c;let Z:m.3.map nI=(m.3.map λn:Nat=>(n:Int)).map .int:=by rw[fY];rfl
  let gw:=E.w;obtain⟨j,Q⟩:∃j,(m.3.map λn:Nat=>(n:Int)).findIdx? (· ==(p:Int))=V j:=by cases z:(m.3.map λn:Nat=>(n:Int)).findIdx? (· ==(p:Int))with|none=>let:=uD.1 z p<|ZC.2 #[p,C,07];simp at this|some j=>show#[j,07]
  calc JU (Qo (aq 07 E.b ud) gw KR<|Jf (aj 07)<|t9 (ns:=m.3.map λn:Nat=>(n:Int)) (by rw[<-Z];show gw) Q #[07,?_]);let b7:=E.ug<|m.3.erase p;unfold jh;rw[if_pos<|show _=aW cs p from c,<-Z,Lu,Jrb Q];show b7
 .rw[Xm,if_pos #[07,Zb lp<|Zh ld.symm]]at c;calc aM #[07,?_];unfold jh;rw[if_neg<|show ¬_=aW cs p from c];show E
end
end
section
seal L4.run
section
variable{bC R D L W S:Nat}
def bp0:bL "order" (.ref bC) ([]:Wo)=(cM bC 0 0 0 0 0 0).take 1:=02
def bp1:bL "row" (.ref R) ((cM bC 0 0 0 0 0 0).take 1)=(cM bC R 0 0 0 0 0).take 2:=02
def bp2:bL "dones" (.ref D) ((cM bC R 0 0 0 0 0).take 2)=(cM bC R D 0 0 0 0).take 3:=02
def bp3:bL "later" (.ref L) ((cM bC R D 0 0 0 0).take 3)=(cM bC R D L 0 0 0).take 4:=02
def bp4:bL "waiting" (.ref W) ((cM bC R D L 0 0 0).take 4)=(cM bC R D L W 0 0).take 5:=02
def bp5:bL "turn" (.int 0) ((cM bC R D L W 0 0).take 5)=(cM bC R D L W 0 0).take 6:=02
def bp6:bL "stretches" (.ref S) ((cM bC R D L W 0 0).take 6)=cM bC R D L W 0 S:=02
end
theorem Lv:∀{ys:Tv}{ks:To},(∀y∈ys,mk y h=.ok (.int<|kf y) h)->QV mk ys ks h=.ok (ks++ys.map kf) h|[],ks,_=>by simp[QV]|y::ys,ks,q=>by unfold QV;rw[q y 03];change QV mk ys (ks++[kf y]) h=_;rw[Lv λz j=>q z<|Zq _ j];simp
def Lw:∀p∈iw cs,p<WP cs:=(λp k=>by let#[i,j,rfl]:=ZC.1 k;let:=YF _ i j;omega)
def J3w(cs):(cY (cs.map gz).reverse (WP cs)).map (λi=>(aR 0 (WP cs:Int)).reverse.getD i .ah)=(iw cs).map nI:=by
 unfold iw;rw[fY];refine yw λi j=>?_
 let m:=YF _ i j;rw[VT];let l2:i<(((Z6 (WP cs)).map λk=>((k:Nat):Int)).map IV.int).reverse.length:=by simpa using m
 rw[jP,Zk,Zd l2,List.getElem_reverse];simp
def Lx(cs):(iw cs).Perm (Z6 (WP cs)):=by
 by_cases j:WP cs=0
 .unfold iw;rw[j,wH];show .refl _
 let:=(GK (cs.map gz).reverse<|ym j).map λi=>WP cs-1-i
 calc this.trans ?_;let e:(Z6 (WP cs)).map (λi=>WP cs-1-i)=(Z6 (WP cs)).reverse:=by
  refine qQ 03 λi k J=>?_
  simp
 rw[e];show List.reverse_perm _
def J0d(cs):(iw cs).Pairwise λp q=>ar cs p<=ar cs q:=by
 unfold iw;rw[yz];calc(TF (cs.map gz).reverse (WP cs)).imp_of_mem λ{i j} u m h=>?_;let k:=YF _ i u;let B:=YF _ j m;let e:∀i,i<WP cs->(cs.map gz).reverse.getD i 0=ar cs (WP cs-1-i):=λi k=>by
  let l2:i<(cs.map gz).reverse.length:=by simpa using k
  unfold ar;rw[Zk,Zd l2,List.getElem_reverse,Zk,Zd<|show (WP cs)-1-i<WP cs by omega];simp
 rwa [e i k,e j B]at h
def xT(l1:∀c∈cs,1<=c.4):Wf cs (s0 cs):=by
 let m:∀p,((s0 cs).1.getD p 0:Int)=0:=λp=>by change(cs.map λ_=>(0:Int)).getD p 0=0;rw[Zk,Zz];cases cs[p]?<;>rfl
 let k:=Lx cs;refine#[by simp[s0],λp j=>?_,?_,J0d cs,λp j=>?_,λp lp j=>?_,λp j=>m p,λp j=>?_]
 .rw[show(s0 cs).2++(s0 cs).3=iw cs from iC _]at j;show Lw p j
 .rw[show(s0 cs).2++(s0 cs).3=iw cs from iC _];show k.nodup_iff.2 yB
 .rw[show(s0 cs).2++(s0 cs).3=iw cs from iC _]at j;let lp:=Lw p j;rw[m];let:1<=aW cs p:=l1 _<|by simp_all
  lia
 .rw[show(s0 cs).2++(s0 cs).3=iw cs from iC _]at j;show absurd (k.mem_iff.2<|ig.2 lp) j
 .cases j
def Wf.step(w:Wf cs s)(ne:¬(s.2=[]/\s.3=[])):Wf cs (Q5 kind rs cs s)/\lV rs cs (Q5 kind rs cs s)<lV rs cs s:=by let k:=w.let;let m:=xP w;let B:=J0f rs cs s;let#[p,j]:=DC<|DA ne;unfold Q5 xM;rw[j.eq];let#[a,b]:=DB m (k.z p<|Zr _ j.1).2;let u:=xN (c7 rs cs p) ((aO cs s).1.getD p 0)<|aW cs p;show#[k.do j.1 a<|ZH b u,ZO (J30 k m j.1) B]
def Ly(p)(t u)(sr):(QP p t u sr).length<=WP sr+1:=by
 unfold QP;split
 .simp
 .split<;>simp
def Lz(h:s.2=[]/\s.3=[]):runM kind rs cs m s=s:=by cases m with|zero=>rfl|succ m=>show if_pos h
def nK(l6:∀r∈rs,WP r.2<=6)(u:∀c∈cs,c.1<WP rs):lV rs cs (s0 cs)<=8*WP cs:=by
 let k:((Z6 (WP cs)).map<|VM rs cs (s0 cs).1).sum<=((Z6 (WP cs)).map λ_=>6).sum:=xQ λp m=>by
  let lp:=ig.1 m;let ca:(cs.getD p cd).1<WP rs:=u _<|by simp_all
  let:=l6 _<|Zy ca;calc Zb (o8 _ _) ?_;unfold c7;rw[Qr ca];show this
 let B:=o8 (λp=>decide ((s0 cs).t<ar cs p)) (s0 cs).2;let j:(s0 cs).2.length=WP cs:=by let:=(Lx cs).length_eq;rwa [kz]at this
 let C:((s0 cs).2++(s0 cs).3).length=WP cs:=by rw[show(s0 cs).2++(s0 cs).3=(s0 cs).2 from iC _];show j
 rw[List.map_const',List.sum_replicate_nat,kz]at k;unfold lV;lia
def Jzn:(eY kind rs cs).5.length<=8*WP cs:=by
 let:∀(m:Nat)(s:Bs),(runM kind rs cs m s).5.length<=WP s.sr+m:=by
  intro m;induction m with|zero=>intro s;show Zm _|succ m j=>
   intro s;unfold runM;split
   .show Zi _ _
   .let k:=j<|Q5 kind rs cs s;let J:(Q5 kind rs cs s).5.length<=WP s.sr+1:=Ly _ _ _ _;lia
 let:=this (8*WP cs)<|s0 cs;let e:(s0 cs).5.length=0:=07;unfold eY;lia
def sf(cs)(p):(s0 cs).1.getD p 0=0:=by change(cs.map λ_=>(0:Int)).getD p 0=0;rw[Zk,Zz];cases cs[p]?<;>rfl
section
variable{k:Nat}{h:IH}{kind:Int}{rs:Tz}{cs:Ua}{bC R:Nat}
def Jz6(g:Bg h kind rs cs bC R)(Z:h[1]?=V (.tab "Bench.__init__"))(je:WP cs<64):WR (Cn (k+2) [.ref (WP h),.ref bC,.ref R]<|h++[.ins "Bench" []]) λv h'=>v=.ah/\∃D L W S,Bn h h' (WP h) bC R D L W S (s0 cs):=by
 let Y:=J6;rw[Ji7];calc ao<|ae<|Qu 07 07 Jr 01 ?_;rw[bp0,VV];calc ae (Qu 07 07 Jr (by change(1:Nat)<1000;decide) ?_);rw[bp1,VV];let G:Ex h (h++[.ins "Bench"<|(cM bC R 0 0 0 0 0).take 2]):=.one _ _;let g1:(h++[IX.ins "Bench"<|(cM bC R 0 0 0 0 0).take 2])[WP h]?=V (.ins "Bench"<|(cM bC R 0 0 0 0 0).take 2):=Jr;generalize h++[IX.ins "Bench"<|(cM bC R 0 0 0 0 0).take 2]=u at G g1;calc ae ?_;rw[YZ];refine WR.mono (Q0 (h:=u) (xs:=cs.map ax) (bf:=λh'=>h'[R]?=V (.lst<|cs.map ax)) (f:=λ_=>.int 0) ?_ (by rw[Zn];show Zb (Zi _ 999937)<|Zb (Zc je 999937) Y) (λJ q=>q _ _<|G.get g.r) λv hv J q=>Jf 07 #[07,.refl _]) ?_
 .rw[Qn];show Jf 07 ((Qt _).mpr #[_,G.get g.r,07,07,07])
 rintro _ _ ⟨rfl,H,rfl⟩;let j:=JF g1;calc Jf 07 #[_,_,_,07,grow g1,by change(2:Nat)<1000;decide,?_];rw[bp2];let F:=Q7 (i:=WP h) (o:=.ins "Bench"<|(cM bC R (WP u) 0 0 0 0).take 3) (G.trans<|Ex.cons u (.lst<|(cs.map ax).map λ_=>.int 0) H)<|Zm _;let g2:=JW (o':=.ins "Bench"<|(cM bC R (WP u) 0 0 0 0).take 3)<|grow g1 (g:=.lst ((cs.map ax).map λ_=>.int 0)::H);let d2:=J4 (i:=WP h) (o':=.ins "Bench"<|(cM bC R (WP u) 0 0 0 0).take 3) (Jw (h:=u) (o:=.lst<|(cs.map ax).map λ_=>.int 0) (g:=H))<|Zu j;generalize (WP u)=D at *;generalize (u++IX.lst ((cs.map ax).map λ_=>.int 0)::H).set (WP h) (.ins "Bench"<|(cM bC R D 0 0 0 0).take 3)=J at F g2 d2;let ks:QV (λv h'=>X6 (k+1) [V v,V<|.ref R] h') (aR 0 (WP cs:Int)) [] J=.ok (cs.map gz) J:=by
  let:=Lv (mk:=λv h'=>X6 (k+1) [V v,V<|.ref R] h') (kf:=λv=>match v with|.int p=>ar cs p.toNat|_=>0) (h:=J) (ys:=aR 0 (WP cs:Int)) (ks:=[]) λy O=>by rw[VT,jP,fY]at O;let#[p,X,rfl]:=ZC.1 O;let lp:=ig.1 X;change X6 (k+1) [V<|nI p,V<|.ref R] J=.ok (.int<|ar cs<|oH (p:Int)) J;rw[jP];show J0 (aj<|aP 07 07 (F.get g.r) (X4 lp)) Ll
  rw[this,kC,VT,jP,fY,fY];congr 1;refine qQ 03 λi u J=>?_
  let li:i<WP cs:=by simpa using J
  simp![fS,yy,Function.comp,jP,ar];rw[Zk,Zd li];rfl
 let es:Y0 "Bench.__init__" 1 [2] (Jb (bp (bx bq)<|Jb 'c' Je) Je) (X6<|k+1) [V<|.ref (WP h),V<|.ref bC,V<|.ref R] J=.ok (.ref (WP J)) (J++[.lst<|(iw cs).reverse.map nI]):=by unfold Y0;rw[aj<|dj 07 (F.get g.r),Zn];change(match [IV.int (WP cs:Int)],J[1]? with|[.int n],V (.tab q')=>_|_,_=>_)=_;rw[F.get Z];change(if _ then _ else _)=_;rw[if_pos #[07,jn _,mj.2 06]];change(QV (λv h'=>X6 (k+1) [V v,V<|.ref R] h') (aR 0 (WP cs:Int)) [] J).bind _=_;rw[ks];change YN (aR 0 (WP cs:Int)).reverse (cs.map gz).reverse J=_;unfold YN;rw[show(aR 0 (WP cs:Int)).reverse.length=WP cs by rw[ky,VT];simp,J3w,yC]
 calc ae (Qu es 07 (grow g2) (by change(3:Nat)<1000;decide) ?_);rw[bp3];let m:=JF d2;let Q:=Q7 (i:=WP h) (o:=.ins "Bench"<|(cM bC R D (WP J) 0 0 0).take 4) (F.trans<|Ex.one J<|.lst<|(iw cs).reverse.map nI)<|Zm _;let C:=JW (o':=.ins "Bench"<|(cM bC R D (WP J) 0 0 0).take 4)<|grow g2 (g:=[.lst<|(iw cs).reverse.map nI]);let P:=J4 (i:=WP h) (o':=.ins "Bench"<|(cM bC R D (WP J) 0 0 0).take 4) (grow d2 (g:=[.lst<|(iw cs).reverse.map nI]))<|Zu j;let I:=J4 (i:=WP h) (o':=.ins "Bench"<|(cM bC R D (WP J) 0 0 0).take 4) (Jr (h:=J) (o:=.lst<|(iw cs).reverse.map nI))<|Zu<|Z7<|Zb (Zc j 1) m;generalize (WP J)=L at *;generalize (J++[IX.lst<|(iw cs).reverse.map nI]).set (WP h) (.ins "Bench"<|(cM bC R D L 0 0 0).take 4)=E at Q C P I;let B:=JF I;calc ae ?_;rw[YZ];calc nG (Jf 07 #[ZX _,Jf 07 #[_,_,_,07,grow C,by change(4:Nat)<1000;decide,?_]]);rw[bp4];calc ae (Qu 07 07 (JW<|grow C) (by change(5:Nat)<1000;decide) ?_);rw[bp5,uR];unfold Kt;rw[YZ];calc nG (Jf 07 #[ZX _,Jf 07 #[_,_,_,07,grow<|JW<|grow C,by change(6:Nat)<1000;decide,07,?_]]);rw[bp6];let M:=Jr (h:=E) (o:=.lst []);let U:=JF M;rw[Z1,o7]at U;let ln:(List.set (E++[IX.lst []]) (WP h)<|.ins "Bench"<|(cM bC R D L (WP E) 0 0).take 6).length=WP E+1:=by rw[nY,Z1,o7]
 calc#[D,L,WP E,_,Q7 ((Q7 (Q.trans<|.one _ _)<|Zm _).trans<|.one _ _)<|Zm _,#[Zm _,j,m,B,Zh<|Eq.symm 06],JW<|grow<|JW<|grow C,J4 (grow<|J4 (grow ?_)<|Zu j)<|Zu j,J4 (grow<|J4 (grow I)<|Zu<|Z7<|Zb (Zc j 1) m)<|Zu<|Z7<|Zb (Zc j 1) m,J4 (grow<|J4 M<|Zu<|Zb (Zi _ 2)<|Zb (Zc (Zb (Zc j 1) m) 1) B)<|Zu<|Zb (Zi _ 2)<|Zb (Zc (Zb (Zc j 1) m) 1) B,J4 Jr 05];rw[P];simp[s0]
def J4t(g:Bg h kind rs cs bC R)(O:h[1]?=V (.tab "Bench.__init__"))(L:br rs cs)(je:WP cs<64):
  WR (Ct (k+7) [.ref bC,.ref R] h) λv h'=>∃j,v=.ref j/\WP h<=j/\h'[j]?=V (.lst<|(eY kind rs cs).5.reverse.map tupS)/\Ex h h':=by
 let#[Du,I,G]:=Dy g.o;let P:Wf cs (s0 cs):=xT λc H=>(L.1 c H).5
 rw[J20];calc ao<|ae<|JU<|xb<|Jf (az (G _ _ 07) 07)<|WR.mono (J2e (k:=k+1) I g.r L g.n) ?_;rintro _ B ⟨rfl,u⟩;let g1:Bg B kind rs cs bC R:=#[g.o.kp u.kp,u.get g.r,g.c,g.4,u.get g.5,g.n];calc ae<|ak ?_;rw[Xx];calc Jf (az 07 07)<|WR.mono (Jz6 (k:=k+4) g1 (u.get O) je) ?_;rintro _ J ⟨rfl,D,Q,W,S,b0⟩;calc#[07,ae ?_];let F:=nK g.4 g.c;let cn:=g.n;calc xK (λm U h'=>∃s,U=[V<|.ref bC,V<|.ref R,V<|.ref (WP B)]/\Bn B h' (WP B) bC R D Q W S s/\Wf cs s/\lV rs cs s<=m/\WP s.sr+m<=8*WP cs/\runM kind rs cs m s=eY kind rs cs) ?_ (show 8*WP cs<1000000 by lia) #[s0 cs,07,b0,P,F,by simp[s0],07];rintro m _ X ⟨s,rfl,b,w,Y,ls,C⟩;refine Jf (kj (aU (dj (aq 07 b.b uc) b.l)<|dj (aq 07 b.b ud) b.w) 07)<|eI (λc=>?_) λc=>?_
 .let ne:¬(s.2=[]/\s.3=[]):=λ⟨a,z⟩=>by rw[a,z]at c;show absurd c 03
  let#[E,lt]:=w.step (rs:=rs) ne;cases m with|zero=>lia|succ m=>
   calc#[m,07,JU<|Xf 07 b.b bn4 (Jg6 _) (Jf 07 (WR.mono (J6v (k:=k) g1 w ne 05 b) ?_))];rintro _ h4 ⟨rfl,M⟩;refine#[_,07,M,E,sj<|ZO 06 06,?_,?_]
   .let:=Ly (XM kind rs cs (aO cs s).1 (aO cs s).3) (aO cs s).t ((aO cs s).t+Qj rs cs (aO cs s) (XM kind rs cs (aO cs s).1 (aO cs s).3)) s.5;let:(Q5 kind rs cs s).5.length<=WP s.sr+1:=this;lia
   .rw[<-C];show(if_neg ne).symm
 .let ne:s.2=[]/\s.3=[]:=by simp at c;show#[qL.1 05,qL.1 05]
  rw[Lz ne]at C;refine au<|Jf (aq 07 b.b ue) #[S,07,?_,?_,u.trans b.x]
  .let:=b.2;let:=JF b0.b;let#[Z,rfl]:=u;rw[Z1]at *;lia
  .rw[<-C];show b.s
end
end
abbrev St3:=Nat×Int×Int
abbrev _root_.Ts:=List St3
def xU:rk hss zs a<=a:=(Yr (λi=>(c5 hss zs a).getD i 0) _ 0<|by simp[c5])
def LA(k:z∈zs):rk hss zs a<=fZ hss z:=by
 let#[i,j,rfl]:=ib.1 k;let e:(c5 hss zs a).getD (i+1) 0=fZ hss zs[i]:=by simp[c5,j]
 unfold rk;rw[<-e];show Yr (λi=>(c5 hss zs a).getD i 0) (c5 hss zs a).length (i+1)<|by simp[c5,j]
def aX(cs:Ua)(p:Nat):Int:=((cs.getD p cd).1:Int)
def gL(rs:Tz)(cs:Ua)(ds:To)(p:Nat):Tj:=act (c7 rs cs p)<|ds.getD p 0
def dI(rs:Tz)(cs:Ua)(ds:To)(p:Nat):Int:=rk (rs.map (·.2)) (gL rs cs ds p) (cs.getD p cd).1
def LB(j:x∈c7 rs cs p)(h1:x.2.1<ds.getD p 0)(J:ds.getD p 0<x.2.2):x.1∈gL rs cs ds p:=(ZC.2 #[x,eZ.2 #[j,by change(decide _&&decide _)=Zl;rw[decide_eq_true h1,decide_eq_true J];rfl],07])
def YI(k:Vp kind rs cs ds wa p)(j:q∈wa):dI rs cs ds p<=dI rs cs ds q/\(dI rs cs ds q=dI rs cs ds p->gL rs cs ds p=[]->gL rs cs ds q=[]):=by
 let h:=k.2 q j;change da [dI rs cs ds q,if (!(gL rs cs ds q).isEmpty)=Zl then 0 else 1,(q:Int)] [dI rs cs ds p,if (!(gL rs cs ds p).isEmpty)=Zl then 0 else 1,(p:Int)]=Zo at h;unfold da at h;by_cases e:dI rs cs ds q=dI rs cs ds p
 .calc#[Z3 e.symm,λ_ a=>?_];rw[if_pos e,a]at h;cases b:gL rs cs ds q with|nil=>rfl|cons z l=>rw[b]at h;cases h
 .rw[if_neg e,decide_eq_false_iff_not]at h;show#[ZU.1 h,λz=>absurd z e]
def LD(l:rk hss zs a<a):∃z∈zs,rk hss zs a=fZ hss z:=by
 let#[j,m,e]:=Dt (λi=>(c5 hss zs a).getD i 0) (c5 hss zs a).length<|by simp[c5]
 let e:rk hss zs a=(c5 hss zs a).getD j 0:=e;cases j with|zero=>rw[e]at l;show absurd l<|za _|succ j=>
  let k:j<WP zs:=by simpa[c5]using m
  calc#[zs[j],Zy k,?_];rw[e];simp[c5,k]
def DK(k:x∈hs)(l:d<x.2.2):QN hs d len<=x.2.2:=by
 let m:x.2.2∈(hs.filter λa=>decide (d<a.2.2)).map (·.2.2):=ZC.2 #[x,eZ.2 #[k,decide_eq_true l],07];let#[i,j,e]:=ib.1 m;let b:=Yr (λi=>(Q6 hs d len).getD i 0) (Q6 hs d len).length (i+1)<|by simpa[Q6]using j
 let q:(Q6 hs d len).getD (i+1) 0=x.2.2:=by rw[<-e,Zk];change(((hs.filter λa=>decide (d<a.2.2)).map (·.2.2))[i]?).getD 0=_;rw[Zd j];rfl
 rw[<-q];show b
def Jwy(w:s.2.Pairwise λp q=>ar cs p<=ar cs q)(j:q∈s.2):Qj rs cs s p<=ar cs q-s.t:=by
 unfold Qj;cases e:s.2 with|nil=>rw[e]at j;cases j|cons a r=>
  rw[e]at j w;let:ar cs a<=ar cs q:=by
   rcases ZG.1 j with rfl|j
   .show ZD _
   .show(qO.1 w).1 q j
  dsimp only;split<;>(first|show Int.sub_le_sub this (ZD _)|lia|omega)
theorem xV(I:Bs->Prop)(step:∀s,Wf cs s->¬(s.2=[]/\s.3=[])->I s->I (Q5 kind rs cs s)):∀(m:Nat)(s:Bs),Wf cs s->lV rs cs s<=m->I s->Wf cs (runM kind rs cs m s)/\(runM kind rs cs m s).2=[]/\(runM kind rs cs m s).3=[]/\I (runM kind rs cs m s)
 |m,s,w,lm,i=>by
  by_cases ne:s.2=[]/\s.3=[]
  .rw[Lz ne];show#[w,ne.1,ne.2,i]
  .let#[j,lt]:=w.step (kind:=kind) (rs:=rs) ne;cases m with
   |zero=>lia
   |succ m=>rw[show runM kind rs cs (m+1) s=runM kind rs cs m (Q5 kind rs cs s)from if_neg ne];show xV I step m _ j (sj<|ZO 06 06)<|step s w ne i
def sR(n:Nat)(f:Nat->Int):Int:=((Z6 n).map f).sum
def QZ:sR (n+1) f=sR n f+f n:=by simp[sR,yG]
theorem QM:∀{n:Nat},(∀q,q<n->f q<=g q)->sR n f<=sR n g
 |0,_=>ZD _
 |n+1,h=>by
  let:=QM (n:=n) λq j=>h q<|iB 06
  let:=h n<|ZZ _;rw[QZ,QZ];show oE 06 this
theorem xW:∀{n:Nat},(∀q,q<n->f q<=g q)->p<n->f p<g p->sR n f<sR n g
 |n+1,h,hp,lt=>by
  rw[QZ,QZ];by_cases e:p=n
  .subst e;let:=QM (n:=p) λq j=>h q<|iB 06
   show Int.add_lt_add_of_le_of_lt this lt
  .let:=xW (n:=n) (λq j=>h q<|iB 06) (iA (jL (b:=1) hp) e) lt;let:=h n<|ZZ _;show EA 06 this
theorem xX:∀{n:Nat},(∀q,q≠p->g q=f q)->p<n->sR n g=sR n f+(g p-f p)
 |n+1,h,hp=>by
  rw[QZ,QZ];by_cases e:p=n
  .subst e;let k:=QM (n:=p) (f:=f) (g:=g) λq j=>by rw[h q<|Zu j];show ZD _
   let J:=QM (n:=p) (f:=g) (g:=f) λq j=>by rw[h q<|Zu j];show ZD _
   lia
  .rw[xX (n:=n) h<|iA (jL (b:=1) hp) e,h n<|bP e];lia
theorem Xv:∀{n:Nat},(∀q,q<n->f q=0)->sR n f=0
 |0,_=>07
 |n+1,h=>by rw[QZ,Xv λq j=>h q<|iB 06,h n<|ZZ _];rfl
def dM(cs:Ua)(a:Nat)(b T:Int):Int:=sR (WP cs) λp=>if aX cs p<=a/\b<=ar cs p/\ar cs p<T then aW cs p else 0
def DL(w:Wf cs s)(ne:¬(s.2=[]/\s.3=[])):∃p n,Vp kind rs cs s.1 (aO cs s).3 p/\Q5 kind rs cs s=jh rs cs (aO cs s) p n/\p<WP cs/\0<n/\s.1.getD p 0+n<=QN (c7 rs cs p) (s.1.getD p 0) (aW cs p)/\(∀q∈(aO cs s).2,n<=ar cs q-aT cs s)/\(0<=s.1.getD p 0/\s.1.getD p 0<aW cs p)/\ar cs p<=aT cs s /\ ∀q,(jh rs cs (aO cs s) p n).1.getD q 0=if p=q then s.1.getD p 0+n else s.1.getD q 0:=by
 let j:=w.let;let D:=xP w;let#[p,k]:=DC (kind:=kind) (rs:=rs) (cs:=cs) (ds:=(aO cs s).1)<|DA (cs:=cs) ne;let m:=k.1;let u:=j.z p<|Zr _ m;let lp:=j.2 p<|Zr _ m;let#[B,n1]:=DB (rs:=rs) D u.2;calc#[p,Qj rs cs (aO cs s) p,k,by unfold Q5 xM;rw[k.eq],lp,B,n1,λq C=>Jwy (rs:=rs) (p:=p) j.4 (q:=q) C,u,j.8 p m,λq=>?_];let ld:=w.1;change(s.1.set p _).getD q 0=_;rw[Xm];by_cases e:p=q
 .subst e;rw[if_pos #[07,Zb lp<|Zh ld.symm],if_pos 07];rfl
 .rw[if_neg λz=>e z.1,if_neg e]
def bF(p:Nat):Ts->Wz|[]=>Zg|a::l=>match bF p l with|some e=>V e|none=>if a.1=p then V a.2.2 else Zg
theorem VL:∀{l:Ts},bF p (l++[a])=if a.1=p then V a.2.2 else bF p l
 |[]=>by simp[bF]
 |b::l=>by
  rw[fR,bF,VL,bF];by_cases e:a.1=p
  .rw[if_pos e,if_pos e]
  .rw[if_neg e,if_neg e]
def Jq4{l:Ts}(e:l[n]?=V a):bF p (l.take<|n+1)=if a.1=p then V a.2.2 else bF p (l.take n):=by let hn:=(Zp.1 e).1;rw[o6 hn,VL,(Zp.1 e).2]
structure iT(rs:Tz)(cs:Ua)(a P:Nat)(T g B:Int):Prop where
 lp:P<WP cs
 ap:aX cs P=a
 rp:ar cs P=T
 g0:0<=g
 b0:0<=B
 tg:g<=T
 st:∀q,q<WP cs->aX cs q<=a->T<=ar cs q
 one:∀q,q<WP cs->aX cs q=a->q=P
 pe:∀x∈c7 rs cs P,x.2.2<aW cs P
 wk:(g=0/\B=0/\∀q,q<WP cs->aX cs q<=a)\/∃H,H<WP cs/\(a:Int)<aX cs H/\(∀q,q<WP cs->(a:Int)<aX cs q->q=H)/\ar cs H=T-g/\g+B<aW cs H/\∃x∈c7 rs cs H,fZ (rs.map (·.2)) x.1<=a/\x.2.1+1=g/\x.2.2=g+B/\∀y∈c7 rs cs H,fZ (rs.map (·.2)) y.1<=a->y.2.2-y.2.1-1<=B/\(x.2.1<y.2.1->y.2.1<x.2.2->y.2.2<=x.2.2)
section
variable{kind:Int}{rs:Tz}{cs:Ua}{a P:Nat}{T g B:Int}
def fF(cs:Ua)(a:Nat)(T g B τ:Int)(q:Nat):Int:=(if aX cs q<=a/\T<=ar cs q/\ar cs q<τ then aW cs q else 0)+if (a:Int)<aX cs q then g+B else 0
theorem DM{f g:Nat->Int}:∀{n:Nat},sR n (λp=>f p+g p)=sR n f+sR n g|0=>07|n+1=>by rw[QZ,QZ,QZ,DM];lia
def DN(h:H<n)(c):sR n (λq=>if q=H then c else 0)=c:=by rw[xX (f:=λ_=>0) (p:=H) (λq z=>if_neg z) h,Xv λ_ _=>07,if_pos 07];lia
def DO{f g:Nat->Int}(h:∀q,q<n->f q=g q):sR n f=sR n g:=(gU (QM λq l=>Z3<|h q l)<|QM λq l=>Z3 (h q l).symm)
def iT.sum(h:iT rs cs a P T g B)(τ):sR (WP cs) (fF cs a T g B τ)=dM cs a T τ+(g+B):=by
 unfold fF;rw[DM];change dM cs a T τ+_=_;congr 1;rcases h.wk with⟨m,u,k⟩|⟨H,lH,aH,uq,_⟩
 .rw[Xv λq j=>if_neg (by let:=k q j;show ZU.2 this)]
  (subst_vars;rfl)
 .calc Eq.trans (DO λq j=>?_)<|DN lH<|g+B;by_cases e:q=H
  .rw[e,if_pos aH,if_pos 07]
  .rw[if_neg λz=>e<|uq q j z,if_neg e]
def iT.low(h:iT rs cs a P T g B){ds:To}(hτ:T<τ)(eq:τ-(T-g)=sR (WP cs) λq=>ds.getD q 0)(le:∀q,q<WP cs->ds.getD q 0<=aW cs q)(rd:∀q,q<WP cs->0<ds.getD q 0->ar cs q<τ)(u:ds.getD P 0<aW cs P)(C:∀q,q<WP cs->(a:Int)<aX cs q->ds.getD q 0<=g+B):τ-T<B+dM cs a T τ:=by
 let s:=h.sum τ;let ap:=h.2;let rp:=h.3;let lt:sR (WP cs) (λq=>ds.getD q 0)<sR (WP cs) (fF cs a T g B τ):=by
  refine xW (p:=P) (λq j=>?_) h.1 ?_
  .let D:=le q j;let J:=rd q j;let m:=C q j;let E:=h.7 q j;unfold fF;by_cases c:aX cs q<=a
   .rw[if_neg<|show ¬(a:Int)<aX cs q by show ZU.2 c];by_cases k:ar cs q<τ
    .rw[if_pos #[c,E c,k]];show ZH D<|mY 01
    .rw[if_neg λz=>k z.2.2];lia
   .rw[if_pos (show(a:Int)<aX cs q by show cN.1 c),if_neg λz=>c z.1];let:=m<|cN.1 c;show ZH this<|yV 01
  .unfold fF;rw[if_pos #[Z3 ap,Z3 rp.symm,ZE (Z3 rp) hτ],if_neg<|ZU.2<|Z3 ap];show Z8 u<|mY 01
 lia
structure Fx(cs:Ua)(a:Nat)(T B e:Int):Prop where
 t:T<e
 lo:∀t,1<=t->T+t<e->t<B+dM cs a T (T+t)
 eq:e-T=B+dM cs a T e
structure Hq(rs:Tz)(cs:Ua)(a P:Nat)(T g B:Int)(s:Bs):Prop where
 nn:∀q,q<WP cs->0<=s.1.getD q 0
 rd:∀q,q<WP cs->0<s.1.getD q 0->ar cs q<s.t
 pr:s.1.getD P 0<aW cs P->(T-g<=s.t->s.t-(T-g)=sR (WP cs) λq=>s.1.getD q 0)/\(∀q,q<WP cs->(a:Int)<aX cs q->s.1.getD q 0<=g+B/\(T<=s.t->g<=s.1.getD q 0))/\∀t,1<=t->T+t<=s.t->t<B+dM cs a T (T+t)
 po:aW cs P<=s.1.getD P 0->∃e,bF P s.5.reverse=V e/\Fx cs a T B e
def J5e(w:Wf cs s)(B:q<WP cs)(k:s.1.getD q 0<aW cs q)(C:ar cs q<=s.t):aT cs s=s.t:=by
 let m:q∈s.2++s.3:=ZP λm=>by rw[w.6 q B m]at k;show cN.2 k<|ZD _
 let sr:=w.4;unfold aT;split
 .rename_i _ _ c r u j;rw[u,j,iC]at m;rw[j]at sr;let:ar cs c<=ar cs q:=by
   rcases ZG.1 m with rfl|m
   .show ZD _
   .show(qO.1 sr).1 q m
  rw[if_neg 05]
 .rfl
def J5f(w:Wf cs s)(E:q<WP cs)(B:s.1.getD q 0<aW cs q)(D:ar cs q=b)(C:∀p,p<WP cs->b<=ar cs p)(lt:s.t<b):aT cs s=b:=by
 let m:q∈s.2++s.3:=ZP λm=>by rw[w.6 q E m]at B;show cN.2 B<|ZD _
 let k:s.3=[]:=by
  cases e:s.3 with|nil=>rfl|cons p r=>
   let u:=w.8 p<|by rw[e];show Z2 ..
   let J:=C p (w.2 p<|Zr _<|by rw[e];show Z2 ..);lia
 let sr:=w.4;unfold aT;rw[k];rw[k,iC]at m;cases j:s.2 with|nil=>rw[j]at m;cases m|cons c r=>
  rw[j]at m sr;let u:ar cs c<=ar cs q:=by
   rcases ZG.1 m with rfl|m
   .show ZD _
   .show(qO.1 sr).1 q m
  let J:=C c (w.2 c<|iZ _<|by rw[j];show Z2 ..);change(if ar cs c>s.t then ar cs c else s.t)=b;rw[if_pos<|Z8 lt J];show gU (ZH u<|Z3 D) J
def Jq5(ne:p≠P):bF P (QP p t u l).reverse=bF P l.reverse:=by
 cases l with|nil=>change bF P ([]++[(p,t,u)])=_;rw[VL,if_neg ne];rfl|cons c r=>
  change bF P (if c.1=p then(p,c.2.1,u)::r else(p,t,u)::c::r).reverse=_;split
  .rename_i e;rw[mS,mS,VL,VL,if_neg ne,if_neg<|by rw[e];show ne]
  .rw[mS,VL,if_neg ne]
def Juk:bF P (QP P t u l).reverse=V u:=by cases l with|nil=>change bF P ([]++[(P,t,u)])=_;rw[VL,if_pos 07]|cons c r=>change bF P (if c.1=P then(P,c.2.1,u)::r else(P,t,u)::c::r).reverse=_;split<;>rw[mS,VL,if_pos 07]
def Hq.at_(h:iT rs cs a P T g B)(w:Wf cs s)(v:Hq rs cs a P T g B s)(C:s.1.getD P 0<aW cs P):(T-g<=aT cs s/\aT cs s-(T-g)=sR (WP cs) λq=>s.1.getD q 0)/\(∀q,q<WP cs->(a:Int)<aX cs q->s.1.getD q 0<=g+B/\(T<=aT cs s->g<=s.1.getD q 0))/\∀t,1<=t->T+t<=aT cs s->t<B+dM cs a T (T+t):=by
 let#[e,k,lo]:=v.3 C;let rp:=h.3;let g0:=h.4;let b0:=h.5;let D:∀p,p<WP cs->T-g<=ar cs p:=λp lp=>by
  by_cases c:aX cs p<=a
  .let:=h.7 p lp c;show ZH (vj _ g0) this
  .rcases h.wk with⟨_,_,z⟩|⟨H,_,_,uq,rH,_⟩
   .show absurd (z p lp) c
   .rw[uq p lp<|cN.1 c,rH];show ZD _
 obtain⟨G,l0,u,m⟩:∃q,q<WP cs/\ar cs q=T-g/\s.1.getD q 0<aW cs q:=by
  rcases h.wk with⟨z,_,_⟩|⟨H,lH,aH,_,rH,sH,_⟩
  .show#[P,h.1,05,C]
  .let:=(k H lH aH).1;show#[H,lH,rH,ZE this sH]
 by_cases c:T-g<=s.t
 .rw[J5e w l0 m<|ZH (Z3 u) c];show#[#[c,e c],k,lo]
 .rw[J5f w l0 m u D<|cN.1 c];let z:∀q,q<WP cs->s.1.getD q 0=0:=λq j=>by
   let F:=v.1 q j;let J:=D q j;by_cases y:0<s.1.getD q 0
   .let:=v.2 q j y;lia
   .show gU (ZU.1 y) F
  refine#[#[ZD _,?_],λq j E=>#[(k q j E).1,λy=>?_],λt t1 t2=>05]
  .rw[Xv z];lia
  .rw[z q j];lia
def Hq.step(h:iT rs cs a P T g B)(hn:∀q,q<WP cs->0<aW cs q)(w:Wf cs s)(ne:¬(s.2=[]/\s.3=[]))(v:Hq rs cs a P T g B s):Hq rs cs a P T g B (Q5 kind rs cs s):=by
 let w1:=w.let;let tg:=YR cs s;let lP:=h.1;let rP:=h.3;let R:=h.2;let b0:=h.5;let#[p,n,ip,es,lp,O,n1,n2,zp,rp,gd]:=DL (kind:=kind) (rs:=rs) w ne;rw[es];let sl:=xN (c7 rs cs p) (s.1.getD p 0)<|aW cs p;let le:∀q,q<WP cs->s.1.getD q 0<=aW cs q:=λq k=>by
  by_cases m:q∈s.2++s.3
  .show ZJ (w.z q m).2
  .rw[w.6 q k m];show ZD _
 let M:∀q,q<WP cs->s.1.getD q 0<aW cs q->ar cs q<=aT cs s->q∈(aO cs s).3:=λq k lt r=>by
  rcases ZQ.1 (ZP λm=>by let:s.1.getD q 0=_:=w1.6 q k m;show ZU.2 (Z3 this) (Z8 (ZE (Z3 this.symm) lt)<|Z3 this.symm):q∈(aO cs s).2++(aO cs s).3)with m|m
  .let:aT cs s<ar cs q:=xP w q m;lia
  .show m
 let W:∀q,q<WP cs->s.1.getD q 0<aW cs q->aT cs s<ar cs q->n<=ar cs q-aT cs s:=λq k lt r=>by
  rcases ZQ.1 (ZP λm=>by let:s.1.getD q 0=_:=w1.6 q k m;show ZU.2 (Z3 this) (Z8 (ZE (Z3 this.symm) lt)<|Z3 this.symm):q∈(aO cs s).2++(aO cs s).3)with m|m
  .show n2 q m
  .let:ar cs q<=aT cs s:=w1.8 q m;lia
 let rd:∀q,q<WP cs->0<s.1.getD q 0->ar cs q<aT cs s:=λq k y=>by let:=v.2 q k y;show Z8 this tg
 -- p has had j Xc more
 let D:∀j q,(s.1.set p<|s.1.getD p 0+j).getD q 0=if p=q then s.1.getD p 0+j else s.1.getD q 0:=λj q=>by
  let ld:=w.1;rw[Xm];by_cases e:p=q
  .subst e;rw[if_pos #[07,Zb lp<|Zh ld.symm],if_pos 07]
  .rw[if_neg λz=>e z.1,if_neg e]
 let X:∀j,(sR (WP cs) λq=>(s.1.set p<|s.1.getD p 0+j).getD q 0)=(sR (WP cs) λq=>s.1.getD q 0)+j:=λj=>by rw[xX (f:=λq=>s.1.getD q 0) (p:=p) (λq z=>by rw[D,if_neg<|bP z]) lp,D,if_pos 07];lia
 let rj:∀j,0<j->∀q,q<WP cs->0<(s.1.set p<|s.1.getD p 0+j).getD q 0->ar cs q<aT cs s+j:=λj j0 q k y=>by
  rw[D]at y;split at y
  .rename_i e;subst e;show ZE rp (ZR _ j0)
  .let:=rd q k y;show pF this<|ZR _ j0
 let nn':∀q,q<WP cs->0<=(jh rs cs (aO cs s) p n).1.getD q 0:=λq k=>by let:=v.1 q k;rw[gd];split<;>(first|show ZJ (ZE zp.1 (ZR _ O))|show this|omega)
 refine#[nn',rj n O,λC=>?_,λC=>?_]
 ·-- not done yet
  let C:(s.1.set p<|s.1.getD p 0+n).getD P 0<aW cs P:=C;let Q:s.1.getD P 0<aW cs P:=by
   rw[D]at C;split at C
   .rename_i e;subst e;show zp.2
   .show C
  let#[#[e1,e2],U,lo]:=v.at_ h w Q;let hH:∀q,q<WP cs->(a:Int)<aX cs q->(s.1.set p<|s.1.getD p 0+n).getD q 0<=g+B/\(T<=aT cs s+n->g<=(s.1.set p<|s.1.getD p 0+n).getD q 0):=λq k E=>by
   let#[S,I]:=U q k E;by_cases c:T<=aT cs s
   .let I:=I c;by_cases e:p=q
    .subst e;rw[D,if_pos 07];calc#[?_,λ_=>ZJ<|ZE I<|ZR _ O];rcases h.wk with⟨_,_,z⟩|⟨H,lH,aH,uq,rH,sH,x,hx,fx,x1,x2,mx⟩
     .let:=z p lp;lia
     obtain rfl:=uq p lp E;let hw:=M P lP Q<|ZH (Z3 rP) c;let G:=(YI ip hw).1;let F:dI rs cs s.1 P<=aX cs P:=xU;let#[z,hz,ez]:=LD (hss:=rs.map (·.2)) (zs:=gL rs cs s.1 p) (a:=(cs.getD p cd).1) (by change dI rs cs s.1 p<aX cs p;show ZE (ZH (ZH G F)<|Z3 R) aH);let ez:dI rs cs s.1 p=fZ (rs.map (·.2)) z:=ez;let#[y,L,rfl]:=ZC.1 hz;let#[L,Y]:=eZ.1 L;simp![kn,Zt,decide_eq_true_eq]at Y;by_cases c2:s.1.getD p 0<x.2.2
     .let:=DK (len:=aW cs p) hx c2;show ZH (ZH n1 this)<|Z3 x2
     .let#[m1,m2]:=mx y L<|ZH (ZH (ZH (Z3 ez.symm) G) F)<|Z3 R;let:=m2 05<|Z8 (Z8 Y.1 S)<|Z3 x2.symm;lia
    .rw[D,if_neg e];show#[S,λ_=>I]
   .let tn:=W P lP Q<|Z8 (cN.1 c)<|Z3 rP.symm;let ep:p=q:=by
     rcases h.wk with⟨_,_,z⟩|⟨H,lH,aH,uq,_⟩
     .let:=z q k;lia
     .calc(uq p lp<|ZP λz=>?_).trans (uq q k E).symm;let:=h.7 p lp<|ZU.1 z;show ZU.2 this<|ZE rp<|cN.1 c
    subst ep;let one:s.1.getD p 0<=aT cs s-(T-g):=by
     rw[e2,<-DN lp (s.1.getD p 0)];refine QM λq k=>?_
     split
     .rename_i e;rw[e];show ZD _
     .show v.1 q k
    calc#[by rw[D,if_pos 07];lia,λy=>?_];let:(sR (WP cs) λq=>(s.1.set p<|s.1.getD p 0+n).getD q 0)<=(s.1.set p<|s.1.getD p 0+n).getD p 0:=by
     rw[<-DN lp ((s.1.set p<|s.1.getD p 0+n).getD p 0)];refine QM λq k=>?_
     split
     .rename_i e;rw[e];show ZD _
     .rename_i e;refine ZP λz=>?_
      let h1:=rj n O q k<|cN.1 z;let J:aX cs q<=a:=ZP λz=>by
       rcases h.wk with⟨_,_,y⟩|⟨H,lH,aH,uq,_⟩
       .show z<|y q k
       .show e<|(uq q k<|cN.1 z).trans (uq p lp E).symm
      let:=h.7 q k J;lia
    rw[X]at this;lia
  refine#[λ_=>?_,hH,λt t1 t2=>?_]
  .let:=X n;change aT cs s+n-(T-g)=_;rw[show(jh rs cs (aO cs s) p n).1=s.1.set p (s.1.getD p 0+n)from 07,this];lia
  .let t2:T+t<=aT cs s+n:=t2;by_cases c:T+t<=aT cs s
   .show lo t t1 c
   .obtain⟨j,rfl⟩:∃j,t=aT cs s+j-T:=#[T+t-aT cs s,05];let:=h.low (ds:=s.1.set p<|s.1.getD p 0+j) (τ:=aT cs s+j) 05 (by rw[X];lia) (λq k=>by
     let:=le q k;rw[D];split
     .rename_i e;subst e;lia
     .show this) (rj j 05) (by
     rw[D]at C ⊢;split
     .rename_i e;rw[if_pos e]at C;lia
     .show Q) λq k E=>by
      let:=(hH q k E).1;let J:=(U q k E).1;rw[D]at this ⊢;split
      .rename_i e;rw[if_pos e]at this;lia
      .show J
    rw[show T+(aT cs s+j-T)=aT cs s+j by lia];show this
 .let C:aW cs P<=(s.1.set p<|s.1.getD p 0+n).getD P 0:=C;by_cases e:p=P
  .subst e;rw[D,if_pos 07]at C;let Q:=zp.2;let#[#[e1,e2],U,lo]:=v.at_ h w Q;refine#[aT cs s+n,Juk,ZE (ZH (Z3 rP.symm) rp)<|ZR _ O,λt t1 t2=>?_,?_]
   .by_cases c:T+t<=aT cs s
    .show lo t t1 c
    .obtain⟨j,rfl⟩:∃j,t=aT cs s+j-T:=#[T+t-aT cs s,05];let:=h.low (ds:=s.1.set p<|s.1.getD p 0+j) (τ:=aT cs s+j) 05 (by rw[X];lia) (λq k=>by
      let:=le q k;rw[D];split
      .rename_i e;subst e;lia
      .show this) (rj j 05) (by rw[D,if_pos 07];lia) λq k E=>by rw[D,if_neg λe=>by subst e;show cN.2 E<|Z3 R];show(U q k E).1
     rw[show T+(aT cs s+j-T)=aT cs s+j by lia];show this
   .let s1:=h.sum<|aT cs s+n;let ac:gL rs cs s.1 p=[]:=by
     cases e:gL rs cs s.1 p with|nil=>rfl|cons z l=>
      let hz:z∈gL rs cs s.1 p:=by rw[e];show Z2 ..
      let#[y,L,rfl]:=ZC.1 hz;let#[L,Y]:=eZ.1 L;simp![kn,Zt,decide_eq_true_eq]at Y;let G:=DK (len:=aW cs p) L Y.2;let F:=h.9 y L;lia
    let kp:dI rs cs s.1 p=aX cs p:=by unfold dI;rw[ac];rfl
    let key:sR (WP cs) (λq=>(s.1.set p<|s.1.getD p 0+n).getD q 0)=sR (WP cs) (fF cs a T g B<|aT cs s+n):=DO λq k=>by
     rw[D];unfold fF;by_cases c:aX cs q<=a
     .rw[if_neg<|show ¬(a:Int)<aX cs q by show ZU.2 c];let Z:=h.7 q k c;by_cases eq:p=q
      .subst eq;rw[if_pos 07,if_pos #[c,Z,oE 06 06]];lia
      .rw[if_neg eq];let lt:aX cs q<a:=ZP λz=>eq (h.8 q k<|gU c<|ZU.1 z).symm
       by_cases d:s.1.getD q 0<aW cs q
       .let r1:aT cs s<ar cs q:=ZP λz=>by let G:=(YI ip<|M q k d<|ZU.1 z).1;let F:dI rs cs s.1 q<=aX cs q:=xU;show ZU.2 F<|Z8 (Z8 (Z8 lt<|Z3 R.symm)<|Z3 kp.symm) G
        let r2:=W q k d r1;let G:=v.1 q k;let F:=rd q k;rw[if_neg λz=>by let:=z.2.2;lia];by_cases y:0<s.1.getD q 0
        .let:=F y;lia
        .lia
       .let G:=le q k;let F:ar cs q<aT cs s:=rd q k (by
         let:0<aW cs q:=by
          by_cases m:q∈s.2++s.3
          .let:=w.z q m;show ZE this.1 this.2
          .show hn q k
         show Z8 this<|ZU.1 d)
        rw[if_pos #[c,Z,pF F<|ZR _ O]];lia
     .let E:(a:Int)<aX cs q:=cN.1 c;rw[if_neg λe=>by subst e;show cN.2 E<|Z3 R,if_pos E,if_neg λz=>c z.1];let#[h1,J]:=U q k E;let J:=J<|ZH (Z3 rP.symm) rp;rcases h.wk with⟨_,_,z⟩|⟨H,lH,aH,uq,rH,sH,x,hx,fx,x1,x2,mx⟩
      .show absurd (z q k) c
      obtain rfl:=uq q k E;by_cases d:s.1.getD q 0<g+B
      .let m:=LB (ds:=s.1) hx (Z8 (Z3 x1) J)<|Z8 d<|Z3 x2.symm;let G:dI rs cs s.1 q<=fZ (rs.map (·.2)) x.1:=LA m;let#[F,k3]:=YI ip<|M q k (ZE h1 sH)<|ZH (Z3 rH) e1;let:=k3 (gU (ZH (ZH (ZH G fx)<|Z3 R.symm)<|Z3 kp.symm) F) ac;rw[this]at m;cases m
      .lia
    rw[X]at key;lia
  .rw[D,if_neg e]at C;let#[u,e1,e2]:=v.4 C;show#[u,(Jq5 e).trans e1,e2]
def Juu(h:iT rs cs a P T g B)(j:br rs cs)(six:∀r∈rs,WP r.2<=6):∃e,bF P (eY kind rs cs).5.reverse=V e/\Fx cs a T B e:=by
 let z0:∀q,(s0 cs).1.getD q 0=0:=sf cs;let hn:∀q,q<WP cs->0<aW cs q:=λq m=>by let:=(j.1 (cs.getD q cd)<|by rw[Zk,Zd m];show Zy m).5;change 0<(cs.getD q cd).4;assumption
 let g0:=h.4;let b0:=h.5;let tg:=h.6;let E:=hn P h.1;let r:=xV (kind:=kind) (rs:=rs) (cs:=cs) (Hq rs cs a P T g B) (λs w ne v=>v.step h hn w ne) (8*WP cs) (s0 cs) (xT λc k=>(j.1 c k).5) (nK six λc k=>(j.1 c k).1) #[λq _=>by rw[z0];show ZD _,λq _ y=>by rw[z0]at y;lia,λ_=>#[λy=>?_,λq _ _=>#[by rw[z0];show y9 06 06,λy=>?_],λt t1 t2=>?_],λy=>by rw[z0]at y;omega]
 .let#[C,D,u,i]:=r;show i.4 (Z3 (C.6 P h.1<|by rw[D,u];simp).symm)
 .rw[Xv λq _=>z0 q];let y:T-g<=0:=y;change 0-(T-g)=0;show gU (vj _<|sT tg)<|sT y
 .let y:T<=0:=y;rw[z0];show ZH tg y
 .let t2:T+t<=0:=t2;lia
end
section
seal L4.run L4.WS
def tn(b:Hd):Int:=b.2.2-b.2.1-1
def iy(p:Nat×Hd):IV:=.tup [.int (p.1:Int),aJ p.2]
noncomputable def oY (v:IV):Int:=match v with|.tup [_,.tup [_,.int s,.int e]]=>e-s-1|_=>0
def Jy5(l):(l=[]/\Yq oY .ah (l.map iy)=.ah)\/∃p∈l,Yq oY .ah (l.map iy)=iy p/\∀p'∈l,tn p'.2<=tn p.2:=by
 cases l with|nil=>show .inl #[07,07]|cons j r=>
  calc .inr ?_;rw[ZS];change ∃p∈j::r,QH oY (iy j) (r.map iy)=iy p/\_;let#[u,J]:=BV oY (r.map iy)<|iy j;let m:∀p,QH oY (iy j) (r.map iy)=iy p->∀p'∈j::r,tn p'.2<=tn p.2:=λp e p' k=>by
   rw[e]at u J;rcases ZG.1 k with rfl|k
   .show u
   .show J _<|ZC.2 #[p',k,07]
  rcases BU oY (r.map iy) (iy j)with e|e
  .show#[j,Z2,e,m j e]
  .let#[p,B,e]:=ZC.1 e;show#[p,Zq _ B,e.symm,m p e.symm]
def sg(hss:Wm)(a:Nat)(b:Hd):Bool:=decide (fZ hss b.1<=a)
def DP(hss:Wm)(a:Nat)(v:IV):Bool:=match v with|.tup [.str x,.int s,.int e]=>sg hss a (x,s,e)|_=>Zo
def LF(o:Int)(v:IV):IV:=.tup [.int o,v]
theorem DQ(hss)(a o:Nat):∀hs:Tx,((hs.map aJ).filter<|DP hss a).map (LF (o:Int))=((hs.filter<|sg hss a).map λb=>(o,b)).map iy
 |[]=>07
 |b::hs=>by
  rw[ZS,qP,qP];let e:DP hss a (aJ b)=sg hss a b:=07;rw[e];split
  .rw[ZS,ZS,ZS,DQ hss a o hs];rfl
  .show DQ hss a o hs
def dJ(rs:Tz)(a:Nat):Nat->List (Nat×Hd)
 |0=>[]
 |n+1=>dJ rs a n++((rs.getD (a+1+n) rd).2.filter (sg (rs.map (·.2)) a)).map λb=>(a+1+n,b)
theorem xY:∀{n:Nat},x∈dJ rs a n->a<x.1/\x.1<a+1+n/\x.2∈(rs.getD x.1 rd).2/\fZ (rs.map (·.2)) x.2.1<=a
 |0,h=>by cases h
 |n+1,h=>by
  rcases ZQ.1 h with h|h
  .let#[m,J,k]:=xY h;show#[m,iB 06,k]
  .let#[b,j,rfl]:=ZC.1 h;show#[by change a<a+1+n;show Zi _ _,by change a+1+n<_;show ZZ _,(eZ.1 j).1,of_decide_eq_true (eZ.1 j).2]
theorem xZ{a w:Nat}(l:a<w)(j:b∈(rs.getD w rd).2)(f:fZ (rs.map (·.2)) b.1<=a):∀{n:Nat},w<a+1+n->(w,b)∈dJ rs a n
 |0,h=>absurd 06<|ur 06
 |n+1,h=>by
  by_cases e:w=a+1+n
  .show Zr _ (ZC.2 #[b,eZ.2 #[e▸j,decide_eq_true f],by rw[e]])
  .show iZ _<|xZ l j f 05
theorem LG(six:∀r∈rs,WP r.2<=6):∀{n:Nat},(dJ rs a n).length<=6*n
 |0=>Zm _
 |n+1=>by
  let:=LG (a:=a) six (n:=n);let J:=o8 (sg (rs.map (·.2)) a) (rs.getD (a+1+n) rd).2;let j:(rs.getD (a+1+n) rd).2.length<=6:=by
   rw[Zk];cases e:rs[a+1+n]? with
   |none=>show ZX _
   |some r=>show six r<|o9 e
  rw[dJ,Z1,Zn];lia
def qC(rs:Tz)(a:Nat):IV:=Yq oY .ah<|(dJ rs a<|WP rs-(a+1)).map iy
def oV:Wg->IV|none=>.ah|some p=>iy p
def HO(rs:Tz)(a:Nat)(o:Wg):Prop:=match o with|none=>dJ rs a (WP rs-(a+1))=[]|some p=>p∈dJ rs a (WP rs-(a+1))/\∀x∈dJ rs a (WP rs-(a+1)),tn x.2<=tn p.2
def LH(rs)(a):∃o,qC rs a=oV o/\HO rs a o:=by
 rcases Jy5 (dJ rs a<|WP rs-(a+1))with⟨e,e2⟩|⟨p,hp,e2,mx⟩
 .show#[Zg,e2,e]
 .show#[V p,e2,hp,mx]
section
variable{k:Nat}{h:IH}
def LI(b):xh (k+1) [aJ b] h=.ok (.int<|tn b) h:=(Ju<|by rw[Jje];show ao<|au<|Jf (cZ (cZ (aC 07 07 Q2)<|aC 07 07 JP) 07) #[07,07])
def J1q(k:h[j]?=V (.tab q))(hi:U[i]?=V (V<|.ref a)):WR (Yz gt q j js (Jb (Ja i) Je) m (eC d) U h) Q=WR (QU gt (λv h'=>m (V v::js.map λj=>(U[j]?).join) h') a (V d) h) Q:=by
 let e:Jb (Ja i) Je U h=.ok [.ref a] h:=by unfold Jb Ja Je;rw[hi];rfl
 unfold Yz;rw[e];change WR (match h[j]? with|some (.tab q')=>_|_=>_) Q=_;rw[k];dsimp only;rw[if_pos 07];rfl
def LJ(ha:a<WP rs)(hd:cf h D rs)(cW:WP rs<=12)(six:∀r∈rs,WP r.2<=6)(h0:h[2]?=V (.tab "longest_hold")):
  WR (xj (k+3) [.ref D,.int (a:Int)] h) λv h'=>v=qC rs a/\Ex h h':=by
 let hb:=J6;let#[S,gD,w]:=hd;let#[_,H,e1,t,B,rfl,gt,tv,M]:=(K8 (k:=k) gD w cW six).eq;let u:=M.get gD;let w1:=w.kp M.kp;let wl:=w.1;rw[Jgf];calc ao<|ae<|ak<|Jf (J0 (aj 07) e1)<|ae<|ak<|Jf 07 (ae<|jH ?_);rw[Vn];calc Jf (az (aU 07 07)<|dk 07 (grow u) sd (X9 _) 07 (XA<|grow u)) ?_;rw[WY];calc#[05,?_];refine Vd (λm U h'=>∃(c:Te),U=[V<|.ref D,V<|.int (a:Int),V<|.ref t,V<|.ref (WP H),c]/\h'[WP H]?=V (.lst<|(dJ rs a m).map iy)/\Kp H h') (λ_ _ _ _=>trivial) ?_ ?_ #[Zg,07,Jr,(Ex.one _ _).kp]
 .rintro n hn _ J ⟨c,rfl,g2,C⟩;rw[QL];rw[JN]at hn;let G:a+1+n<WP rs:=00;rw[show(a:Int)+1+(n:Int)=((a+1+n:Nat):Int) by push_cast;rfl];let Q:rs[a+1+n]?=V rs[a+1+n]:=Zd G;let R:=Zy G;let W:rs.getD (a+1+n) rd=rs[a+1+n]:=by rw[Zk,Q];rfl
  generalize rs[a+1+n]=r at Q R W;let#[j,ej,Y]:=w1.get Q;let av:bI S ((a+1+n:Nat):Int)=V (.ref j):=JE ej;let l6:=six r R;let#[_,_,Z,rfl,gg,rfl]:=(YU (it:=Jv<|Jm (pg<|k+2) "held" 0 (Jm (pg<|k+2) "work" 1 'a'<|Jb 'e' Je) Je) (js:=[1,2,4]) (t:=CQ<|k+2) (e:=Kj<|k+2) (U:=[V<|.ref D,V<|.int (a:Int),V<|.ref t,V<|.ref (WP H),V<|.int ((a+1+n:Nat):Int)]) (h0:=J) (h:=J++[IX.lst<|r.2.map aJ]) (xs:=r.2.map aJ) (bf:=λh'=>h'[WP J]?=V (.lst<|r.2.map aJ)) (p:=DP (rs.map (·.2)) a) (f:=LF ((a+1+n:Nat):Int))
   (by
    rw[Qn];show Jf (dk (lU (C _ _ u) 07 07 av) (C _ _ Y) xF (xA _) 07 (xG<|C _ _ Y))<|(Qt _).mpr #[_,Jr,07,07,07]) (by rw[Zn];show Zb (Zi _ 999994)<|Zb (Zc (Zc l6 1) 999994) hb) (λF q=>q _ _ Jr) (by
    intro v I F q;let#[b,L,rfl]:=ZC.1 I;let z:=tv b.1;let O:F[t]?=V (.aV B):=q _ _<|grow<|C _ _ gt;cases E:cE (rs.map (·.2)) b.1 with|none=>unfold cE at E;rw[uD]at E;let:=E r.2<|ZC.2 #[r,R,07];show absurd (show has b.1 r.2=Zl from pd.2 #[b,L,decide_eq_true 07])<|by rw[this];show Zx|some m=>
     rw[E]at z;let ev:aK B (.inr b.1)=V (.int (m:Int)):=by cases w:aK B (.inr b.1)with|none=>rw[w]at z;cases z|some v'=>rw[w]at z;show congrArg V z
     let fz:fZ (rs.map (·.2)) b.1=m:=by unfold fZ;rw[E]
     unfold CQ;calc Jf (C4 ((aF 07 (aC 07 07 JR)).trans<|Ju<|by rw[Lf O ev];show#[07,07]) 07) #[?_,.refl _];change decide ((m:Int)<=a)=decide (fZ (rs.map (·.2)) b.1<=a);rw[fz]) (by
    intro v I _ F q;show Jf (hZ (az 07 07) 07) #[07,.refl _])).eq
  let lr:=o8 (sg (rs.map (·.2)) a) r.2;let lf:=LG (a:=a) six (n:=n);rw[DQ]at Z;let P:∀{i:Nat}{o o':IX}{g:IH},J[i]?=V o->(J++[IX.lst<|r.2.map aJ]++o'::g)[i]?=V o:=λe=>(Ex.cons _ _ _).get<|grow e
  calc jg 07 (JU<|Qo 07 g2 BO (Jf (aj Z) ?_));rw[BP (xs:=(dJ rs a n).map iy) (P g2) Jw (by rw[Zn,Zn,Zn];lia),<-jl];calc#[_,07,?_,λj o e=>J4 (P<|C _ _ e) (by let:=JF e;show ZY this)];rw[dJ,W];show JW<|P g2
 .rintro _ J ⟨c,rfl,g2,C⟩;rw[JN,show((WP S:Int)-((a:Int)+1)).toNat=WP rs-(a+1) by lia]at g2;let X:=M.trans<|Y3 C;calc au ?_;rw[J1q (X.get h0) 07];refine WR.mono (Jw6 (kf:=oY) g2 ?_) ?_
  .intro v I F x3;let#[p,hp,rfl]:=ZC.1 I;show Jf (J0 (aj<|aC 07 07 JP)<|LI p.2) #[07,.refl _]
  .rintro v F ⟨rfl,x3⟩;show#[07,X.trans x3]
end
end
section
seal L4.run L4.WS L4.WR
def cu(s:Int)(d:WD):Int:=if 1<=s then ir (s+d.5) d.2 else 0
def JO(rs:Tz)(s:Int):Int:=(rs.map λr=>cu s r.1*r.1.3).sum
def DR{rs:Tz}(hn:n<WP rs):JO (rs.take<|n+1) s=JO (rs.take n) s+cu s (rs[n]).1*(rs[n]).1.3:=by unfold JO;rw[o6 hn,jl,uP];simp
def cm(s:Int)(a:Nat)(d:WD)(x:Int):Cm:=#[a,x,if s-x>0 then s-x else 0,d.3]
noncomputable def Qw (s:Int)(d:WD)(n:Nat):To:=(Z6 n).map λ(t:Nat)=>s-d.5+(t:Int)*d.2
def iU(s:Int)(a:Nat)(d:WD)(n:Nat):Ua:=(Qw s d n).map<|cm s a d
def Jn(rs:Tz)(n:Nat):WD:=(rs.getD n rd).1
def Qm(hn:n<WP rs):Jn rs n=(rs[n]).1:=by unfold Jn;rw[Zk,Zd hn];rfl
def x8(s)(a)(d)(n):(iU s a d n).length=n:=by simp[iU,Qw]
noncomputable def gO:Wg->Int|none=>0|some p=>p.2.2.1+1
def Vx(rs:Tz)(a:Nat)(o:Wg):To:=(rs.take<|a+1).map (λr=>r.1.5)++[gO o]
def tO(rs:Tz)(a:Nat)(o:Wg):Int:=Qd (λi=>(Vx rs a o).getD i 0) (Vx rs a o).length
def cU(rs:Tz)(a:Nat):Int:=(Jn rs a).4-(Jn rs a).5
def lC(rs:Tz)(T:Int)(o:Wg):Ua:=match o with|none=>[]|some p=>[#[p.1,T-gO (V p),0,(Jn rs p.1).3]]
def iz(rs:Tz)(T sp:Int):Nat->Ua|0=>[]|n+1=>iz rs T sp n++iU T n (Jn rs n) (cu sp<|Jn rs n).toNat
def JB(rs:Tz)(a:Nat)(o:Wg):Ua:=lC rs (tO rs a o) o++iz rs (tO rs a o) (cU rs a) a++iU (tO rs a o) a (Jn rs a) 1
theorem DS{T sp:Int}(c:∀n,n<a->(cu sp<|Jn rs n).toNat<=m):∀n,n<=a->(iz rs T sp n).length<=m*n|0,_=>Zm _|n+1,h=>by let:=DS (T:=T) c n<|Z7 h;let:=c n<|h;rw[iz,Z1,x8,Nat.mul_succ];show qK 06 this
noncomputable def DT (s:Int)(d:WD)(v:IV):IV:=match v with|.int t=>.int<|s-d.5+t*d.2|_=>.ah
def LK(s:Int)(a:Nat)(d:WD)(v:IV):IV:=match v with|.int x=>ax<|cm s a d x|_=>.ah
section
variable{k:Nat}{h:IH}{s:Int}
def LL(j:h[w]?=V (.ins "Work"<|fm d.1 d.2 d.3 d.4 d.5 hs))(m:0<d.2)(u:d.2.natAbs.log2<9000):xk (k+2) [.ref w,.int s] h=.ok (.int<|cu s d) h:=by
 calc Ju ?_;rw[Jjb];refine ao<|au<|jG<|Jf (KP 07 07)<|eI (λq=>?_) λq=>?_
 .calc Jf (J0 (az (aU 07 (aq 07 j kK))<|aq 07 j qq)<|KY m u) #[?_,07];unfold cu;rw[if_pos q]
 .calc Jf 07 #[?_,07];unfold cu;rw[if_neg q]
def LM{D a n:Nat}(hd:cf h D rs)(ha:a<WP rs)(hn:n<=100):
  WR (xp (k+2) [.ref D,.int (a:Int),.int s,.int (n:Int)] h) λv h'=>∃i,v=.ref i/\WP h<=i/\h'[i]?=V (.lst<|(iU s a (Jn rs a) n).map ax)/\Ex h h':=by
 let G:=J6;let#[O,H,w]:=hd;let#[j,I,m]:=w.get<|Zd ha;rw[Qm ha];generalize rs[a]=r at m;let P:bI O (a:Int)=V (.ref j):=JE I;let#[_,_,E,rfl,g1,rfl]:=(Q0 (it:=cR Qi<|Jb 'd' Je) (js:=[2,4]) (e:=CU<|k+1) (U:=[V<|.ref D,V<|.int (a:Int),V<|.int s,V<|.int (n:Int),V<|.ref j,Zg]) (h0:=h) (h:=h) (xs:=aR 0 (n:Int)) (bf:=λ_=>True) (f:=DT s r.1)
  (by
   rw[Vn];calc Jf (aj 07) ?_;rw[Yd];show#[05,07,07,07]) (by rw[JN];show Zb (Zi _ 999900)<|Zb (Zc (Zc hn 1) 999900) G) (λ_ _=>trivial) (by
   intro v B J q;let#[t,L,rfl]:=ib.1 B;rw[JN]at L;rw[QL];unfold CU;show Jf (aU (cZ 07 (aq 07 (q _ _ m) kK))<|fN 07 (aq 07 (q _ _ m) qq) (.inl 05)) #[07,.refl _])).eq
 let M:(aR 0 (n:Int)).map (DT s r.1)=(Qw s r.1 n).map IV.int:=by
  refine qQ (by simp[JN,Qw]) λi F J=>?_
  rw[fS,QL];simp[Qw,DT]
 rw[M]at E;let u:Ex h (h++IX.lst ((Qw s r.1 n).map IV.int)::g1):=.cons _ _ _;let g2:(h++IX.lst ((Qw s r.1 n).map IV.int)::g1)[WP h]?=V (.lst<|(Qw s r.1 n).map IV.int):=Jw;generalize h++IX.lst ((Qw s r.1 n).map IV.int)::g1=F at u g2 E;rw[Jmo];calc ao<|ae<|ak<|Jf (lU H 07 07 P)<|ae<|ak<|Jf E<|au ?_;refine WR.mono (Q0 (h:=F) (xs:=(Qw s r.1 n).map IV.int) (bf:=λh'=>h'[WP h]?=V (.lst<|(Qw s r.1 n).map IV.int)) (f:=LK s a r.1) ?_ (by rw[Zn];simp[Qw];show Zb (Zi _ 999900)<|Zb (Zc (Zc hn 1) 999900) G) (λJ q=>q _ _ g2) ?_) ?_
 .rw[Qn];show Jf 07 ((Qt _).mpr #[_,g2,07,07,07])
 .intro v B J q;let#[x,Q,rfl]:=ZC.1 B;unfold KG;show Jf (hZ (iS 07 07 (lQ 07 (cZ 07 07)) (aq 07 (q _ _<|u.get m) oR)) 07) #[07,.refl _]
 .rintro _ _ ⟨rfl,R,rfl⟩;let C:((Qw s r.1 n).map IV.int).map (LK s a r.1)=(iU s a r.1 n).map ax:=by unfold iU;rw[fY,fY];rfl
  rw[C];show#[_,07,u.len,Jw,u.trans<|.cons _ _ _]
end
end
section
seal L4.run L4.WS L4.WR
section
variable{k:Nat}{h:IH}{U:aD}
def DU(e:Ja 2 U h=.ok (oV o) h):k9 (Ji bg<|Jc lq 'c'<|eC .ah) '0' (Jc Js (Jc Jh (Jc Jh 'c' '1') '1') '1') U h=.ok (.int<|gO o) h:=(Ju (by cases o with|none=>show jG (Jf (bR<|(aF e 07).trans 07) #[λ_=>Jf 07 #[07,07],λz=>by cases z])|some p=>show jG<|Jf (bR<|(aF e 07).trans 07) #[(λz=>by cases z),λ_=>Jf (aU (aC (aC e 07 JP) 07 JP) 07) #[07,07]]))
theorem nL(m:a U h=.ok (.ref i) h1)(k:b U h1=.ok (.ref j) J)(B:J[i]?=V (.lst xs))(u:J[j]?=V (.lst ys))(l:WP xs+WP ys<=1000):Jc Js a b U h=.ok (.ref (WP J)) (J++[.lst<|xs++ys]):=(aF m k).trans (Ju<|(BN ..).mpr #[_,B,_,u,by let:=J6;show Zb (Zi _ 999001)<|Zb (Zc l 999001) this,07,07])
def DV(j:a U h=.ok (.ref i) h1)(g:h1[i]?=V (.lst<|ms.map .int))(ne:ms≠[]):bp (bx VR) (Jb a Je) U h=.ok (.int<|Qd (λi=>ms.getD i 0) (WP ms)) h1:=by rw[gu<|aj j];show Ju (by change WR (VR (.ref i) h1) _;rw[J1s g ne];show#[07,07])
def x9(j:0<d.2)(k:0<=d.5):0<=cu s d:=by
 unfold cu;split
 .unfold ir;show Int.ediv_nonneg (ZJ<|oB<|ZE (ZH 06<|mY k)<|ZR _ j)<|ZJ j
 .show ZD _
def Jru{T:Int}(ha:a<WP rs)(cW:WP rs<=12)(gl:∀r∈rs,0<r.1.2/\r.1.2.natAbs.log2<9000/\0<=r.1.5)(hm:m<=12)(cn:∀n,n<a->(cu (cU rs a)<|Jn rs n).toNat<=m)(d:cf h D rs)(k5:Kp h h5)(l1:WP cs<=1)(Y:h5[WP h]?=V (.lst<|cs.map ax))(q:∀h',h'[WP h]?=V (.lst<|(cs++iz rs T (cU rs a) a++iU T a (Jn rs a) 1).map ax)->Kp h h'->Q (.tup [.ref (WP h),.int<|((cs++iz rs T (cU rs a) a++iU T a (Jn rs a) 1).length:Nat)-1]) h'):
  WS (CW (k+3) [V<|.ref D,V<|.int (a:Int),v2,v3,V<|.int T,V<|.ref (WP h),Zg,Zg] h5) N Q:=by
 let R:=J6;let wk:∀{h':IH},Kp h h'->∀n,n<WP rs->∃j,(∀{k:Nat}{o e:E1}{U:aD},o U h'=.ok (.ref D) h'->e U h'=.ok (.int (n:Int)) h'->Jm (pg<|k+1) "work" 1 o (Jb e Je) U h'=.ok (.ref j) h')/\h'[j]?=V (wo<|rs.getD n rd):=λ{h'} kp n hn=>by let#[vs,gD,w]:=d.kp kp;let#[j,G,I]:=w.get<|Zd hn;show#[j,λZ ee=>lU gD Z ee<|JE G,by rw[Qr hn];show I]
 let#[ja,P,ga]:=wk k5 a ha;calc ae<|ak<|Jf (cZ (aq (P 07 07) ga r8)<|aq (P 07 07) ga kK)<|ae<|lR (n:=a) 07 (Zb (Zb ha cW)<|Zi _ 999988) ?_;let O:∀n,n<=a->(cs++iz rs T (cU rs a) n).length<=150:=λn hn=>by let:=DS (T:=T) cn n hn;let:m*n<=12*12:=Nat.mul_le_mul hm<|Z7<|Zb (Zb (Zc hn 1) ha) cW;rw[Z1];lia
 refine Vd (λn U h'=>∃c,U=[V<|.ref D,V<|.int (a:Int),v2,v3,V<|.int T,V<|.ref (WP h),V<|.int<|cU rs a,c]/\Kp h h'/\h'[WP h]?=V (.lst<|(cs++iz rs T (cU rs a) n).map ax)) (λ_ _ _ _=>trivial) ?_ ?_ #[Zg,07,k5,by rw[iz,iC];show Y]
 .rintro n hn _ S ⟨c,rfl,E,B⟩;rw[JN]at hn;let F:n<a:=hn;let u:n<WP rs:=nR 06 06;rw[QL,show(0+(n:Int))=(n:Int) by show oF _ _];let#[j,G,I]:=wk E n u;obtain⟨M,y2,y3⟩:0<(rs.getD n rd).1.2/\(rs.getD n rd).1.2.natAbs.log2<9000/\0<=(rs.getD n rd).1.5:=by rw[Qr u];show gl _<|Zy u
  let W:=cn n F;let ec:cu (cU rs a) (Jn rs n)=((cu (cU rs a)<|Jn rs n).toNat:Int):=by let:0<=cu (cU rs a) (Jn rs n):=x9 M y3;show gU (sU _)<|Z3<|rn this
  let#[_,X,H,i,rfl,li,J,C]:=(LM (k:=k+1) (s:=T) (n:=(cu (cU rs a)<|Jn rs n).toNat) (d.kp E) u<|Zb (Zb W hm)<|Zi _ 88).eq;calc jg 07 (JU<|Qo 07 B BO (Jf (aj<|J0 (iS 07 07 07 (eS (J0 (az (G 07 07) 07)<|LL I M y2)<|congrArg IV.int ec)) H) ?_));rw[BP (C.get B) J (by let:=O n (Z7 F);rw[Zn,Zn,x8];lia)];calc#[_,07,λi ob e=>J4 (C.get<|E _ _ e) (by let:=JF e;show ZY this),?_];rw[iz,<-fQ,jl (l₂:=iU _ _ _ _)];show JW<|C.get B
 .rintro _ S ⟨c,rfl,E,B⟩;rw[JN,show((a:Int)-0).toNat=a by rfl]at B;let#[_,X,H,i,rfl,li,J,C]:=(LM (k:=k+1) (s:=T) (n:=1) (d.kp E) ha 01).eq;calc ae<|JU<|Qo 07 B BO (Jf (aj<|J0 (iS 07 07 07 07) H) ?_);rw[BP (C.get B) J (by let:=O a (Zm _);rw[Zn,Zn,x8];show Zb (Zi _ 999850)<|Zb (Zc (Zc this 1) 999850) R),<-jl];let L:=JW (o':=IX.lst<|(cs++iz rs T (cU rs a) a++iU T a (Jn rs a) 1).map ax)<|C.get B;calc au<|Jf (hZ (az 07 (cZ (dj 07 L) 07)) 07) ?_;rw[Zn];show q _ L λi ob e=>J4 (C.get<|E _ _ e) (by let:=JF e;show ZY this)
def Jpa(ha:a<WP rs)(hd:cf h D rs)(cW:WP rs<=12)(six:∀r∈rs,WP r.2<=6)(gl:∀r∈rs,0<r.1.2/\r.1.2.natAbs.log2<9000/\0<=r.1.5)(t0:h[2]?=V (.tab "longest_hold"))(S:qC rs a=oV o)(lo:∀p,o=V p->p.1<WP rs)(hm:m<=12)(cn:∀n,n<a->(cu (cU rs a)<|Jn rs n).toNat<=m):
  WR (CF (k+4) [.ref D,.int (a:Int)] h) λv h'=>∃R,v=.tup [.ref R,.int<|(JB rs a o).length-1]/\WP h<=R/\h'[R]?=V (.lst<|(JB rs a o).map ax)/\Ex h h':=by
 let hb:=J6;let#[_,u,e1,rfl,H]:=(LJ (k:=k) ha hd cW six t0).eq;rw[S]at e1;let#[L,W,w]:=id<|hd.kp H.kp;let wl:=w.1;let wk:∀n:Nat,n<WP rs->∃j,bI L (n:Int)=V (.ref j)/\u[j]?=V (wo<|rs.getD n rd):=λn hn=>by let#[j,E,G]:=w.get<|Zd hn;show#[j,JE E,by rw[Qr hn];show G]
 let#[ja,aa,ga]:=wk a ha;let#[_,_,Z,rfl,g2,rfl]:=(Q0 (it:=Jv<|jY j8 (Jp "works" 'a') V0<|Qz<|Jc Js 'b' '1') (js:=[]) (e:=CV<|k+3) (U:=[V<|.ref D,V<|.int (a:Int),V<|oV o,V<|.int<|gO o,Zg,Zg,Zg,Zg]) (h0:=u) (h:=u) (xs:=L.take<|a+1) (bf:=λ_=>True) (f:=lT "late" u)
  (by
   rw[Qn];calc(YX ..).mpr<|Jf (aq 07 W r9)<|Jf 07 ((WJ ..).mpr<|Jf (aU 07 07) #[_,07,Jf 07 ?_]);rw[show(V<|(a:Int)+1)=V ((a+1:Nat):Int)from 07,Hl];show(WX _).mpr #[07,07,07]) (by rw[ic];show Zb (Zi _ 999988)<|Zb (Zc (Zb (Zb (Zc (kO _ _) 1)<|Zc (Zh wl) 1)<|Zc cW 1) 999988) hb) (λ_ _=>trivial) (by
   intro v hv J q;let#[d,_,j,hs,rfl,e]:=w.w.of<|uI hv;unfold CV;show Jf (aq 07 (q _ _ e) kK) #[by rw[lT,Q9 e,kK];rfl,.refl _])).eq
 let em:(L.take<|a+1).map (lT "late" u)=((rs.take<|a+1).map λr=>r.1.5).map IV.int:=by rw[uQ,w.w.nH (F:=lT "late" u) (g:=λd=>.int d.5) λj d hs e=>by rw[lT,Q9 e,kK];rfl,<-uQ,<-uQ,fY,fY];rfl
 rw[em]at Z;let l3:((rs.take<|a+1).map λr=>r.1.5).length<=12:=by rw[Zn,ic];show Zb (kO _ _) cW
 generalize hl:((rs.take<|a+1).map λr=>r.1.5)=C at Z l3;let e3:=nL (U:=[V<|.ref D,V<|.int (a:Int),V<|oV o,V<|.int<|gO o,Zg,Zg,Zg,Zg]) Z (dH (aj (a:=Ja 3) 07) 07) (grow Jw) Jr (by rw[Zn];change _+1<=_;show Zb (Zc l3 1)<|Zi _ 987);let O:Ex u (u++IX.lst (C.map IV.int)::g2++[IX.lst [IV.int<|gO o]]++[IX.lst<|C.map IV.int++[IV.int<|gO o]]):=(Ex.cons _ _ _).trans<|(Ex.one _ _).trans<|.one _ _;let g3:(u++IX.lst (C.map IV.int)::g2++[IX.lst [IV.int<|gO o]]++[IX.lst<|C.map IV.int++[IV.int<|gO o]])[(u++IX.lst (C.map IV.int)::g2++[IX.lst [IV.int<|gO o]]).length]?=V (.lst<|(Vx rs a o).map .int):=by rw[Vx,hl,jl];show Jr
 let I:=DV e3 g3<|by unfold Vx;simp
 generalize u++IX.lst (C.map IV.int)::g2++[IX.lst [IV.int<|gO o]]++[IX.lst<|C.map IV.int++[IV.int<|gO o]]=B at O I;let I:_=Res.ok (IV.int<|tO rs a o) B:=I;let d3:=(hd.kp H.kp).kp O.kp;let X:=(H.trans O).len;let Q:∀{h':IH},Kp B h'->Ex h h':=λq=>(H.trans O).trans<|Y3 q
 let Y:∀n,n<WP rs->∃j,(∀{k:Nat}{h':IH}{o e:E1}{U:aD},Kp B h'->o U h'=.ok (.ref D) h'->e U h'=.ok (.int (n:Int)) h'->Jm (pg<|k+1) "work" 1 o (Jb e Je) U h'=.ok (.ref j) h')/\B[j]?=V (wo<|rs.getD n rd):=λn hn=>by let#[L,W,w]:=d3;let#[j,E,G]:=w.get<|Zd hn;show#[j,λkp S ee=>lU (kp _ _ W) S ee<|JE E,by rw[Qr hn];show G]
 rw[Jo1];calc ao<|ae<|ak<|Jf (J0 (az 07 07) e1)<|ae<|ak<|Jf (DU 07)<|ae<|ak<|Jf I<|ae<|ak<|Jf (dH 07 07)<|ae ?_;let fin:∀(M:IH)(P:Ua),P=lC rs (tO rs a o) o->Kp B M->WP P<=1->M[WP B]?=V (.lst<|P.map ax)->WS (CW (k+3) [V<|.ref D,V<|.int (a:Int),V<|oV o,V<|.int<|gO o,V<|.int<|tO rs a o,V<|.ref (WP B),Zg,Zg] M) (λ_ h'=>∃R,IV.ah=.tup [.ref R,.int<|(JB rs a o).length-1]/\WP h<=R/\h'[R]?=V (.lst<|(JB rs a o).map ax)/\Ex h h') λv h'=>∃R,v=.tup [.ref R,.int<|(JB rs a o).length-1]/\WP h<=R/\h'[R]?=V (.lst<|(JB rs a o).map ax)/\Ex h h':=λM P e k5 l1 g5=>by subst e;show Jru ha cW gl hm cn d3 k5 l1 g5 λh' g' k'=>#[_,07,X,g',Q k']
 cases o with|none=>show bE (bR 07)<|aM<|fin _ [] 07 (Ex.one _ _).kp (ZX _) Jr|some p=>
  let#[j,E,G]:=Y p.1<|lo p 07;let e0:∀h',Jc Jh 'c' '0' [V<|.ref D,V<|.int (a:Int),V<|oV<|V p,V<|.int<|gO<|V p,V<|.int<|tO rs a<|V p,V<|.ref (WP B),Zg,Zg] h'=.ok (.int (p.1:Int)) h':=λh'=>aC 07 07 JR
  calc qp (bR 07) (JU<|Qo 07 Jr Vt (Jf (aj<|hZ (iS (e0 _) (cZ 07 07) 07 (aq (E (Ex.one _ _).kp 07 (e0 _)) (grow G) oR)) 07)<|gv Jr (by change 0<_;show mP 06) ?_));rw[VV];show fin _ [#[p.1,tO rs a (V p)-gO (V p),0,(Jn rs p.1).3]] 07 (λi ob e=>grow e) (Zm _) Jr
end
end
def nest(ok:jJ len hs)(m:x∈hs)(u:y∈hs)(l1:x.2.1<y.2.1)(l2:y.2.1<x.2.2):y.2.2<=x.2.2:=by
 let#[i,B,rfl]:=ib.1 m;let#[j,k,rfl]:=ib.1 u;let C:=(ok.2 _<|Zy k).2.2.1;rcases Nat.lt_trichotomy i j with h|h|h
 .rcases ok.3 i j h k with z|z|⟨_,z|z⟩<;>omega
 .subst h;show ZD _
 .rcases ok.3 j i h B with z|z|⟨_,z|z⟩<;>omega
section
variable{rs:Tz}{a:Nat}{T sp:Int}
def ya(h:c∈iU T n d m):∃t:Nat,t<m/\c=cm T n d (T-d.5+(t:Int)*d.2):=by unfold iU Qw at h;let#[x,j,rfl]:=ZC.1 h;let#[t,k,rfl]:=ZC.1 j;show#[t,ig.1 k,07]
theorem XQ:∀{n:Nat},c∈iz rs T sp n->∃w t:Nat,w<n/\t<(cu sp<|Jn rs w).toNat/\c=cm T w (Jn rs w) (T-(Jn rs w).5+(t:Int)*(Jn rs w).2)
 |0,h=>by cases h
 |n+1,h=>by
  rcases ZQ.1 h with h|h
  .let#[w,t,k,J]:=XQ h;show#[w,t,iB 06,J]
  .let#[t,j,e]:=ya h;show#[n,t,ZZ _,j,e]
def DW(rs:Tz)(x y:Cm):Prop:=x.1=y.1->x.2+(Jn rs x.1).2<=y.2
def LN(g:0<(Jn rs n).2):(iU T n (Jn rs n) m).Pairwise (DW rs):=by unfold iU Qw;rw[fY,yz];calc List.pairwise_lt_range.imp λ{i j} l _=>?_;change T-_+(i:Int)*(Jn rs n).2+(Jn rs n).2<=T-_+(j:Int)*(Jn rs n).2;obtain⟨e,rfl⟩:∃e:Nat,j=i+1+e:=#[j-i-1,by(rw[Nat.sub_sub];show ZW (Zh (mK l).symm)<|iW l<|Zm _)];let:=vk (jn e)<|ZJ g;simp![y8,oG];lia
theorem LO(g:∀n,n<a->0<(Jn rs n).2):∀n,n<=a->(iz rs T sp n).Pairwise (DW rs)|0,_=>.nil|n+1,h=>qN.2 #[LO g n<|Z7 h,LN<|g n<|h,λx k y j e=>by let#[w,t,hw,_,rfl]:=XQ k;let#[_,_,rfl]:=ya j;show absurd (show w=n from e)<|Zu hw]
def DX:gz (cm T n d x)=if T<x then x else T:=by unfold gz cm;dsimp only;split<;>split<;>lia
structure Wk(rs:Tz)(a:Nat)(o:Wg)(m:Nat):Prop where
 ha:a<WP rs
 ok:∀r∈rs,0<r.1.2/\0<=r.1.5/\1<=r.1.3/\jJ r.1.3 r.2
 ho:HO rs a o
 cn:∀n,n<a->(cu (cU rs a)<|Jn rs n).toNat<=m
variable{o:Wg}{m:Nat}
def Wk.at_(W:Wk rs a o m)(hn:n<WP rs):0<(Jn rs n).2/\0<=(Jn rs n).5/\1<=(Jn rs n).3:=by rw[Qm hn];let:=W.2 _<|Zy hn;show#[this.1,this.2.1,this.2.2.1]
def Wk.p(W:Wk rs a o m){p:Nat×Hd}(e:o=V p):a<p.1/\p.1<WP rs/\p.2∈(rs.getD p.1 rd).2/\fZ (rs.map (·.2)) p.2.1<=a/\jJ (Jn rs p.1).3 (rs.getD p.1 rd).2/\∀y∈(rs.getD p.1 rd).2,fZ (rs.map (·.2)) y.1<=a->tn y<=tn p.2:=by subst e;let ha:=W.1;let#[E,u]:=W.3;let#[j,J,k,C]:=xY E;let J:p.1<WP rs:=Zb J<|iW ha<|Zm _;calc#[j,J,k,C,?_,λy B D=>u (p.1,y)<|xZ j B D 00];unfold Jn;rw[Qr J];show(W.2 _<|Zy J).2.2.2
def LP(rs)(a)(o):gO o<=tO rs a o/\∀n,n<=a->n<WP rs->(Jn rs n).5<=tO rs a o:=by
 let j:∀x∈Vx rs a o,x<=tO rs a o:=λx m=>by
  let#[i,k,rfl]:=ib.1 m;let:=Ht (λi=>(Vx rs a o).getD i 0) (Vx rs a o).length i k;let e:(Vx rs a o).getD i 0=(Vx rs a o)[i]:=by rw[Zk,Zd k];rfl
  rw[<-e];show this
 calc#[j _<|Zr _<|ZB.2 07,λn u J=>j _<|iZ _<|ZC.2 #[rs[n],?_,(congrArg WD.ag<|Qm J).symm]];show o9 (i:=n)<|by rw[yq<|mO 06,Zd J]
def J6s(W:Wk rs a o m):0<=gO o:=by cases o with|none=>show ZD _|some p=>let#[_,_,j,_,k,_]:=W.p 07;let:=(k.2 _ j).2.1;change 0<=p.2.2.1+1;show ZJ<|ZE this<|ZR _ 01
def DY(h:c∈JB rs a o):(∃p,o=V p/\c=#[p.1,tO rs a o-gO o,0,(Jn rs p.1).3])\/∃w t:Nat,(w<a/\t<(cu (cU rs a)<|Jn rs w).toNat\/w=a/\t=0)/\c=cm (tO rs a o) w (Jn rs w) (tO rs a o-(Jn rs w).5+(t:Int)*(Jn rs w).2):=by
 rcases ZQ.1 h with h|h
 .rcases ZQ.1 h with h|h
  .cases o with|none=>cases h|some p=>show .inl #[p,07,ZB.1 h]
  .let#[w,t,j,J,e]:=XQ h;show .inr #[w,t,.inl #[j,J],e]
 .let#[t,k,e]:=ya h;show .inr #[a,t,.inr #[07,by show qI 06],e]
def LQ(W:Wk rs a o m):br rs (JB rs a o):=by
 let ha:=W.1;let#[tg,tl]:=LP rs a o;refine#[λc M=>?_,λi j x y F ex R e r Q=>?_]
 .rcases DY M with⟨p,e,rfl⟩|⟨w,t,B,rfl⟩
  .let#[_,J,_]:=W.p e;let#[_,G,E]:=W.at_ J;rw[Qm J]at *;show#[J,by change 0<=_-_;show sT tg,ZD _,G,E,ZD _]
  .let C:w<WP rs:=B.elim (λu=>(Z7<|Zb (Zc u.1 1) ha)) λu=>(Zb (Zc (Zh u.1) 1) ha)
   let#[J,G,E]:=W.at_ C;let P:=tl w (B.elim (λu=>(Z7 u.1)) λu=>(Zh u.1)) C;let:=vk (jn t)<|ZJ J;rw[Qm C]at *;refine#[C,by change 0<=_-_+_;show ZH (sT P)<|mY this,?_,?_,E,ZD _]
   .unfold cm;dsimp only;split<;>(first|show ZD _|show ZJ 06|omega)
   .unfold cm;dsimp only;split<;>omega
 .let O:(JB rs a o).Pairwise (DW rs):=by
   refine qN.2 #[qN.2 #[?_,LO (a:=a) (λn hn=>(W.at_<|nR 06 06).1) a<|Zm _,λx k y D e=>?_],LN (W.at_ ha).1,λx k y D e=>?_]
   .cases o with|none=>show .nil|some p=>show List.pairwise_singleton _ _
   .cases o with|none=>cases k|some p=>let#[w,t,B,_,rfl]:=XQ D;rw[ZB.1 k]at e;let:=(W.p 07).1;show absurd (show p.1=w from e)<|ZY<|Z7<|Zb (Zc B 1) this
   .let#[_,_,rfl]:=ya D;rcases ZQ.1 k with k|k
    .cases o with|none=>cases k|some p=>rw[ZB.1 k]at e;let:=(W.p 07).1;show absurd (show p.1=a from e)<|ZY this
    .let#[w,t,B,_,rfl]:=XQ k;show absurd (show w=a from e)<|Zu B
  let#[L,rfl]:=Zp.1 ex;let#[H,rfl]:=Zp.1 R;let:=(uC.1 O) i j L H F e;let#[I,rfl]:=Zp.1 Q;rw[Qm I]at this;show this
def bO:Wg->Int|none=>0|some p=>tn p.2
def pre(rs:Tz)(a:Nat)(o:Wg):Ua:=lC rs (tO rs a o) o++iz rs (tO rs a o) (cU rs a) a
theorem Xo:JB rs a o=pre rs a o++[cm (tO rs a o) a (Jn rs a)<|tO rs a o-(Jn rs a).5+((0:Nat):Int)*(Jn rs a).2]:=rfl
def LR(W:Wk rs a o m)(j:q<(pre rs a o).length):((JB rs a o).getD q cd).1≠a/\(a<((JB rs a o).getD q cd).1->q=0):=by
 let e:(JB rs a o).getD q cd=(pre rs a o)[q]:=by rw[Xo,Zk,ZN j,Zd j];rfl
 rw[e];by_cases l:q<(lC rs (tO rs a o) o).length
 .let k:(pre rs a o)[q]=(lC rs (tO rs a o) o)[q]:=List.getElem_append_left l;rw[k];cases o with|none=>show absurd l<|mQ _|some p=>
   let z:q=0:=by let:q<1:=l;show qI 06
   subst z;let:=(W.p 07).1;show#[by change p.1≠a;show ZY this,λ_=>07]
 .let B:(pre rs a o)[q]∈iz rs (tO rs a o) (cU rs a) a:=by let k:(pre rs a o)[q]=(iz rs (tO rs a o) (cU rs a) a)[q-(lC rs (tO rs a o) o).length]'(by unfold pre at j;rw[Z1]at j;show Nat.sub_lt_left_of_lt_add (ZM l) j):=List.getElem_append_right<|ZM l;rw[k];show Zy _
  let#[w,t,u,_,C]:=XQ B;rw[C];show#[by change w≠a;show Zu u,λz=>absurd (show a<w from z)<|ur<|Z7 u]
def Jrt(W:Wk rs a o m):iT rs (JB rs a o) a (pre rs a o).length (tO rs a o) (gO o) (bO o):=by
 let ha:=W.1;let#[tg,tl]:=LP rs a o;let g0:=J6s W;let len:(JB rs a o).length=(pre rs a o).length+1:=by rw[Xo,Z1];rfl
 let E:(JB rs a o).getD (pre rs a o).length cd=cm (tO rs a o) a (Jn rs a) (tO rs a o-(Jn rs a).5+((0:Nat):Int)*(Jn rs a).2):=by rw[Xo,Zk,ZL<|Zm _,yp];rfl
 let mem:∀q,q<(JB rs a o).length->(JB rs a o).getD q cd∈JB rs a o:=λq H=>by rw[Zk,Zd H];show Zy H
 let#[wa,P,R]:=W.at_ ha;let Q:=tl a (Zm _) ha;refine#[Zh len.symm,by unfold aX;rw[E];rfl,?_,g0,?_,tg,λq u j=>?_,λq u j=>?_,λx k=>?_,?_]
 .unfold ar;rw[E,DX,if_neg 05]
 .cases o with|none=>show ZD _|some p=>let#[_,_,D,_,F,_]:=W.p 07;let:=(F.2 _ D).2.2.1;change 0<=tn p.2;unfold tn;lia
 .rcases DY (mem q u)with⟨p,e,e2⟩|⟨w,t,_,e2⟩
  .let:=(W.p e).1;unfold aX at j;rw[e2]at j;let j:(p.1:Int)<=a:=j;lia
  .unfold ar;rw[e2,DX];split<;>(first|show ZD _|show ZJ 06|omega)
 .by_cases l:q<(pre rs a o).length
  .let:=(LR W l).1;unfold aX at j;lia
  .show ZW (jL (b:=1)<|Zb u<|Zh len)<|ZM l
 .unfold c7 at k;unfold aW;rw[E]at k ⊢;let k:x∈(rs.getD a rd).2:=k;rw[Qr ha]at k;let:=((W.2 _<|Zy ha).2.2.2.2 x k).2.2.2;change x.2.2<(Jn rs a).3;rw[Qm ha];show this
 .cases o with
  |none=>
   calc .inl #[07,07,λq u=>?_];rcases DY (mem q u)with⟨p,e,_⟩|⟨w,t,hw,e2⟩
   .cases e
   .unfold aX;rw[e2];change(w:Int)<=a;show hw.elim (λG=>(ZJ<|jq.2 G.1)) λG=>(jq.2<|Zh G.1)
  |some p=>
   let#[O,J,D,L,F,I]:=W.p 07;let C:(JB rs a<|V p).getD 0 cd=#[p.1,tO rs a (V p)-gO (V p),0,(Jn rs p.1).3]:=07;let k:=F.2 _ D;refine .inr #[0,nQ 06,by unfold aX;rw[C];change(a:Int)<p.1;show mj.2 06,λq u j=>?_,?_,?_,p.2,?_,L,07,?_,λy B M=>#[?_,λl1 l2=>?_]]
   .by_cases l:q<(pre rs a<|V p).length
    .calc(LR W l).2 ?_;unfold aX at j;show mj.1 06
    .obtain rfl:q=(pre rs a<|V p).length:=ZW (jL (b:=1)<|Zb u<|Zh len)<|ZM l;unfold aX at j;rw[E]at j;show absurd (show(a:Int)<a from j)<|za _
   .unfold ar gz;rw[C];change _-_+0=_;lia
   .unfold aW;rw[C];change p.2.2.1+1+tn p.2<(Jn rs p.1).3;let:=k.2.2.2;unfold tn;lia
   .unfold c7;rw[C];show D
   .change p.2.2.2=p.2.2.1+1+tn p.2;unfold tn;lia
   .unfold c7 at B;rw[C]at B;show I y B M
   .unfold c7 at B;rw[C]at B;show nest F D B l1 l2
end
section
variable{rs:Tz}{a:Nat}{T τ:Int}
def fC(a:Nat)(T τ:Int)(c:Cm):Int:=if (c.1:Int)<=a/\T<=gz c/\gz c<τ then c.4 else 0
def Jze(cs):dM cs a T τ=(cs.map<|fC a T τ).sum:=by
 change((Z6 (WP cs)).map λp=>fC a T τ<|cs.getD p cd).sum=_;congr 1;refine qQ 03 λi j J=>?_
 rw[Zn]at J;rw[fS,fS,yy,Zk,Zd J];rfl
theorem DZ:∀{m:Nat}{C:Int},0<=C->C<=m->sR m (λi=>if (i:Int)<C then L else 0)=C*L
 |0,C,h0,h1=>by obtain rfl:C=0:=05;rw[Int.zero_mul];rfl
 |m+1,C,h0,h1=>by
  rw[QZ];by_cases e:C<=m
  .rw[DZ h0 e,if_neg<|ZU.2 e];lia
  .obtain rfl:C=(m:Int)+1:=05;rw[DO (g:=λi=>if (i:Int)<(m:Int)then L else 0) λi j=>by rw[if_pos<|pF (jq.2 j)<|cN.1 e,if_pos<|mj.2 06],DZ (jn m)<|ZD _,if_pos 06,oG,vn]
def D0(t1:1<=t)(g:0<d.2):(i:Int)<cu t d↔(i:Int)*d.2<t+d.5:=by unfold cu ir;rw[if_pos t1];let:=vg (a:=(i:Int)+1) (b:=t+d.5+d.2-1) g;rw[oG,vn]at this;omega
def LS{w m:Nat}(wa:w<=a)(t1:1<=t)(g:0<d.2)(l:0<=d.5)(j:0<=cu t d)(c:cu t d<=m):((iU T w d m).map<|fC a T<|T+t).sum=cu t d*d.3:=by
 rw[<-DZ (L:=d.3) j c];unfold iU Qw sR;rw[fY,fY];congr 1;refine yw λi _=>?_
 let k:=D0 (i:=i) t1 g;change fC a T (T+t) (cm T w d<|T-d.5+(i:Int)*d.2)=_;unfold fC;rw[DX];let wa:(w:Int)<=a:=jq.2 wa;by_cases z:(i:Int)<cu t d
 .rw[if_pos z,if_pos #[wa,by split<;>(first|show ZD _|show ZJ 06|omega),by split<;>lia]];rfl
 .rw[if_neg z,if_neg λy=>by let:=y.2.2;split at this<;>lia]
theorem LU(t1:1<=t)(t2:t<=sp)(ok:∀n,n<WP rs->0<(Jn rs n).2/\0<=(Jn rs n).5)(ha:a<=WP rs):∀n,n<=a->((iz rs T sp n).map<|fC a T<|T+t).sum=JO (rs.take n) t
 |0,_=>07
 |n+1,h=>by
  let hn:n<WP rs:=ZO 06 06;let#[g,l]:=ok n hn;let k:=x9 (s:=t) g l;let j:cu t (Jn rs n)<=cu sp (Jn rs n):=by unfold cu ir;rw[if_pos t1,if_pos<|ZH t1 t2];show yZ g 05
  rw[iz,jl,uP,LU t1 t2 ok ha n<|Z7 h,LS (Z7 h) t1 g l k<|ZH j<|sU _,DR hn,Qm hn]
def J6n(W:Wk rs a o m)(t1:1<=t)(t2:t<=cU rs a)(dg:(Jn rs a).4<=(Jn rs a).2):dM (JB rs a o) a (tO rs a o) (tO rs a o+t)=JO (rs.take a) t+(Jn rs a).3:=by
 let ha:=W.1;let#[g,l,_]:=W.at_ ha;let k:t<=(Jn rs a).4-(Jn rs a).5:=t2;let u:cu t (Jn rs a)=1:=by
  let j:=(D0 (i:=0) t1 g).2 (by change 0*_<_;lia);let B:¬((1:Nat):Int)<cu t (Jn rs a):=λz=>by let:=(D0 (i:=1) t1 g).1 z;let:((1:Nat):Int)*(Jn rs a).2=(Jn rs a).2:=vn _;lia
  lia
 let j:((lC rs (tO rs a o) o).map<|fC a (tO rs a o)<|tO rs a o+t).sum=0:=by
  cases o with
  |none=>rfl
  |some p=>let:=(W.p 07).1;change fC a _ _ _+0=0;unfold fC;rw[if_neg λz=>by let z:=z.1;let z:(p.1:Int)<=a:=z;show ZU.2 z<|jq.2 this];rfl
 rw[Jze,JB,jl,jl,uP,uP,j,LU t1 t2 (λn hn=>#[(W.at_ hn).1,(W.at_ hn).2.1]) (Z7 ha) a<|Zm _,LS (Zm _) t1 g l 05<|Z3 06,u];lia
end
section
seal L4.run L4.WS L4.WR
def Jwd(j:0<g)(h:x<=y):ir x g<=ir y g:=by unfold ir;show yZ j<|Int.sub_le_sub (yW h _) 01
def Yt(j:0<d.2)(h1:1<=s)(h:s<=t):cu s d<=cu t d:=by unfold cu;rw[if_pos h1,if_pos<|ZH h1 h];show Jwd j<|yW h _
def cnt(rs:Tz)(s:Int):Int:=(rs.map λr=>cu s r.1).sum
theorem LV(h1:1<=s)(h:s<=t):∀{rs:Tz},(∀r∈rs,0<r.1.2)->cnt rs s<=cnt rs t
 |[],_=>ZD _
 |r::rs,q=>by
  let:=LV h1 h (rs:=rs) λr j=>q r<|Zq _ j
  let:=Yt (d:=r.1) (q r Z2) h1 h;unfold cnt at *;rw[ZS,ZS,mU,mU];show oE this 06
theorem D1(h1:1<=s)(h:s<=t):∀{rs:Tz},(∀r∈rs,0<r.1.2/\0<=r.1.3)->JO rs s<=JO rs t
 |[],_=>ZD _
 |r::rs,q=>by
  let a:=D1 h1 h (rs:=rs) λr j=>q r<|Zq _ j
  let b:=vd (Yt (d:=r.1) (q r Z2).1 h1 h) (q r Z2).2;unfold JO at *;rw[ZS,ZS,mU,mU];show oE b a
theorem LX(h1:1<=s)(h:s<=t):∀{rs:Tz},(∀r∈rs,0<r.1.2/\0<=r.1.3)->JO rs s<JO rs t->cnt rs s<cnt rs t
 |[],_,z=>absurd z<|za _
 |r::rs,q,z=>by
  let k:∀r∈rs,0<r.1.2/\0<=r.1.3:=λr j=>q r<|Zq _ j
  let B:=Yt (d:=r.1) (q r Z2).1 h1 h;let m:=LV h1 h (rs:=rs) λr j=>(k r j).1
  let u:=LX h1 h k;unfold JO cnt at *;rw[ZS,ZS,mU,mU]at z ⊢;by_cases e:cu s r.1=cu t r.1
  .rw[e]at z ⊢;let:=u 05;show Int.add_lt_add_left this _
  .show EA (vh.2 #[B,e]) m
theorem LY:∀{rs:Tz},(∀r∈rs,0<r.1.2/\0<=r.1.5)->0<=cnt rs s
 |[],_=>ZD _
 |r::rs,q=>by
  let a:=LY (s:=s) (rs:=rs) λr j=>q r<|Zq _ j
  let b:=x9 (s:=s) (d:=r.1) (q r Z2).1 (q r Z2).2;unfold cnt at *;rw[ZS,mU];show y9 06 06
def J6q{a:Nat}(ha:a<WP hss)(k:b∈hss[a]):fZ hss b.1<=a:=by
 unfold fZ;cases e:cE hss b.1 with
 |none=>show jn a
 |some j=>
  let#[_,_,q]:=ux.1 e;change(j:Int)<=a;by_cases l:a<j
  .show absurd (pd.2 #[b,k,decide_eq_true 07])<|q a l
  .show jq.2<|ZM l
noncomputable def qD (rs:Tz)(n:Nat):Tj:=(rs.take n).flatMap λr=>r.2.map (·.1)
def Jww(hn:n<WP rs):qD rs (n+1)=qD rs n++(rs[n]).2.map (·.1):=by unfold qD;rw[o6 hn,List.flatMap_append];simp
def LZ{a w:Nat}(ha:a<WP rs)(F:w<WP rs)(D:b∈(rs[w]).2):fZ (rs.map (·.2)) b.1<=a↔b.1∈qD rs (a+1):=by
 constructor
 .intro h;cases e:cE (rs.map (·.2)) b.1 with|none=>unfold cE at e;rw[uD]at e;let:=e (rs[w]).2 (ZC.2 #[rs[w],Zy F,07]);show absurd (show has b.1 (rs[w]).2=Zl from pd.2 #[b,D,decide_eq_true 07])<|by rw[this];show Zx|some j=>
   let E:fZ (rs.map (·.2)) b.1=(j:Int):=by unfold fZ;rw[e]
   rw[E]at h;let#[u,m,_]:=ux.1 e;rw[Zn]at u;rw[fS]at m;let#[c,k,B]:=pd.1 m;refine yD.2 #[rs[j],o9 (i:=j) (by rw[yq 05,Zd u]),ZC.2 #[c,k,of_decide_eq_true B]]
 .intro h;let#[r,C,k]:=yD.1 h;let#[c,k,B]:=ZC.1 k;let#[j,m,rfl]:=ib.1 C;rw[ic]at m;rw[uL]at k;let u:j<WP rs:=Zb m<|kO _ _;let:=J6q (hss:=rs.map (·.2)) (a:=j) (by rw[Zn];show u) (b:=c)<|by rw[fS];show k
  rw[<-B];lia
def gQ(rs:Tz)(a:Nat)(o:Wg)(t:Int):Int:=bO o+(Jn rs a).3+JO (rs.take a) t
end
section
seal L4.run L4.WS L4.WR
def nM(s:Int)(h:IH)(v:IV):IV:=match Vg "late" v h,Vg "gap" v h,Vg "length" v h with|some (.int l),V (.int g),V (.int n)=>.int<|(if 1<=s then ir (s+l) g else 0)*n|_,_,_=>.ah
def yb(vs:Tv)(v:IV):IV:=match v with|.int n=>(vs[n.toNat]?).getD .ah|_=>.ah
def J1g(vs)(a:Nat)(ha:a<=WP vs):(aR 0 (a:Int)).map (yb vs)=vs.take a:=by
 refine nX λi=>?_
 rw[Zz];by_cases j:i<a
 .let k:i<(aR 0 (a:Int)).length:=by rw[JN];show j
  rw[Zd k,QL,uK,if_pos j,Zd<|show i<WP vs by show Zb j ha];simp![Option.map_some,yb];rw[show((0:Int)+(i:Int)).toNat=i by show nS _ _,Zd<|show i<WP vs by show Zb j ha];rfl
 .rw[qM (by rw[JN];show ZM j),uK,if_neg j];rfl
section
variable{k:Nat}{h:IH}{D a m:Nat}{rs:Tz}{o:Wg}{s:Int}
def Jpd{d:WD}(j:h[w]?=V (.ins "Work"<|fm d.1 d.2 d.3 d.4 d.5 hs)):Cb (k+1) [.ref w,.int s] h=.ok (.bl<|decide (s+d.5<=d.4)) h:=(Ju (by rw[Jo3];show ao<|au<|Jf (aF (aU 07 (aq 07 j kK))<|aq 07 j r8) #[07,07]))
def X8{h h0:IH}{it:I1}{e:E1}{js:Tp}{U:aD}{xs:Tv}{bf:IH->Prop}{f:IV->IV}(k:WR (it U h0) λbB h1=>bB.1=xs/\bB.2=bf/\h1=h)(u:WP xs<sizeLine) (B:∀J:IH,(∀(j:Nat)(ob:IX),h[j]?=V ob->J[j]?=V ob)->bf J) (m:∀x∈xs,∀J:IH,(∀(j:Nat)(ob:IX),h[j]?=V ob->J[j]?=V ob)->WR (e (V x::js.map λj=>(U[j]?).join) J) λv h3=>v=f x/\Ex J h3):∃g,Jy it 1 js (bw 0) JC e U h0=.ok (.ref (WP h)) (h++.lst (xs.map f)::g):=by let#[v,h3,e,rfl,g,rfl]:=(Q0 k u B m).eq;show#[g,e]
def L6(q:cf h D rs)(e:rs[a]?=V r):∃j,h[j]?=V (wo r)/\∀{k:Nat}{o x:E1}{U:aD},o U h=.ok (.ref D) h->x U h=.ok (.int (a:Int)) h->Jm (pg<|k+1) "work" 1 o (Jb x Je) U h=.ok (.ref j) h:=by let#[E,u,w]:=q;let#[j,B,m]:=w.get e;show#[j,m,λC ex=>lU u C ex<|JE B]
def Jpb(ha:a<WP rs)(hd:cf h D rs)(cW:WP rs<=12)(six:∀r∈rs,WP r.2<=6)(j:h[2]?=V (.tab "longest_hold"))(m:qC rs a=oV o):WR (B9 (k+4) [.ref D,.int (a:Int)] h) λv h'=>v=.int (bO o)/\Ex h h':=by rw[Jo2];calc ao<|ae<|ak<|(Xe ..).mpr<|Jf (az 07 07)<|WR.mono (LJ (k:=k) ha hd cW six j) ?_;rintro _ h' ⟨rfl,x⟩;rw[m];cases o with|none=>show au (jG<|Jf (bR<|(aF 07 07).trans 07) #[λ_=>Jf 07 #[07,x],λz=>by cases z])|some p=>show au (jG<|Jf (bR<|(aF 07 07).trans 07) #[(λz=>by cases z),λ_=>Jf (J0 (aj<|aC 07 07 JP)<|LI p.2) #[07,x]])
def Jv7(W:Wk rs a o m)(hm:m<=12)(cW:WP rs<=12)(six:∀r∈rs,WP r.2<=6)(gl:∀r∈rs,r.1.2.natAbs.log2<9000)(q:cf h D rs)(t0:h[2]?=V (.tab "longest_hold"))(eo:qC rs a=oV o)(s1:1<=s)(s2:s<=cU rs a):WR (Ca (k+5) [.ref D,.int (a:Int),.int s] h) λv h'=>v=.int (gQ rs a o s)/\Ex h h':=by
 let R:=J6;let ha:=W.1;let#[u,gD,w]:=id q;let P:=w.1;rw[Jzs];calc ao<|ae<|ak ?_;let G:=@X8 h h (cR Qi<|Jb 'b' Je) (Kk<|k+4) [0] [V<|.ref D,V<|.int (a:Int),V<|.int s,Zg,Zg] (aR 0 (a:Int)) (λ_=>True) (yb u) (by
   rw[Vn];calc Jf (aj 07) ?_;rw[Yd];show#[05,07,07,07]) (by rw[JN];show Zb (Zi _ 999989)<|Zb (Zc (Zb ha cW) 999989) R) (λ_ _=>trivial) (by
   intro x Q J z;let#[n,hn,rfl]:=ib.1 Q;rw[JN]at hn;rw[QL,show(0:Int)+(n:Int)=n by show oF _ _];let hnv:n<WP u:=Z7<|Zb (Zb (Zc hn 1) ha)<|Zh P.symm;let#[j,B,_]:=w.get (Zd<|show n<WP rs by show mL 06 06);calc Jf (lU (z _ _ gD) 07 07 (JE B)) #[?_,.refl _];unfold yb;dsimp only;rw[show(n:Int).toNat=n by rfl,B];rfl)
 rw[J1g u a<|Z7<|Zb ha<|Zh P.symm]at G;generalize Jy _ _ _ _ _ _ _ _=Z at G ⊢;let#[g,rfl]:=G;rw[YV];let I:Ex h (h++IX.lst (u.take a)::g):=.cons _ _ _;let M:(h++IX.lst (u.take a)::g)[WP h]?=V (.lst<|u.take a):=Jw;generalize (WP h)=bA at M ⊢;generalize h++IX.lst (u.take a)::g=F at I M ⊢;let Y:=w.kp I.kp;let it:∀i,i<a->∃j,(u.take a)[i]?=V (.ref j)/\∃H:i<WP rs,F[j]?=V (wo rs[i]):=λi H=>by let#[j,B,C]:=Y.get (Zd<|show i<WP rs by show nR 06 06);show#[j,by rw[uK,if_pos H,B],nR 06 06,C]
 let U:∀{j:Nat}{r:RH}{h':IH},h'[j]?=V (wo r)->nM s h' (.ref j)=.int (cu s r.1*r.1.3):=λe=>by rw[nM,Q9 e,Q9 e,Q9 e,kK,qq,oR];rfl
 calc ae<|ak ?_;let G:=@X8 F F (Jv 'd') (Kl<|k+4) [2] [V<|.ref D,V<|.int (a:Int),V<|.int s,V<|.ref bA,Zg] (u.take a) (λh'=>h'[bA]?=V (.lst<|u.take a)) (nM s F) (by rw[Qn];show Jf 07 ((Qt _).mpr #[_,M,07,07,07])) (by rw[ic];show Zb (Zi _ 999989)<|Zb (Zc (Zb (Zb (Zc (kP _ _) 1) ha) cW) 999989) R) (λJ z=>z _ _ M) (by intro x Q J z;let#[i,H,rfl]:=ib.1 Q;rw[ic]at H;let#[j,B,E,C]:=it i<|Zb H<|kP _ _;rw[Zd<|by rw[ic];omega]at B;rw[eV B,U C];let y4:=gl _<|Zy E;let#[O,y2,y3]:=W.at_ E;let cs:=W.4 i<|Zb H<|kP _ _;let c0:=x9 (s:=s) O y2;let c2:=Yt (d:=Jn rs i) O s1 s2;rw[Qm E]at *;show Jf (fN (J0 (az 07 07)<|LL (z _ _ C) O y4) (aq 07 (z _ _ C) oR)<|.inl 05) #[07,.refl _]);let em:(u.take a).map (nM s F)=((rs.take a).map λr=>cu s r.1*r.1.3).map IV.int:=by
  refine qQ (by simp;show ZW (Nat.le_min.2 #[(kP _ _),(Z7<|Zb (Zc (kP _ _) 1) ha)])<|Nat.le_min.2 #[(kP _ _),(Zb (kO _ _)<|Zh P.symm)]) λi p1 p2=>?_
  rw[Zn,ic]at p1;let#[j,B,E,C]:=it i<|Zb p1<|kP _ _;rw[Zd<|by rw[ic];omega]at B;rw[fS,eV B,U C,fS,fS,uL]
 rw[em]at G;generalize S:Jy _ _ _ _ _ _ _ _=Z at G;let#[g2,rfl]:=G;let L:Ex F (F++IX.lst (((rs.take a).map λr=>cu s r.1*r.1.3).map IV.int)::g2):=.cons _ _ _;calc Jf ((gu<|aj S).trans<|Ju<|(Hr ..).mpr #[_,Jw,_,Vv _,07,07]) ?_;clear S;generalize F++IX.lst (((rs.take a).map λr=>cu s r.1*r.1.3).map IV.int)::g2=J at L ⊢;let q2:=q.kp (I.trans L).kp;let#[_,h3,e3,rfl,X]:=(Jpb (k:=k) ha q2 cW six ((I.trans L).get t0) eo).eq;let#[j,C,wj]:=L6 (q2.kp X.kp)<|Zd ha;show au (Jf (aU (aU (J0 (az 07 07) e3)<|aq (wj 07 07) C oR) 07) #[by rw[gQ,Qm ha];rfl,(I.trans L).trans X])
end
end
section
seal L4.run L4.WS L4.WR
section
variable{k:Nat}{h:IH}{S a m:Nat}{rs:Tz}{o:Wg}
def J0b(W:Wk rs a o m)(h1:1<=s)(le:s<=t):gQ rs a o s<=gQ rs a o t:=by
 let:=D1 h1 le (rs:=rs.take a) λr j=>by let:=W.2 r<|uI j;show#[this.1,05]
 unfold gQ;show yY this _
def An(rs:Tz)(a:Nat)(o:Wg)(v:IV):Prop:=(∃L,v=.int L/\1<=L/\L<=cU rs a/\gQ rs a o L<=L/\∀t,1<=t->t<L->t<gQ rs a o t)\/v=.ah/\∀t,1<=t->t<=cU rs a->t<gQ rs a o t
def An.uniq(x:An rs a o v)(y:An rs a o w):v=w:=by
 rcases x with⟨L,rfl,l1,l2,D,B⟩|⟨rfl,no⟩
 .rcases y with⟨M,rfl,j,k,C,m⟩|⟨rfl,no⟩
  .let:L=M:=by
    by_cases z:L<M
    .let:=m L l1 z;lia
    .by_cases u:M<L
     .let:=B M j u;lia
     .show gU (ZU.1 u)<|ZU.1 z
   rw[this]
  .let:=no L l1 l2;lia
 .rcases y with⟨M,rfl,j,k,C,m⟩|⟨rfl,_⟩
  .let:=no M j k;lia
  .rfl
def Jt4(W:Wk rs a o m)(hm:m<=12)(cW:WP rs<=12)
  (Q:∀(h1:IH)(line:Int)(c:Te),Ex h h1->t [V<|.ref X,V<|.int (a:Int),V<|.int line,c] h1=.ok (decide (line+(Jn rs a).5<=(Jn rs a).4)) h1)
  (H:∀(h1:IH)(line:Int)(c:Te),Ex h h1->1<=line->line<=cU rs a->WR (e [V<|.ref X,V<|.int (a:Int),V<|.int line,c] h1) λv J=>v=.int (gQ rs a o line)/\Ex h1 J):
  WS (Jg (V1 t<|Jg (Jj 3 e)<|Jg (bU (Ji bg<|Jc eM 'd' 'c') (Jk 'c') Jx)<|Jj 2 'd') (Jk<|eC .ah) [V<|.ref X,V<|.int (a:Int),V<|.int 1,Zg] h) N λv h'=>An rs a o v/\Ex h h':=by
 let q1:∀r∈rs.take a,0<r.1.2/\0<=r.1.3:=λr j=>by let:=W.2 r<|uI j;show#[this.1,05]
 let q2:∀r∈rs.take a,0<r.1.2/\0<=r.1.5:=λr j=>by let:=W.2 r<|uI j;show#[this.1,this.2.1]
 let F:∀s,1<=s->s<=cU rs a->cnt (rs.take a) s<=144:=λs S I=>by
  let:=Dr 12 ((rs.take a).map λr=>cu s r.1) λx P=>by let#[r,j,rfl]:=ZC.1 P;let#[n,hn,rfl]:=ib.1 j;rw[ic]at hn;let B:n<WP rs:=Zb hn<|kO _ _;rw[uL];let L:=W.4 n<|Zb hn<|kP _ _;let G:=Yt (d:=Jn rs n) (W.at_ B).1 S I;rw[Qm B]at L G;lia
  rw[Zn,ic]at this;unfold cnt;lia
 calc ae ?_;refine xK (λn U h'=>Ex h h'/\∃(line:Int)(c:Te),U=[V<|.ref X,V<|.int (a:Int),V<|.int line,c]/\1<=line/\(∀t,1<=t->t<line->t<gQ rs a o t) /\
  (line<=cU rs a->1<=n/\(gQ rs a o line=line\/147<=(n:Int)+cnt (rs.take a) line))) ?_ (m:=147) 01 #[.refl _,1,Zg,07,01,λt h1 J=>00,λ_=>#[01,.inr (by let:=LY (s:=1) q2;lia)]]
 rintro n _ h1 ⟨k,line,c,rfl,l1,D,cn⟩;refine Jf (Q h1 line c k)<|eI (λt=>?_) λt=>?_
 .let t:line<=cU rs a:=by let t:line+(Jn rs a).5<=(Jn rs a).4:=t;unfold cU;lia
  let Y:=F line l1 t;let#[O,cn]:=cn t;calc#[n-1,ZW (o4<|Zm _)<|Zh<|o5 O,?_];let#[_,J,R,rfl,E]:=(H h1 line c k l1 t).eq;refine ae<|ak<|Jf R<|ae<|km (C4 07 07) (λM=>au<|Jf 07 #[.inl #[_,07,l1,t,M,D],k.trans E]) λC=>aM<|ak<|Jf 07 #[k.trans E,_,_,07,ZJ<|ZE l1<|cN.1 C,λu u1 u2=>?_,λt2=>?_]
  .by_cases z:u<line
   .show D u u1 z
   .let:=J0b W l1 (show line<=u by show ZU.1 z);show Z8 u2 this
  .let cn:=cn.resolve_left<|i4<|cN.1 C;generalize hn:gQ rs a o line=nx at *;calc#[05,?_];by_cases e:JO (rs.take a) line=JO (rs.take a) nx
   .left;unfold gQ at hn ⊢;lia
   .right;let:=D1 l1 (show line<=nx by show ZJ<|cN.1 C) q1;let:=LX l1 (show line<=nx by show ZJ<|cN.1 C) q1<|vh.2 #[this,e];lia
 .calc au<|Jf 07 #[.inr #[07,λu u1 u2=>D u u1 ?_],k];let t:¬line+(Jn rs a).5<=(Jn rs a).4:=t;unfold cU at u2;lia
def Jpo(W:Wk rs a o m)(hm:m<=12)(cW:WP rs<=12)(six:∀r∈rs,WP r.2<=6)(gl:∀r∈rs,r.1.2.natAbs.log2<9000)(q:cf h S rs)(B:h[2]?=V (.tab "longest_hold"))(D:qC rs a=oV o):
  WR (Xz (k+6) [.ref S,.int (a:Int)] h) λv h'=>An rs a o v/\Ex h h':=by
 rw[Jrh];calc ao<|ae<|ak<|Jf 07 (Jt4 W hm cW (λC _ _ x=>?_) λC _ _ x l1 t=>xb<|Jf (fM 07 07 07)<|Jv7 (k:=k) W hm cW six gl (q.kp x.kp) (x.get B) D l1 t);let#[j,u,E]:=L6 (q.kp x.kp)<|Zd W.1;rw[Qm W.1];show cK<|J0 (az (E 07 07) 07)<|Jpd u
end
end
section
seal L4.run L4.WS L4.WR
def ob(rs:Tz)(a:Nat):Wg:=(LH rs a).choose
theorem YE(rs)(a):qC rs a=oV (ob rs a)/\HO rs a (ob rs a):=(LH rs a).choose_spec
open Classical in
def iV(rs:Tz)(a:Nat):IV:=if h:∃v,An rs a (ob rs a) v then h.choose else .ah
def An.ln(x:An rs a (ob rs a) v):v=iV rs a:=by let h:∃v,An rs a (ob rs a) v:=#[v,x];unfold iV;rw[dif_pos h];show x.uniq h.choose_spec
structure Hw(rs:Tz)(a:Nat)(o:Wg)(m:Nat):Prop where
 w:Wk rs a o m
 hm:m<=12
 je:(JB rs a o).length<64
 dg:(Jn rs a).4<=(Jn rs a).2
structure DF(rs:Tz):Prop where
 w:∀a,a<WP rs->∃m,Hw rs a (ob rs a) m
 cW:WP rs<=12
 six:∀r∈rs,WP r.2<=6
 gl:∀r∈rs,0<r.1.2/\r.1.2.natAbs.log2<9000/\0<=r.1.5
section
variable{k:Nat}{h:IH}{rs:Tz}{D a:Nat}
def DF.dG(F:DF rs)(ha:a<WP rs)(q:cf h D rs)(u:h[2]?=V (.tab "longest_hold")):WR (Xz (k+6) [.ref D,.int (a:Int)] h) λv h'=>v=iV rs a/\An rs a (ob rs a) v/\Ex h h':=by let#[m,W]:=F.w a ha;show WR.mono (Jpo W.w W.2 F.2 F.3 (λr j=>(F.4 r j).2.1) q u (YE rs a).1) λ_ _ x=>#[x.1.ln,x]
def Jzl:∀p:Nat,p<12->(eA<|toString (p:Int)).length<=1000:=by decide +kernel
def Jvw{n p:Nat}(e:h[n]?=V (.exc "NotKept" []))(hp:p<12):w4 (k+1) [.ref n,.int (p:Int)] h=.ok .ah (h.set n<|.exc "NotKept" [("at",.int (p:Int))]):=by
 let G:=J6;let l1:=Jzl p hp;let l0:(eA "the work with number ").length=21:=by decide +kernel
 let l2:(eA " has no answer").length=14:=by decide +kernel
 let m:((p:Int)).natAbs.log2<1920:=by
  let:(p:Int).natAbs.log2<=p:=by rw[Int.natAbs_natCast];show Nat.log2_le_self p
  show Zb (Zb (Zc this 1) hp)<|Zi _ 1908
 let xo:((pg k).xo "NotKept").isSome=Zl:=02;let xf:dh T "at" "NotKept"=Zl:=02;obtain⟨t,u⟩:∃t,lJ [eC<|.str "the work with number ",jT fH 'b',eC<|.str " has no answer"] [V<|.ref n,V<|.int (p:Int)] h=.ok (.str t) h:=by
  let j:jT fH 'b' [V<|.ref n,V<|.int (p:Int)] h=.ok (.str<|toString (p:Int)) h:=by change(if ((p:Int)).natAbs.log2<1920 then Res.ok (IV.str<|toString (p:Int)) h else .stuck)=_;rw[if_pos m]
  generalize D:eA "the work with number "=A at l0;generalize H:eA " has no answer"=B at l2;generalize E:eA (toString (p:Int))=F at l1 j;let q1:(i5++A).length<=sizeLine:=by rw[rr,l0];change 0+21<=_;show kx _ _
  let q2:(i5++A++F).length<=sizeLine:=by rw[rr,rr,l0];change 0+21+_<=_;lia
  let q3:(i5++A++F++B).length<=sizeLine:=by rw[rr,rr,rr,l0,l2];change 0+21+_+14<=_;lia
  calc#[i5++A++F++B,?_];change(if (i5++A).length<=sizeLine then XE [jT fH 'b',eC<|.str B] (i5++A) [V<|.ref n,V<|.int (p:Int)] h else .stuck)=_;rw[if_pos q1];change(jT fH 'b' [V<|.ref n,V<|.int (p:Int)] h).bind _=_;rw[j];change(if (i5++A++F).length<=sizeLine then XE [eC<|.str B] (i5++A++F) [V<|.ref n,V<|.int (p:Int)] h else .stuck)=_;rw[if_pos q2];change(if (i5++A++F++B).length<=sizeLine then XE [] (i5++A++F++B) [V<|.ref n,V<|.int (p:Int)] h else .stuck)=_;rw[if_pos q3];change(if (i5++A++F++B).length<=sizeLine then Res.ok (IV.str _) h else .stuck)=_;rw[if_pos q3]
 let j:VJ (λc=>((pg k).xo c).isSome) (Jb 'a'<|Jb (lJ [eC<|.str "the work with number ",jT fH 'b',eC<|.str " has no answer"]) Je) [V<|.ref n,V<|.int (p:Int)] h=.ok .ah h:=by unfold VJ;rw[az 07 u];change(match h[n]? with|some (.exc c _)=>if ((pg k).xo c).isSome then Res.ok IV.ah h else .stuck|_=>.stuck)=_;rw[e];change(if ((pg k).xo "NotKept").isSome then Res.ok IV.ah h else .stuck)=_;rw[if_pos xo]
 let C:Xt (dh T "at") "at" 'a' 'b' [V<|.ref n,V<|.int (p:Int)] h=.next [V<|.ref n,V<|.int (p:Int)] (h.set n<|.exc "NotKept" [("at",.int (p:Int))]):=by change(match h[n]? with|some (.exc c [])=>if dh T "at" c&&Zl then bS.next _ (h.set n<|.exc c [("at",.int (p:Int))])else .stuck|_=>.stuck)=_;rw[e];change(if dh T "at" "NotKept"&&Zl then _ else bS.stuck)=_;rw[if_pos<|by rw[xf];rfl]
 calc Ju ?_;rw[Jge];calc ao<|ae<|JU<|Jf j ?_;unfold Ke;rw[C,UT];show#[07,07]
def L7(e:m U h=.ok (.ref n) h1)(hn:h1[n]?=V (.exc c fs))(r:rz c=Zl)(y:Y_ n U h1):dC (XT rz m U h) N R Y_:=by unfold XT;rw[Nb,e,J8b];dsimp only;rw[hn];dsimp only;rw[if_pos r];show y
def Jv3(F:DF rs)(q:cf h D rs)(G:h[2]?=V (.tab "longest_hold")):WE (CG (k+7) [.ref D] h) (λv h'=>(∀a,a<WP rs->∃L,iV rs a=.int L)/\∃i,v=.ref i/\h'[i]?=V (.lst<|(Z6 (WP rs)).map<|iV rs)/\Ex h h') λn h'=>∃a,a<WP rs/\(∀t,1<=t->t<=cU rs a->t<gQ rs a (ob rs a) t)/\iV rs a=.ah/\WP h<=n/\h'[n]?=V (.exc "NotKept" [("at",.int (a:Int))])/\Ex h h':=by
 let I:=J6;let cW:=F.2;let#[J,C,w]:=id q;let M:=w.1;rw[Jur];calc Hy ?_;rw[KJ,Vo];calc dC.of<|ak<|Jf (dH 07 07) ?_;rw[KI,Vo,J13];calc WE.of<|(Vn ..).mpr<|Jf (aj<|dk 07 (grow C) sd (X9 _) 07 (XA<|grow C))<|(Yd ..).mpr #[05,?_];refine Jxb (λn U h'=>∃g a b,U=[V<|.ref D,V<|.ref (WP h),a,b]/\h'=h++IX.lst ((Z6 n).map<|iV rs)::g/\∀a,a<n->∃L,iV rs a=.int L) (λ_ _ _ _=>trivial) ?_ ?_ #[[],Zg,Zg,07,07,λa z=>absurd 06<|mQ _]
 .rintro n hn _ _ ⟨g,a,b,rfl,rfl,j⟩;rw[JN]at hn;let m:n<WP rs:=mL 06 06;rw[QL,show(0:Int)+(n:Int)=n by show oF _ _];calc jg 07 ?_;rw[KH,Vo,BX,wZ];let E:Ex h (h++IX.lst ((Z6 n).map<|iV rs)::g):=.cons _ _ _;calc WE.of<|Jf (az 07 07)<|WE.of<|WR.mono (F.dG (k:=k) m (q.kp E.kp)<|E.get G) ?_;rintro v _ ⟨ev,H,u,rfl⟩;rw[Vo,BY];calc WE.of ?_;rw[fQ,fR];rcases H with⟨L,rfl,_⟩|⟨rfl,no⟩
  .calc Jf (bR<|(aF 07 07).trans 07) #[(λz=>by cases z),λ_=>?_];rw[Hx];calc dC.of (JU<|Qo (i:=WP h) 07 Jw Vt (Jf (aj 07)<|gv Jw (by rw[Zn,kz];show Zb (Zi _ 999989)<|Zb (Zc (Zb m cW) 999989) I) ?_));rw[V2];refine#[g++u,_,_,07,?_,λa z=>?_]
   .rw[yG,jl,ZS,<-ev];rfl
   .by_cases e:a=n
    .show#[L,by rw[e];show ev.symm]
    .show j a<|iA (jL (b:=1) z) e
  .calc Jf (bR<|(aF 07 07).trans 07) #[λ_=>?_,λz=>by cases z];let B:Ex h (h++IX.lst ((Z6 n).map<|iV rs)::(g++u)):=.cons _ _ _;generalize h++IX.lst ((Z6 n).map<|iV rs)::(g++u)=h1 at B;calc L7 (n:=WP h1) (c:="NotKept") (fs:=[("at",.int (n:Int))]) (h1:=h1++[.exc "NotKept" [("at",.int (n:Int))]]) ?_ Jr 02 #[#[_,_,Jr],#[_,_,Jr],n,m,no,ev.symm,B.len,Jr,B.trans<|.one _ _];change((w4 (k+6) [.ref (WP h1),.int (n:Int)]<|h1++[.exc "NotKept" []]).bind _)=_;rw[Jvw Jr<|ZO 06 06,VV];rfl
 .rintro _ _ ⟨g,a,b,rfl,rfl,j⟩;rw[JN]at j ⊢;let e:((WP J:Int)-0).toNat=WP rs:=06;rw[e]at j ⊢;show dC.of<|au<|Jf 07 #[j,_,07,Jw,.cons _ _ _]
end
end
section
seal L4.run L4.WS L4.WR
def qE(rs:Tz)(cs:Ua)(p:Nat):Int:=oX rs<|cs.getD p cd
section
variable{k:Nat}{h:IH}
def D3(hd:cf h D rs)(ha:c.1<WP rs):Yg (k+2) [.ref D,ax c] h=.ok (.int<|c.2+(rs[c.1]).1.4) h:=by let#[E,B,w]:=hd;let#[j,u,m]:=w.get<|Zd ha;let C:=JE u;calc Ju ?_;rw[Jri];show ao<|au<|Jf (aU (aC 07 07 JP)<|aq (lU B 07 (aC 07 07 JR) C) m r8) #[07,07]
def L8(hd:cf h D rs)(ha:c.1<WP rs):Yg (k+2) [.ref D,ax c] h=.ok (.int<|oX rs c) h:=by unfold oX;rw[Qr ha];show D3 hd ha
def L9(g:h[i]?=V (.lst xs)):xq (k+1) [.ref i] h=.ok (.ref (WP h)) (h++[.lst xs]):=(Ju (by rw[Jmn];show ao<|au<|jG<|Jf (cK<|jI 07 (by rw[wY g];rfl)) #[λ_=>Jf (xD 07 g) #[07,07],λz=>by cases z]))
abbrev sh(R:Nat)(p d:Int):Wo:=[("row",.ref R),("place",.int p),("turn",.int d)]
def kp0:bL "lines" a ([]:Wo)=([("lines",a)]:Wo):=02
def bk0:bL "row" a ([]:Wo)=([("row",a)]:Wo):=02
def bk1:bL "place" b ([("row",a)]:Wo)=([("row",a),("place",b)]:Wo):=02
def bk2:bL "turn" c ([("row",a),("place",b)]:Wo)=([("row",a),("place",b),("turn",c)]:Wo):=02
def Jr8(g:h1[i]?=V (.lst xs)):WE ((xr (k+2) (.ref (WP h1)::([.ref i]++[]))<|h1++[.ins "Kept" []])) (λr h'=>r=.ah/\∃l,h'[WP h1]?=V (.ins "Kept" [("lines",.ref l)])/\h'[l]?=V (.lst xs)/\Ex h1 h') Z_:=by change WE (xr (k+2) [.ref (WP h1),.ref i]<|h1++[.ins "Kept" []]) _ _;calc WE.of ?_;rw[Jk3];let j:Ex h1 (h1++[IX.ins "Kept" []]++[.lst xs]):=(Ex.one _ _).trans<|.one _ _;calc ao<|Qu (J0 (aj 07)<|L9<|grow g) 07 (grow Jr) 01 #[07,_,?_,J4 Jr 03,Q7 j<|Zm _];rw[kp0];show JW<|grow Jr
def Jql{D R n:Nat}(d:cf h D rs)(g:h[R]?=V (.lst<|cs.map ax))(hn:n<WP cs)(G:(cs.getD n cd).1<WP rs):WR (CJ (k+3) [.ref D,.ref R,.int (n:Int)] h) λv h'=>∃bA R',v=.ref bA/\h'[bA]?=V (.ins "Broken"<|sh R' n<|qE rs cs n)/\h'[R']?=V (.lst<|cs.map ax)/\Ex h h':=by rw[Jk6];calc ao<|au<|(Xx ..).mpr<|Jf (fM 07 07 (J0 (az 07 (aP 07 07 g (X4 hn)))<|L8 d G)) ?_;change WR (CH (k+2) [.ref (WP h),.ref R,.int (n:Int),.int<|qE rs cs n]<|h++[.ins "Broken" []]) _;rw[Jha];generalize qE rs cs n=I;let F:Ex h (h++[IX.ins "Broken" []]++[.lst<|cs.map ax]):=(Ex.one _ _).trans<|.one _ _;let g1:(h++[IX.ins "Broken" []]++[IX.lst<|cs.map ax])[WP h]?=V (.ins "Broken" []):=grow Jr;let B:(h++[IX.ins "Broken" []]++[IX.lst<|cs.map ax])[(h++[IX.ins "Broken" []]).length]?=V (.lst<|cs.map ax):=Jr;let ne:WP h≠(h++[IX.ins "Broken" []]).length:=03;calc ao<|ae<|Qu (J0 (aj 07)<|L9<|grow g) 07 g1 01 ?_;generalize (h++[IX.ins "Broken" []]).length=R' at ne B;rw[bk0];let u:=Q7 (o:=.ins "Broken" [("row",.ref R')]) F<|Zm _;let g2:=JW (o':=.ins "Broken" [("row",.ref R')]) g1;let C:=J4 (o':=.ins "Broken" [("row",.ref R')]) B ne;generalize (h++[IX.ins "Broken" []]++[IX.lst<|cs.map ax]).set (WP h) (.ins "Broken" [("row",.ref R')])=J at u g2 C;calc ae (Qu 07 07 g2 (by change 1<1000;decide) ?_);rw[bk1];let m:=Q7 (o:=.ins "Broken" [("row",.ref R'),("place",.int (n:Int))]) u<|Zm _;let j:=JW (o':=.ins "Broken" [("row",.ref R'),("place",.int (n:Int))]) g2;let E:=J4 (o':=.ins "Broken" [("row",.ref R'),("place",.int (n:Int))]) C ne;generalize J.set (WP h) (.ins "Broken" [("row",.ref R'),("place",.int (n:Int))])=H at m j E;calc Qu 07 07 j (by change 2<1000;decide) #[07,WP h,R',07,?_,J4 E ne,Q7 m<|Zm _];rw[bk2];show JW j
variable{rs:Tz}{D:Nat}
inductive Jd(rs:Tz):IV->IH->Prop|kept {bA l:Nat}{h:IH}(al:∀a,a<WP rs->∃L,iV rs a=.int L) (gV:h[bA]?=V (.ins "Kept" [("lines",.ref l)])) (gl:h[l]?=V (.lst ((Z6 (WP rs)).map (iV rs)))):Jd rs (.ref bA) h|lW {a bA R:Nat}{h:IH}(ha:a<WP rs) (no:∀t,1<=t->t<=cU rs a->t<gQ rs a (ob rs a) t) (e:iV rs a=.ah) (gV:h[bA]?=V (.ins "Broken" (sh R (pre rs a (ob rs a)).length (qE rs (JB rs a (ob rs a)) (pre rs a (ob rs a)).length)))) (gR:h[R]?=V (.lst ((JB rs a (ob rs a)).map ax))):Jd rs (.ref bA) h
def Jvb(F:DF rs)(q:cf h D rs)(H:h[2]?=V (.tab "longest_hold")):WR (CK (k+8) [.ref D] h) λv h'=>Jd rs v h'/\Ex h h':=by
 rw[Jhf];calc ao<|Hz _ _ ?_;rw[J14,J1i,Jw2,wZ];refine WE.of<|Jf (aj 07)<|WE.mono (Jv3 (k:=k) F q H) ?_ ?_
 .rintro _ u ⟨Q,i,rfl,X,B⟩;rw[J1h];refine WE.mono (Jr8 (k:=k+5) X) ?_ λ_ _ z=>z
  rintro _ J ⟨rfl,l,E,gl,j⟩;show#[07,.kept Q E gl,B.trans j]
 .rintro n u ⟨a,ha,L,e,ln,gn,B⟩;calc#[_,_,gn,?_];let#[m,W]:=F.w a ha;rw[HA 02];change WS (Xu 1 _ [V<|.ref D,V<|.ref n,Zg] u) _ _;rw[J1z 07 gn];let j:=Q7 (o:=.i9 "NotKept" [("at",.int (a:Int))]) B ln;let g2:=JW (o':=.i9 "NotKept" [("at",.int (a:Int))]) gn;generalize u.set n (.i9 "NotKept" [("at",.int (a:Int))])=J at j g2;let xf:dh T "at" "NotKept"=Zl:=02;let M:Yw (dh T "at") "at" 'b' [V<|.ref D,V<|.ref n,Zg] J=.ok (.int (a:Int)) J:=by
   change(match J[n]? with|some (.exc c [(g,y)])=>if dh T "at" c&&decide (g=("at":Str))then Res.ok y J else .stuck|some (.i9 c [(g,y)])=>if dh T "at" c&&decide (g=("at":Str))then Res.ok y J else .stuck|_=>.stuck)=_;rw[g2];dsimp only;rw[xf,decide_eq_true 07];rfl
  let#[_,Y,G,R,rfl,l3,P,I]:=(Jpa (k:=k+3) (m:=m) ha (q.kp j.kp) F.2 F.3 F.4 (j.get H) (YE rs a).1 (λp z=>(W.w.p z).2.1) W.2 W.w.4).eq;let C:(pre rs a<|ob rs a).length<(JB rs a<|ob rs a).length:=by rw[Xo,Z1];show ZZ _
  let O:((JB rs a<|ob rs a).length:Int)-1=((pre rs a<|ob rs a).length:Int):=by rw[Xo,Z1];change((_+1:Nat):Int)-1=_;lia
  rw[O]at G;refine ae<|ak<|Jf (J0 (az 07 M) G)<|au<|(Xe ..).mpr<|Jf (fM 07 (aC 07 07 JR) (aC 07 07 JP))<|WR.mono (Jql (k:=k+4) (q.kp (j.trans I).kp) P C ?_) ?_
  .show((LQ W.w).1 _<|by rw[Zk,Zd C];show Zy C).1
  .rintro _ Z ⟨bA,R',rfl,E,S,U⟩;show#[.lW ha L e E S,(j.trans I).trans U]
end
end
def eT(S:Tz)(r:RH)(W:Tz):Prop:=∃s,1<=s/\s+r.1.5<=r.1.4/\r.1.3+JO S s<=s /\ ∀w∈W,∀b∈w.2,(∃t∈r::S,∃c∈t.2,c.1=b.1)->tn b+r.1.3+JO S s<=s
structure d0(r:RH):Prop where
 g:0<r.1.2
 l:1<=r.1.3
 t:0<=r.1.5
 h:∀b∈r.2,0<=tn b/\tn b+1<=r.1.3
def VG(r)(S)(s):JO (r::S) s=cu s r.1*r.1.3+JO S s:=by unfold JO;rw[ZS,mU]
def Joo(p:S.Perm S')(s):JO S s=JO S' s:=by induction p with|nil=>rfl|cons x _ j=>rw[VG,VG,j]|swap x y l=>rw[VG,VG,VG,VG];lia|trans _ _ a b=>rw[a,b]
def eT.perm(p:S.Perm S')(q:W.Perm W')(f:eT S r W):eT S' r W':=by
 let#[s,a,b,c,d]:=f;rw[Joo p]at c d;calc#[s,a,b,c,λw u m k ⟨t,j,e⟩=>d w (q.mem_iff.2 u) m k #[t,?_,e]];rcases ZG.1 j with rfl|j
 .show Z2
 .show Zq _<|p.mem_iff.2 j
def Jy8(h1:1<=s)(j:0<d.2)(k:0<=d.5):1<=cu s d:=by unfold cu ir;rw[if_pos h1];show(vg j).2 05
def eT.lower(j:d0 x)(f:eT (x::S) r W):eT S r (x::W):=by
 let#[s,a,b,c,d]:=f;let D:=Jy8 a j.g j.t;let E:=j.l;let m:x.1.3<=cu s x.1*x.1.3:=by let:=vd D (show 0<=x.1.3 by show ZJ 06);lia
 rw[VG]at c;calc#[s,a,b,05,λw u C B ⟨t,k,e⟩=>?_];rcases ZG.1 u with rfl|u
 .let:=(j.h C B).2;lia
 .let:=d w u C B #[t,by
   rcases ZG.1 k with rfl|k
   .show Z2
   .show Zq _<|Zq _ k,e]
  rw[VG]at this;lia
theorem eT.lowers:∀(X:Tz){W:Tz},(∀x∈X,d0 x)->eT (X++S) r W->eT S r (X++W)|[],_,_,f=>f|x::X,W,hx,f=>by let f1:=eT.lower (S:=X++S) (hx x Z2) f;let k:=eT.lowers X (W:=x::W) (λy j=>hx y<|Zq _ j) f1;show k.perm (.refl _) yE
def Qh:Tz->Tz->Prop|_,[]=>True|S,r::W=>eT S r W/\Qh (S++[r]) W
theorem Qh.at_:∀{W S:Tz},Qh S W->∀(A B:Tz)(r:RH),W=A++r::B->eT (S++A) r B|_,S,h,[],B,r,e=>by subst e;rw[iC];show h.1|_,S,h,a::A,B,r,e=>by subst e;let:=Qh.at_ (W:=A++r::B) (S:=S++[a]) h.2 A B r 07;rw[fQ]at this;show this
theorem Ma:∀{W S:Tz},(∀(A B:Tz)(r:RH),W=A++r::B->eT (S++A) r B)->Qh S W|[],_,_=>trivial|w::W,S,h=>#[by let:=h [] W w 07;rwa [iC]at this,Ma λA B r e=>by
  let:=h (w::A) B r<|by rw[e];rfl
  rwa [fQ]]
theorem Qh.above(p:S.Perm S'):∀{W:Tz},Qh S W->Qh S' W|[],_=>trivial|_::_,h=>#[h.1.perm p<|.refl _,Qh.above (p.append<|.refl _) h.2]
def Jtg{o left below:Tp}(S:∀a∈o,d0<|f a)(ho:o.Perm<|left++below)(nd:o.Nodup)(ne:left≠[])
  (all:Qh []<|o.map f):∃a∈left,eT ((left.filter λb=>decide (b≠a)).map f) (f a) (below.map f):=by
 let H:∀(A B:Tp),o=A++B->(∃a∈A,a∈left)->(∀b∈B,b∉left)->∃X a U,o=X++a::U/\a∈left/\∀b∈U,b∉left:=by
  intro A;induction hn:WP A generalizing A with|zero=>rintro B e ⟨a,ha,_⟩;rw[qL.1 hn]at ha;cases ha|succ n ih=>
   intro B e Z F;let ne:A≠[]:=λz=>by rw[z]at hn;cases hn
   obtain⟨A1,x,rfl⟩:∃A1 x,A=A1++[x]:=#[_,_,(Eg ne).symm];by_cases m:x∈left
   .show#[A1,x,B,by rw[e,fQ];rfl,m,F]
   .refine ih A1 (by rw[Z1]at hn;show Nat.succ.inj hn) (x::B) (by rw[e,fQ];rfl) ?_ λb E=>?_
    .let#[a,ha,M]:=Z;rcases ZQ.1 ha with ha|ha
     .show#[a,ha,M]
     .rw[ZB.1 ha]at M;show absurd M m
    .rcases ZG.1 E with rfl|E
     .show m
     .show F b E
 let#[a0,G]:=Ej _ ne;let#[A,a,B,e,ha,F]:=H o [] (iC _).symm #[a0,ho.mem_iff.2<|iZ _ G,G] (λb E=>by cases E);calc#[a,ha,?_];let C:(left++below).Nodup:=ho.nodup_iff.1 nd;let j:=nd;rw[e]at j S;let I:∀x,x∈left->x∉below:=λx k J=>(kQ.1 C).2.2 x k x J 07
 let P:left.Nodup:=(kQ.1 C).1;let L:below.Nodup:=(kQ.1 C).2.1;let u:A.Nodup:=(kQ.1 j).1;let Q:a∉A:=λz=>(kQ.1 j).2.2 a z a Z2 07
 let anB:a∉B:=(mT.1 (kQ.1 j).2.1).1;let O:B.Nodup:=(mT.1 (kQ.1 j).2.1).2;let D:∀x,x∈A->x∉B:=λx k J=>(kQ.1 j).2.2 x k x (Zq _ J) 07
 let mo:∀x,(x∈A\/x=a\/x∈B)↔(x∈left\/x∈below):=λx=>by let:=ho.mem_iff (a:=x);rw[e,ZQ,ZG,ZQ]at this;show this
 let fit:=all.at_ (A.map f) (B.map f) (f a)<|by rw[e,jl,ZS]
 rw[kC]at fit
 -- A: those that are left,and those that are not
 let p1:(A.filter (λx=>decide (x∉left))++left.filter λb=>decide (b≠a)).Perm A:=by
  refine(uB ?_ u).2 λx=>?_
  .calc kQ.2 #[u.filter _,P.filter _,λx k y J z=>?_];subst z;show of_decide_eq_true (eZ.1 k).2 (eZ.1 J).1
  .simp only[ZQ,eZ,decide_eq_true_eq];constructor
   .rintro(h|⟨k,J⟩)
    .show h.1
    .rcases(mo x).2 (.inl k)with h|h|h
     .show h
     .show absurd h J
     .show absurd k<|F x h
   .intro h;by_cases m:x∈left
    .show .inr #[m,λz=>Q<|z▸h]
    .show .inl #[h,m]
 let Y:(A.filter (λx=>decide (x∉left))++B).Perm below:=by
  refine(uB ?_ L).2 λx=>?_
  .calc kQ.2 #[u.filter _,O,λx k y J z=>?_];subst z;show D x (eZ.1 k).1 J
  .simp only[ZQ,eZ,decide_eq_true_eq];constructor
   .rintro(⟨k,J⟩|h)
    .show((mo x).1<|.inl k).resolve_left J
    .show((mo x).1<|.inr<|.inr h).resolve_left<|F x h
   .intro h;let m:x∉left:=λz=>I x z h
    rcases(mo x).2 (.inr h)with h|h|h
    .show .inl #[h,m]
    .rw[h]at m;show absurd ha m
    .show .inr h
 let W:=fit.perm ((p1.map f).symm)<|.refl _;rw[jl]at W;let R:=W.lowers _ λx m=>by let#[y,hy,rfl]:=ZC.1 m;show S y<|iZ _ (eZ.1 hy).1
 rw[<-jl]at R;show R.perm (.refl _)<|Y.map f
section
seal L4.run L4.WS L4.WR
def Mb(B:∀x∈rs,d0 x):0<=bO (ob rs a)/\∀p∈dJ rs a (WP rs-(a+1)),tn p.2<=bO (ob rs a):=by let#[_,ho]:=YE rs a;unfold HO at ho;cases k:ob rs a with|none=>rw[k]at ho;show#[ZD _,λp u=>by rw[ho]at u;cases u]|some p=>rw[k]at ho;let#[C,J,j,_]:=xY ho.1;let m:p.1<WP rs:=00;rw[Qr m]at j;show#[((B _<|Zy m).h _ j).1,ho.2]
def J6e(e:rs[a]?=V r)(P:∀x∈rs,d0 x):bO (ob rs a)<=y↔0<=y/\∀w∈rs.drop (a+1),∀b∈w.2,(∃t∈r::rs.take a,∃c∈t.2,c.1=b.1)->tn b<=y:=by
 let ha:a<WP rs:=(Zp.1 e).1;let O:rs[a]=r:=(Zp.1 e).2;let E:∀b:Hd,b.1∈qD rs (a+1)↔∃t∈r::rs.take a,∃c∈t.2,c.1=b.1:=λb=>by
  rw[Jww ha,O];unfold qD;rw[ZQ,yD,ZC];constructor
  .rintro(⟨t,m,q⟩|⟨c,B,q⟩)
   .let#[c,B,q]:=ZC.1 q;show#[t,Zq _ m,c,B,q]
   .show#[r,Z2,c,B,q]
  .rintro⟨t,m,c,B,q⟩;rcases ZG.1 m with rfl|m
   .show .inr #[c,B,q]
   .show .inl #[t,m,ZC.2 #[c,B,q]]
 let mem:∀p:Nat×Hd,p∈dJ rs a (WP rs-(a+1))↔∃w,∃j:w<WP rs,a<w/\p.1=w/\p.2∈(rs[w]).2/\p.2.1∈qD rs (a+1):=λp=>by
  constructor
  .intro M;let#[u,J,k,C]:=xY M;let j:p.1<WP rs:=Zb J<|iW ha<|Zm _;rw[Qr j]at k;show#[p.1,j,u,07,k,(LZ ha j k).1 C]
  .rintro⟨w,j,u,J,k,C⟩;let#[p1,R]:=p;cases J;show xZ u (by rw[Qr j];show k) ((LZ ha j k).2 C)<|Zb j<|Zh (mK ha).symm
 let#[_,ho]:=YE rs a;let b0:=Mb (a:=a) P;constructor
 .intro F;calc#[by let:=b0.1;show ZH this F,λw D b H m=>?_];let#[i,G,rfl]:=ib.1 D;rw[sx]at G;rw[List.getElem_drop]at H;let:=b0.2 (a+1+i,b)<|(mem _).2 #[a+1+i,Nat.add_lt_of_lt_sub' G,Zi _ _,07,H,(E b).2 m];show ZH this F
 .rintro⟨L,Q⟩;unfold HO at ho;cases I:ob rs a with|none=>show L|some p=>rw[I]at ho;let#[w,j,u,_,k,C]:=(mem p).1 ho.1;show Q _ (ib.2 #[w-(a+1),by rw[sx];show Nat.sub_lt_sub_right u j,by rw[List.getElem_drop];congr 1;show mK u]) _ k<|(E _).1 C
def Mc(e:rs[a]?=V r)(m:∀x∈rs,d0 x):eT (rs.take a) r (rs.drop<|a+1)↔∃s,1<=s/\s<=cU rs a/\gQ rs a (ob rs a) s<=s:=by
 let ha:a<WP rs:=(Zp.1 e).1;let C:(rs[a]).1=r.1:=by rw[(Zp.1 e).2]
 unfold eT gQ cU;rw[Qm ha,C];refine exists_congr λs=>and_congr_right λ_=>?_
 let:=J6e (y:=s-r.1.3-JO (rs.take a) s) e m;constructor
 .rintro⟨u,j,J⟩;let:=this.2 #[by(rw[Int.sub_sub];show sT j),λw q1 b q2 q3=>by let:=J w q1 b q2 q3;lia];show#[05,00]
 .rintro⟨u,j⟩;let#[q1,q2]:=this.1 05;show#[05,00,λw p1 b B k=>by let:=q2 w p1 b B k;lia]
def An.fit(x:An rs a (ob rs a) v)(e:rs[a]?=V r)(B:∀x∈rs,d0 x):(v=.ah/\¬eT (rs.take a) r (rs.drop<|a+1))\/((∃x,v=.int x)/\eT (rs.take a) r (rs.drop<|a+1)):=by
 rw[Mc e B];rcases x with⟨L,rfl,l1,l2,m,_⟩|⟨rfl,no⟩
 .show .inr #[#[L,07],L,l1,l2,m]
 .show .inl #[07,λ⟨s,k,u,j⟩=>by let:=no s k u;show cN.2 this j]
end
section
seal L4.run L4.WS L4.WR
abbrev ni(l:Tp):Tv:=(l.map λn:Nat=>(n:Int)).map IV.int
def pk(rs:Tz)(os:Tp):Tz:=os.map λn=>rs.getD n rd
def Jv5(rs):pk rs (Z6 (WP rs))=rs:=by
 refine nX λi=>?_
 by_cases j:i<WP rs
 .simp[pk,j,Zk]
 .simp[pk,j]
def Md{os:Tp}(p:os.Perm<|Z6 (WP rs)):(pk rs os).Perm rs:=by
 let:=p.map λn=>rs.getD n rd
 rw[show(Z6 (WP rs)).map (λn=>rs.getD n rd)=rs from Jv5 rs]at this;show this
structure nN(unit:Int)(r:RH):Prop where
 g1:unit<=r.1.2
 g2:r.1.2<=8*unit+4
 l1:1<=r.1.3
 l2:r.1.3<=r.1.2+1
 d1:1<=r.1.4
 d2:r.1.4<=r.1.2
 t1:0<=r.1.5
 t2:4*r.1.5<=r.1.2
 ok:jJ r.1.3 r.2
structure Dw(unit:Int)(rs:Tz):Prop where
 u1:1<=unit
 u2:unit<=1000000000000000
 f:∀r∈rs,nN unit r
 l:WP rs<=5
 nd:(rs.map λr=>r.1.1).Nodup
section
variable{unit:Int}{rs:Tz}
def Dw.perm(q:Dw unit rs)(p:rs.Perm rs'):Dw unit rs':=(#[q.1,q.2,λr h=>q.f r<|p.mem_iff.2 h,p.length_eq▸q.l,(p.map _).nodup_iff.1 q.5])
def Dw.w(q:Dw unit rs):∀r∈rs,d0 r:=(λr j=>by let f:=q.f r j;let u:=f.1;let u1:=q.1;calc#[Z8 06 06,f.3,f.7,λb k=>?_];let#[_,J,m,B]:=f.9.2 b k;unfold tn;lia)
def Dw.gl(q:Dw unit rs):∀r∈rs,0<r.1.2/\r.1.2.natAbs.log2<9000/\0<=r.1.5:=(λr j=>by
 let f:=q.f r j;let m:=f.1;let u:=f.2;let u1:=q.1;let u2:=q.2;let k:(9000000000000000:Int)<=10^60:=by decide +kernel
 calc#[Z8 06 06,Jvf (b:=10^60) ?_ (by decide +kernel),f.7];let e:(9000000000000000:Nat)<=10^60:=by decide +kernel
 show Zb 05 e)
def Dw.ui(q:Dw unit rs)(m:r∈rs)(j:r'∈rs)(hs:s<=r'.1.4):cu s r.1<=12:=by
 let f:=q.f r m;let B:=f.1;let C:=f.8;let k:=q.f r' j;let u:=k.2;let D:=k.6;let u1:=q.1;unfold cu;split
 .show Dq 05 05
 .decide
def Dw.uj(q:Dw unit rs):xH (rs.map (·.1))<=80:=by
 let C:gy (rs.map (·.1))<=8*unit+4:=by
  let u1:=q.1;unfold gy;split
  .lia
  .rename_i m;refine Hu _ _ _ (by rw[Zn,Zn];cases rs with|nil=>show absurd 07 m|cons _ _=>simp) λj k=>?_
   rw[Zn,Zn]at k;let e:((rs.map (·.1)).map (·.4)).getD j 0=(rs[j]).1.4:=by rw[Zk,Zz,Zz,Zd k];rfl
   change((rs.map (·.1)).map (·.4)).getD j 0<=_;rw[e];let f:=q.f _<|Zy k;show ZH f.6 f.2
 let:=Dr 13 ((rs.map (·.1)).map λd=>ir (gy (rs.map (·.1))+d.5) d.2) λx B=>by let#[d,hd,rfl]:=ZC.1 B;let#[r,u,rfl]:=ZC.1 hd;let f:=q.f r u;let E:=f.1;let D:=f.8;let u1:=q.1;show Dq (Z8 06 06) 05
 rw[Zn,Zn]at this;let l:=q.l;unfold xH;lia
def Dw.df(q:Dw unit rs):DF rs:=by
 let l:=q.l;calc#[λa ha=>#[12,?_],kr 06,λr j=>(q.f r j).9.1,q.gl];let u1:=q.1;let m:rs[a]?=V rs[a]:=Zd ha;let k:=q.f _<|Zy ha;let W:Wk rs a (ob rs a) 12:=by calc#[ha,λr j=>#[(q.gl r j).1,(q.f r j).7,(q.f r j).3,(q.f r j).9],(YE rs a).2,λn hn=>?_];let:=q.ui (Zy<|show n<WP rs by show nR 06 06) (Zy ha) (s:=cU rs a) (by let:=k.7;unfold cU;rw[Qm ha];show vj _ this);rw[Qm 05];lia
 calc#[W,01,?_,by rw[Qm ha];show k.6];let u:=DS (T:=tO rs a<|ob rs a) W.4 a<|Zm _;let J:(lC rs (tO rs a<|ob rs a)<|ob rs a).length<=1:=by cases ob rs a with|none=>show ZX _|some p=>show Zm _
 rw[JB,Z1,Z1,x8];lia
end
structure ji(h:IH)(D:Nat)(rs:Tz)(unit:Int):Prop where
 d:cf h D rs
 t:h[2]?=V (.tab "longest_hold")
 q:Dw unit rs
def ji.kp(k:Kp h h')(d:ji h D rs unit):ji h' D rs unit:=(#[d.d.kp k,k _ _ d.t,d.q])
section
variable{k:Nat}{h:IH}{unit:Int}{rs:Tz}
def Me(hi:h[i]?=V (.lst vs))(w:cQ h vs rs)(t:h[2]?=V (.tab "longest_hold"))(q:Dw unit rs):WR (QF (k+3) [.ref (WP h),.ref i]<|h++[.ins "Duty" []]) λv h'=>v=.ah/\Ex h h'/\ji h' (WP h) rs unit:=by let m:=q.l;calc WR.mono (Jq3 hi w.w (by rw[fY];show q.5) (by rw[Zn];show kr 06) (λd hd=>by let#[r,j,rfl]:=ZC.1 hd;show#[(q.gl r j).1,(q.gl r j).2.1]) q.uj) ?_;rintro _ _ ⟨rfl,g,rfl⟩;show#[07,.cons _ _ _,#[vs,Jw,w.kp (Ex.cons _ _ _).kp],(Ex.cons _ _ _).get t,q]
def yc{ls:To}(e:h[i]?=V (.lst<|ls.map .int)):toD h (n+1) (.ref i)=V (.list<|ls.map PyData.int):=by
 rw[J1c e];let:∀ls:To,(ls.map IV.int).mapM (toD h n)=V (ls.map PyData.int):=by
  intro ls;induction ls with|nil=>rfl|cons a r j=>
   let e:toD h n (.int a)=V (.int a):=by cases n<;>rfl
   rw[ZS,yH,e,j];rfl
 rw[this];rfl
theorem yd:∀as:To,vB (as.map PyData.int)=Zl|[]=>07|_::r=>by rw[ZS,vB,yd r];simp[pG]
def J33{ls:To}(hi:h[i]?=V (.lst<|ls.map .int))(k:h[j]?=V (.lst<|ls.map .int)):jz (.ref i) (.ref j) h=.ok (.bl Zo) h:=(J32 (yc hi) (yc k) (by rw[pG];show yd ls))
def Jtc{os:Tp}(p:os.Perm<|Z6 n):XW (os.map λn:Nat=>(n:Int))=(Z6 n).map λn:Nat=>(n:Int):=by calc(Gq ((p.map _).symm) ?_).symm;rw[yz];show List.pairwise_le_range.imp λh=>jq.2 h
def J4q(m:Nat):aR 0 (m:Int)=ni (Z6 m):=by rw[VT];simp
def ye(j:a U h=.ok (.ref i) h1)(hi:h1[i]?=V (.lst<|ni l)):WR (Jv a U h) λbB J=>bB.1=ni l/\bB.2=(λh'=>h'[i]?=V (.lst<|ni l))/\J=h1:=by rw[Qn];show Jf j<|(Qt _).mpr #[_,hi,07,07,07]
def D5{n:Nat}(e:a U h=.ok (.int (n:Int)) h1)(l:n<=1000):oS (Jb a Je) U h=.ok (.ref (WP h1)) (h1++[.lst<|ni<|Z6 n]):=by calc Ju ?_;rw[J8d];calc Jf (aj e) #[_,07,05,?_];rw[J4q];show#[07,07]
def uk(vs:Tv)(v:IV):IV:=match v with|.int n=>vs.getD n.toNat .ah|_=>.ah
def Mf{os:Tp}(w:cQ h' vs rs)(p:os.Perm<|Z6 (WP rs)):cQ h' ((ni os).map<|uk vs) (pk rs os):=by
 let m:=w.1;calc#[by simp[pk],λi v r a b=>?_];let k:i<WP os:=by let:=(Zp.1 b).1;simpa[pk]using this
 let ho:os[i]<WP rs:=ig.1<|p.mem_iff.1<|Zy k;let j:os[i]<WP vs:=Zb ho<|Zh m.symm;rw[pk,Zz,Zd k]at b;rw[Zz,Zz,Zz,Zd k]at a;let u:rs[os[i]]?=V r:=by rw[<-eV b];change _=V (rs.getD os[i] rd);rw[Zk,Zd ho];rfl
 let ev:vs[os[i]]?=V v:=by rw[<-eV a];change _=V (vs.getD (os[i]:Int).toNat .ah);rw[jP,Zk,Zd j];rfl
 show w.2 os[i] v r ev u
def Mg{os:Tp}(d:ji h D rs unit)(C:h[bC]?=V (.lst<|ni os))(p:os.Perm<|Z6 (WP rs)):WR (Cz (k+4) [.ref D,.ref bC] h) λv h'=>∃X,v=.ref X/\Ex h h'/\ji h' X (pk rs os) unit:=by
 let Q:=J6;let#[G,W,w]:=id d.d;let cW:=d.q.l;let U:=w.1;let lo:WP os=WP rs:=by rw[p.length_eq,kz]
 let ln:(ni os).length=WP os:=by rw[Zn,Zn]
 let#[g,S]:=@X8 h h (Jv 'b') (KC<|k+3) [] [V<|.ref D,V<|.ref bC] (ni os) (λh'=>h'[bC]?=V (.lst<|ni os)) (λ_=>.bl Zl) (ye 07 C) (by show Zb (Zi _ 999995)<|Zb (Zc (Zb (Zb (Zc (Zh ln) 1)<|Zc (Zh lo) 1)<|Zc cW 1) 999995) Q) (λJ q=>q _ _ C) (λv I J _=>by let#[a,ha,rfl]:=ZC.1 I;show Jf (J0 (aj 07)<|C9 (k:=k+2) a) #[07,.refl _]);let F:Ex h (h++IX.lst ((ni os).map λ_=>.bl Zl)::g):=.cons _ _ _;let P:=(gu (f:=bx allI)<|aj S).trans<|all_map (f:=λ_=>Zl) (i:=WP h) Jw;rw[show((ni os).all λ_=>Zl)=Zl by simp]at P;generalize h++IX.lst ((ni os).map λ_=>.bl Zl)::g=m at F P;clear S;let L:=F.get C;let es:XX (.ref bC) m=.ok (.ref (WP m)) (m++[.lst<|ni<|Z6 (WP rs)]):=by dsimp only[XX];rw[L];dsimp only;rw[if_pos (by show Zb (Zb (Zb (Zc (Zh ln) 1)<|Zc (Zh lo) 1)<|Zc cW 1)<|Zi _ 58),pY,Vv];dsimp only;rw[Jtc p]
 let R:Ex m (m++[IX.lst<|ni<|Z6 (WP rs)]):=.one _ _;let B:=R.get<|F.get W;let e0:Jm (pg<|k+3) "size" 0 'a' Je [V<|.ref D,V<|.ref bC] (m++[IX.lst<|ni<|Z6 (WP rs)])=.ok (.int (WP rs:Int)) (m++[IX.lst<|ni<|Z6 (WP rs)]):=by show(dk 07 B sd (X9 _) 07 (XA B)).trans<|by rw[U]
 let e3:=D5 e0<|by show kr 06
 let Y:Ex (m++[IX.lst<|ni<|Z6 (WP rs)]) (m++[IX.lst<|ni<|Z6 (WP rs)]++[IX.lst<|ni<|Z6 (WP rs)]):=.one _ _;rw[Jd4];calc ao (ae<|bE (r7 (c3<|cK<|jI (v:=.ref bC) (dG:=Xg) (b:=Zl) 07 (by rw[wY C];rfl))<|c3<|cK P)<|aM<|ae<|bE (bR<|(aF ((gu<|aj 07).trans es) e3).trans<|J33 (Y.get Jr) Jr)<|aM ?_);let j:=(F.trans R).trans Y;generalize m++[IX.lst<|ni<|Z6 (WP rs)]++[IX.lst<|ni<|Z6 (WP rs)]=H at j;let u:=j.get C;let O:=j.get W;let#[g4,Z]:=@X8 H H (Jv 'b') (KD<|k+3) [0] [V<|.ref D,V<|.ref bC] (ni os) (λh'=>h'[bC]?=V (.lst<|ni os)) (uk G) (ye 07 u) (by show Zb (Zi _ 999995)<|Zb (Zc (Zb (Zb (Zc (Zh ln) 1)<|Zc (Zh lo) 1)<|Zc cW 1) 999995) Q) (λJ q=>q _ _ u) (λv I J q=>by
  let#[a,ha,rfl]:=ZC.1 I;let#[n,hn,rfl]:=ZC.1 ha;let E:n<WP G:=by rw[U];show ig.1<|p.mem_iff.1 hn
  calc Jf (aC (aq 07 (q _ _ O) r9) 07 (JE<|Zd E)) #[?_,.refl _];change _=G.getD (n:Int).toNat .ah;rw[jP,Zk,Zd E];rfl)
 let M:Ex H (H++IX.lst ((ni os).map<|uk G)::g4):=.cons _ _ _;calc au<|(Xx ..).mpr<|Jf (aj Z)<|WR.mono (Me (k:=k) (unit:=unit) Jw (Mf (w.kp (j.trans M).kp) p) ((j.trans M).get d.t)<|d.q.perm (Md p).symm) ?_;rintro _ h5 ⟨rfl,x5,d5⟩;show#[07,_,07,(j.trans M).trans x5,d5]
end
end
section
seal L4.run L4.WS L4.WR
def pV(p:Nat->Bool)(v:IV):Bool:=match v with|.int n=>p n.toNat|_=>Zo
theorem Mh(p):∀l:Tp,((ni l).filter<|pV p).map (λv=>v)=ni (l.filter p)
 |[]=>07
 |a::l=>by
  let j:=Mh p l;change((IV.int (a:Int)::ni l).filter<|pV p).map (λv=>v)=ni ((a::l).filter p);let e:pV p (.int (a:Int))=p a:=07;cases q:p a with
  |true=>rw[uF (by rw[e];show q),uF (by show q),ZS,j];rfl
  |false=>rw[uG (by rw[e,q];decide),uG (by rw[q];decide),j]
def J6m{h h0:IH}{it:I1}{t:T1}{e:E1}{js:Tp}{U:aD}{l:Tp}{bf:IH->Prop}(p)(m:WR (it U h0) λbB h1=>bB.1=ni l/\bB.2=bf/\h1=h)(E:WP l<=12)(D:∀J:IH,Kp h J->bf J) (u:∀n∈l,∀J:IH,Kp h J->t (V (.int (n:Int))::js.map λj=>(U[j]?).join) J=.ok (p n) J)(C:∀(n:Nat)(s:aD)(J:IH),e (V (.int (n:Int))::s) J=.ok (.int (n:Int)) J):∃g,Jy it 1 js (bw 0) t e U h0=.ok (.ref (WP h)) (h++.lst (ni<|l.filter p)::g):=by
 let B:=J6;let#[v,F,q,rfl,g,rfl]:=(YU (p:=pV p) (f:=λv=>v) m (by rw[Zn,Zn];show Zb (Zi _ 999988)<|Zb (Zc (Zc E 1) 999988) B) D (λx k J z=>by
  let#[a,ha,rfl]:=ZC.1 k;let#[n,hn,rfl]:=ZC.1 ha;show Jf (u n hn J z) #[07,.refl _]) (λx k _ J z=>by
  let#[a,ha,rfl]:=ZC.1 k;let#[n,hn,rfl]:=ZC.1 ha;show Jf (C n _ J) #[07,.refl _])).eq
 rw[Mh]at q;show#[g,q]
theorem neE{i j:Nat}(k:a U h=.ok (.int (i:Int)) h1)(m:b U h1=.ok (.int (j:Int)) J):Ji bg (Jc jz a b) U h=.ok (decide (i≠j)) J:=(bR<|aF k m).trans (by
 change Res.ok (!decide ((i:Int)=j)) J=_;congr 1;by_cases q:i=j
 .simp[q]
 .simp[q,show ¬(i:Int)=j by lia])
def Jvn(p:(left++weak).Perm<|Z6 n)(j:left.Nodup)(ha:a∈left):((left.filter λb=>decide (b≠a))++a::weak).Perm (Z6 n):=by
 calc yE.trans<|.trans ?_ p;rw[<-fR];refine List.Perm.append_right weak<|(uB (mT.2 #[λz=>?_,j.filter _]) j).2 λx=>?_
 .show of_decide_eq_true (eZ.1 z).2 07
 .simp only[ZG,eZ,decide_eq_true_eq];constructor
  .rintro(rfl|z)
   .show ha
   .show z.1
  .intro z;by_cases q:x=a
   .show .inl q
   .show .inr #[z,q]
section
variable{k:Nat}{h:IH}{D L W a:Nat}{rs:Tz}{unit:Int}{left weak:Tp}
def Jp8{r:RH}(d:ji h D rs unit)(e:rs=A++r::B)(hn:n=WP A):WR (Xz (k+6) [.ref D,.int (n:Int)] h) λv h'=>((v=.ah/\¬eT A r B)\/((∃x,v=.int x)/\eT A r B))/\Ex h h':=by subst e hn;calc WR.mono (d.q.df.dG (k:=k) (a:=WP A) 03 d.d d.t) ?_;rintro v h' ⟨_,j,x⟩;let:=j.fit (r:=r) 03 d.q.w;show#[by simpa using this,x]
def J3z(d:ji h D rs unit)(Y:h[L]?=V (.lst<|ni left))(hW:h[W]?=V (.lst<|ni weak))(p:(left++weak).Perm<|Z6 (WP rs))(nl:left.Nodup)(ha:a∈left):WR (Cd (k+7) [.ref D,.ref L,.ref W,.int (a:Int)] h) λv h'=>(∃b,v=.bl b/\(b=Zl↔eT (pk rs<|left.filter λb=>decide (b≠a)) (rs.getD a rd) (pk rs weak)))/\Ex h h':=by
 let hb:=J6;let M:=d.q.l;let P:WP left+WP weak=WP rs:=by rw[<-Z1,p.length_eq,kz]
 let Q:=o8 (λb=>decide (b≠a)) left;let#[g,R]:=@J6m h h (Jv 'b') (Kn<|k+6) (Km<|k+6) [3] [V<|.ref D,V<|.ref L,V<|.ref W,V<|.int (a:Int),Zg] left (λh'=>h'[L]?=V (.lst<|ni left)) (λb=>decide (b≠a)) (ye 07 Y) (Zb (Zb (Zb (Zi _ _)<|Zh P) M)<|Zi _ 7) (λJ q=>q _ _ Y) (λn _ J _=>neE 07 07) λn s J=>07
 rw[Jd6];calc ao<|ae<|ak<|Jf R<|au ?_;clear R;generalize I:left.filter (λb=>decide (b≠a))=st at Q ⊢;let C:Ex h (h++IX.lst (ni st)::g):=.cons _ _ _;let F:(h++IX.lst (ni st)::g)[WP h]?=V (.lst<|ni st):=Jw;generalize (WP h)=S at F ⊢;generalize h++IX.lst (ni st)::g=j at C F ⊢;let d1:=d.kp C.kp;let#[vs,gD,_]:=d1.d;let m:(ni st).length=WP st:=by rw[Zn,Zn]
 let G:(ni weak).length=WP weak:=by rw[Zn,Zn]
 let E:Ex j (j++[IX.lst [IV.int (a:Int)]]++[IX.lst<|ni st++[IV.int (a:Int)]]++[IX.lst<|ni st++[IV.int (a:Int)]++ni weak]):=((Ex.one _ _).trans<|.one _ _).trans<|.one _ _;let H:=nL (U:=[V<|.ref D,V<|.ref L,V<|.ref W,V<|.int (a:Int),V<|.ref S]) (b:=Ja 2) (nL (a:=Ja 4) 07 (dH (aj (a:=Ja 3) 07) 07) (grow F) Jr (by rw[m];change _+1<=_;show Zb (Zb (Zb (Zb (Zc Q 1)<|Zc (Zi _ _) 1)<|Zc (Zh P) 1)<|Zc M 1)<|Zi _ 994)) 07 Jr (grow<|grow<|C.get hW) (by rw[Z1,m,G];change _+1+_<=_;lia);let gO:=Jr (h:=j++[IX.lst [IV.int (a:Int)]]++[IX.lst<|ni st++[IV.int (a:Int)]]) (o:=.lst<|ni st++[IV.int (a:Int)]++ni weak);rw[show ni st++[IV.int (a:Int)]++ni weak=ni (st++a::weak) by simp]at *;generalize (j++[IX.lst [IV.int (a:Int)]]++[IX.lst<|ni st++[IV.int (a:Int)]]).length=bC at gO H;generalize j++[IX.lst [IV.int (a:Int)]]++[IX.lst<|ni st++[IV.int (a:Int)]]++[IX.lst<|ni<|st++a::weak]=J at E gO H;let#[_,h3,e3,D',rfl,X,d3]:=(Mg (k:=k+2) (d1.kp E.kp) gO<|I▸Jvn p nl ha).eq;let#[v,h4,e4,an,x4]:=(Jp8 (k:=k) (n:=(ni st).length) (A:=pk rs st) (r:=rs.getD a rd) (B:=pk rs weak) d3 (by simp[pk])<|by simp[pk]).eq;let u:=((C.trans E).trans X).trans x4;let O:=J0 (d:=[]) (az (dk (o:=Ja 0) 07 gD 02 (KO _) (aj H) e3)<|dj (a:=Ja 4) 07 (X.get<|E.get F)) e4;rcases an with⟨rfl,Z⟩|⟨⟨x,rfl⟩,yes⟩
 .show Jf ((aF O 07).trans 07) #[#[Zo,07,λz=>(by cases z),λz=>absurd z Z],u]
 .show Jf ((aF O 07).trans 07) #[#[Zl,07,λ_=>yes,λ_=>07],u]
end
end
section
seal L4.run L4.WS L4.WR
def D6(g:h[i]?=V (.lst xs))(q:bB #[xs.reverse,λh'=>h'[i]?=V (.lst xs)] h):WR (VA [.ref i] h) bB:=by unfold VA;dsimp only;rw[g];show xok q
section
variable{k:Nat}{h:IH}{D L W a:Nat}{rs:Tz}{unit:Int}{left weak:Tp}
def J06(d:ji h D rs unit)(G:h[L]?=V (.lst<|ni left))(S:h[W]?=V (.lst<|ni weak))(p:(left++weak).Perm<|Z6 (WP rs))(P:left.Nodup):WR (Ce (k+8) [.ref D,.ref L,.ref W] h) λv h'=>((v=.ah/\∀a∈left,¬eT (pk rs<|left.filter λb=>decide (b≠a)) (rs.getD a rd) (pk rs weak)) \/ ∃a∈left,v=.int (a:Int)/\eT (pk rs<|left.filter λb=>decide (b≠a)) (rs.getD a rd) (pk rs weak))/\Ex h h':=by
 let lr:((ni left).reverse).length=WP left:=03;let E:∀i (F:i<(ni left).reverse.length),∃a∈left,left.reverse[i]?=V a/\(ni left).reverse[i]=.int (a:Int):=λi F=>by
  let C:i<WP left.reverse:=by rw[ky];show mL 06 06
  calc#[left.reverse[i],uN.1<|Zy C,Zd C,?_];let:(ni left).reverse=(left.reverse.map λn:Nat=>(n:Int)).map IV.int:=by rw[yC,yC]
  simp![this,fS]
 rw[Jgg];calc ao<|ae<|jH ?_;rw[Vn];calc Jf (aj 07)<|D6 G ?_;refine Vd (λi U h'=>Ex h h'/\(∃c,U=[V<|.ref D,V<|.ref L,V<|.ref W,c])/\∀j,j<i->∀a,left.reverse[j]?=V a->¬eT (pk rs<|left.filter λb=>decide (b≠a)) (rs.getD a rd) (pk rs weak)) ?_ ?_ ?_ #[.refl _,#[Zg,07],λj u=>absurd u<|mQ _]
 .rintro i _ H ⟨m,_⟩;show m.get G
 .rintro i F _ H ⟨m,⟨c,rfl⟩,no⟩;let#[a,ha,O,Q]:=E i F;rw[Q];let#[_,J,R,#[b,rfl,I],M]:=(J3z (k:=k) (d.kp m.kp) (m.get G) (m.get S) p P ha).eq;refine jg 07 (nF<|Jf (cK<|J0 (iS 07 07 07 07) R) #[λq=>au<|Jf 07 #[.inr #[a,ha,07,I.1 q],m.trans M],λq=>aM ?_])
  .calc#[m.trans M,#[_,07],λj u X B=>?_];rcases Nat.lt_or_ge j i with lt|E
   .show no j lt X B
   .let:j=i:=ZW (jL (b:=1) u) E;subst this;rw[O]at B;cases B;intro f;rw[I.2 f]at q;cases q
 .rintro _ H ⟨m,⟨c,rfl⟩,no⟩;calc au<|Jf 07 #[.inl #[07,λa ha=>?_],m];let#[j,u,e]:=List.getElem_of_mem<|uN.2 ha;show no j (by rw[lr];rw[ky]at u;show u) a<|by rw[Zd u,e]
end
end
section
seal L4.run L4.WS L4.WR
def Jt1(I:Nat->aD->IH->Prop) (k:∀m U h,I m U h->WR (t U h) λc h1=>(c=Zl->∃C,m=C+1/\dC (b U h1) (I C) R λn B J=>(∃c fs,J[n]?=V (.exc c fs))/\Y_ n B J)/\(c=Zo->N U h1))(hm:m<1000000)(start:I m U h):dC (V1 t b U h) N R Y_:=by
 let D:∀(n m:Nat)(U:aD)(h:IH),m<n->I m U h->dC (V3 t b n U h) N R Y_:=by
  intro n;induction n with|zero=>intro m U h hn _;show absurd 06 (mQ _)|succ n G=>
   intro m U h hn H;let#[c,h1,e,q1,q2]:=(k m U h H).eq;unfold V3;rw[e];cases c with|false=>show q2 07|true=>let#[C,rfl,w]:=q1 07;simp![if_true];cases u:b U h1 with|next B J=>rw[u]at w;show G C B J (sj 06) w|ret v J=>rw[u]at w;show w|exc j B J=>rw[u]at w;let#[#[c,fs,E],y]:=w;dsimp only;rw[E];show y|_=>rw[u]at w;show w.elim
 let F:Xc=1000000:=by unfold Xc;rfl
 rw[GU];show D _ m U h (by rw[F];show hm) start
section
variable{h:IH}
def Jvv(e:h[n]?=V (.exc "NoRanks" []))(B:h[L]?=V (.lst xs)):Ye (k+1) [.ref n,.ref L] h=.ok .ah ((h++[IX.lst xs]).set n<|.exc "NoRanks" [("stuck",.ref (WP h))]):=by
 let xo:((pg k).xo "NoRanks").isSome=Zl:=02;let xf:dh T "stuck" "NoRanks"=Zl:=02;let j:VJ (λc=>((pg k).xo c).isSome) (Jb 'a'<|Jb (eC<|.str "no order of the works keeps the duty") Je) [V<|.ref n,V<|.ref L] h=.ok .ah h:=by unfold VJ;change(match h[n]? with|some (.exc c _)=>if ((pg k).xo c).isSome then Res.ok IV.ah h else .stuck|_=>.stuck)=_;rw[e];change(if ((pg k).xo "NoRanks").isSome then Res.ok IV.ah h else .stuck)=_;rw[if_pos xo]
 let u:bp (bx Q3) (Jb 'b' Je) [V<|.ref n,V<|.ref L] h=.ok (.ref (WP h)) (h++[.lst xs]):=xD 07 B;let m:Xt (dh T "stuck") "stuck" 'a' (bp (bx Q3)<|Jb 'b' Je) [V<|.ref n,V<|.ref L] h=.next [V<|.ref n,V<|.ref L] ((h++[IX.lst xs]).set n<|.exc "NoRanks" [("stuck",.ref (WP h))]):=by unfold Xt;rw[u];change(match (h++[IX.lst xs])[n]? with|some (.exc c [])=>if dh T "stuck" c&&Zl then bS.next _ ((h++[IX.lst xs]).set n<|.exc c [("stuck",.ref (WP h))])else .stuck|_=>.stuck)=_;rw[grow e];change(if dh T "stuck" "NoRanks"&&Zl then _ else bS.stuck)=_;rw[if_pos<|by rw[xf];rfl]
 calc Ju ?_;rw[Jgd];show ao<|ae<|JU<|Jf j<|jg m #[07,07]
end
end
section
seal L4.run L4.WS L4.WR
def Jzo{left:Tp}(ha:a∈left):∃j,(left.map λn:Nat=>(n:Int)).findIdx? (· ==(a:Int))=V j/\∃k:j<WP left,left[j]=a:=by
 let:((left.map λn:Nat=>(n:Int)).findIdx? (· ==(a:Int))).isSome=Zl:=by rw[List.findIdx?_isSome,pd];show#[(a:Int),ZC.2 #[a,ha,07],03]
 let#[j,k]:=oZ.1 this;calc#[j,k,?_];let#[m,J,_]:=ux.1 k;rw[Zn]at m;calc#[m,?_];let:=beq_iff_eq.1 J;rw[fS]at this;lia
theorem Y2(f:α->β):∀(l:List α)(j:Nat),(l.map f).eraseIdx j=(l.eraseIdx j).map f|[],_=>07|_::_,0=>07|a::l,j+1=>congrArg (f a:: ·)<|Y2 f l j
theorem D7:∀(l:Tp)(j:Nat)(k:j<WP l),(l[j]::l.eraseIdx j).Perm l|_::_,0,_=>.refl _|a::l,j+1,k=>(List.Perm.swap a (l[j]'(yk k))<|l.eraseIdx j).trans<|(D7 l j<|yk k).cons a
def Mi{a j:Nat}(m:left.Nodup)(k:j<WP left)(e:left[j]=a):(left.filter λb=>decide (b≠a)).Perm (left.eraseIdx j)/\(a::left.eraseIdx j).Perm left:=by
 let p1:(a::left.eraseIdx j).Perm left:=e▸D7 left j k;let ha:a∈left:=e▸Zy k;calc#[List.Perm.cons_inv (a:=a)<|.trans ?_ p1.symm,p1];refine(uB (mT.2 #[λz=>?_,m.filter _]) m).2 λx=>?_
 .show of_decide_eq_true (eZ.1 z).2 07
 .simp only[ZG,eZ,decide_eq_true_eq];constructor
  .rintro(rfl|z)
   .show ha
   .show z.1
  .intro z;by_cases q:x=a
   .show .inl q
   .show .inr #[z,q]
def Juo(u:left.Nodup)(k:j<WP left)(e:left[j]=a)(f:eT (pk rs<|left.filter λb=>decide (b≠a)) (rs.getD a rd)<|pk rs weak)(all:Qh (pk rs left)<|pk rs weak):Qh (pk rs<|left.eraseIdx j) (pk rs<|a::weak):=by let#[p1,m]:=Mi u k e;calc#[f.perm (p1.map _)<|.refl _,all.above ?_];let:(pk rs<|a::left.eraseIdx j).Perm (pk rs left):=m.map _;calc this.symm.trans ?_;show(Eh (rs.getD a rd)<|pk rs<|left.eraseIdx j).symm
section
variable{k:Nat}{h:IH}{D:Nat}{rs:Tz}{unit:Int}
def Jsy(d:ji h D rs unit):WE (Cf (k+9) [.ref D] h)
  (λv h'=>(∃bC os,v=.ref bC/\WP h<=bC/\h'[bC]?=V (.lst<|ni os)/\os.Perm (Z6 (WP rs))/\Qh [] (pk rs os))/\Ex h h')
  (λn h'=>(∃fs,h'[n]?=V (.exc "NoRanks" fs))/\(∀os:Tp,os.Perm (Z6 (WP rs))->¬Qh [] (pk rs os))/\Ex h h'):=by
 let hb:=J6;let E:=d.q.l;let#[vs,S,w]:=d.d;let wl:=w.1;rw[Jrl];calc Hy ?_;rw[Ks,Vo];calc dC.of (ak<|Jf (D5 ((dk 07 S sd (X9 _) 07 (XA S)).trans<|by rw[wl])<|kr 06) ?_);rw[Kr,Vo];calc dC.of<|ak<|Jf (dH 07 07) ?_;rw[Kq,Vo];let wf:∀a,a<WP rs->d0 (rs.getD a rd):=λa ha=>by rw[Zk,Zd ha];show d.q.w _<|Zy ha
 refine Jt1 (λm U h'=>∃left u W g c,m=WP left/\U=[V<|.ref D,V<|.ref (WP h),V<|.ref W,c]/\h'=h++IX.lst (ni left)::g/\h'[W]?=V (.lst<|ni u)/\WP h<W/\(left++u).Perm (Z6 (WP rs))/\left.Nodup/\Qh (pk rs left) (pk rs u)) ?_ (m:=WP rs) (Zb (Zc E 1)<|Zi _ 999994)
  #[Z6 (WP rs),[],(h++[IX.lst<|ni<|Z6 (WP rs)]).length,[.lst []],Zg,03,07,03,Jr,03,03,yB,trivial]
 rintro m _ _ ⟨left,u,W,g,c,rfl,rfl,rfl,C,Y,p,I,all⟩;let M:Ex h (h++IX.lst (ni left)::g):=.cons _ _ _;let G:(h++IX.lst (ni left)::g)[WP h]?=V (.lst<|ni left):=Jw;let ln:(ni left).length=WP left:=03;let O:(ni u).length=WP u:=03;let ll:WP left+WP u=WP rs:=by rw[<-Z1,p.length_eq,kz]
 refine Jf (kj (dj 07 G) 07)<|eI (λq=>#[WP left-1,05,?_]) λq=>?_
 .rw[Ko,Vo,BX,wZ];calc WE.of<|Jf (fM 07 07 07)<|WE.of<|WR.mono (J06 (k:=k) (d.kp M.kp) G C p I) ?_;rintro v J ⟨an,H⟩;rcases an with⟨rfl,X⟩|⟨a,ha,rfl,Q⟩
  .rw[Vo,BY];calc WE.of (Jf (bR<|(aF 07 07).trans 07) #[λ_=>?_,λz=>by cases z]);let B:=H.get G;let ei:Ye (k+8) [.ref (WP J),.ref (WP h)] (J++[.exc "NoRanks" []])=.ok .ah (J++[.exc "NoRanks" [("stuck",.ref<|WP J+1)],.lst<|ni left]):=by rw[Jvv (k:=k+7) Jr<|grow B];simp
   let x3:Ex J (J++[IX.exc "NoRanks" [("stuck",.ref<|WP J+1)],.lst<|ni left]):=.cons _ _ _;let F:(J++[IX.exc "NoRanks" [("stuck",.ref<|WP J+1)],.lst<|ni left])[WP J]?=V (.exc "NoRanks" [("stuck",.ref<|WP J+1)]):=Jw;refine L7 (n:=WP J) (c:="NoRanks") (h1:=J++[IX.exc "NoRanks" [("stuck",.ref<|WP J+1)],.lst<|ni left]) ?_ F 02 #[#[_,_,F],#[_,_,F],#[_,F],λos ho af=>?_,(M.trans H).trans x3]
   .change((Ye (k+8) [.ref (WP J),.ref (WP h)]<|J++[.exc "NoRanks" []]).bind _)=_;rw[ei];rfl
   .let#[a,ha,Q]:=Jtg (f:=λa=>rs.getD a rd) (o:=os) (left:=left) (below:=u) (λa ha=>wf a<|ig.1<|ho.mem_iff.1 ha) (ho.trans p.symm) (ho.nodup_iff.2 yB) (λz=>by rw[z]at q;show absurd q 01) af;show X a ha Q
  .let#[j,fj,L,R]:=Jzo ha;rw[Vo,BY];calc WE.of (Jf (bR<|(aF 07 07).trans 07) #[(λz=>by cases z),λ_=>?_]);let B:=H.get G;rw[Hx,Vo];calc dC.of<|JU<|Qo (i:=WP h) 07 B KR (Jf (aj 07)<|t9 B fj ?_);let en:((left.map λn:Nat=>(n:Int)).map IV.int).eraseIdx j=ni (left.eraseIdx j):=by rw[Y2,Y2]
   rw[en];let#[g2,rfl]:=H;rw[fQ,fR,V2];let P:(h++IX.lst (ni<|left.eraseIdx j)::(g++g2))[W]?=V (.lst<|ni u):=by obtain⟨w,rfl⟩:∃w,W=WP h+(w+1):=#[W-WP h-1,00];rw[ZL<|Zi _ _,Ee,El]at C ⊢;rw[ZN (Zp.1 C).1];show C
   calc dC.of (ak<|Jf (nL (dH (aj 07) 07) 07 Jr (grow P) (by change 1+(ni u).length<=1000;(rw[nS];show Zb (Zb (Zb (Zb (Zc (Zh O) 1)<|Zc (kx _ _) 1)<|Zc (Zh ll) 1)<|Zc E 1)<|Zi _ 994))) ?_);let#[p1,Z]:=Mi I L R;calc#[left.eraseIdx j,a::u,_,g++g2++[.lst [.int (a:Int)]]++[.lst<|[.int (a:Int)]++ni u],_,by rw[Ei L],07,03,Jr,by simp![Z1,jj,uO];(rw[<-sm];show Zc (Zi _ _) 1),?_,I.eraseIdx j,Juo I L R Q all];calc .trans ?_ p;calc yE.trans ?_;rw[<-fR];show Z.append_right u
 .let e0:left=[]:=qL.1 05;subst e0;show dC.of<|au<|Jf 07 #[#[W,u,07,Z7 Y,C,p,all],M]
end
end
def Mj(h0:∀x∈c7 rs cs p,0<=x.2.1)(ne:gL rs cs ds p≠[]):0<ds.getD p 0:=by let#[z,j]:=Ej _ ne;let#[a,ha,_]:=ZC.1 j;let:=(eZ.1 ha).2;let h0:=h0 a (eZ.1 ha).1;simp![kn,Zt,decide_eq_true_eq]at this;show ZE h0 this.1
def Iv(rs:Tz)(cs:Ua)(ds:To):Prop:=∀p q,p<WP cs->q<WP cs->p≠q->ds.getD p 0<aW cs p->ds.getD q 0<aW cs q->gL rs cs ds p≠[]->gL rs cs ds q≠[]->aX cs p<dI rs cs ds q\/aX cs q<dI rs cs ds p
def sA(cs:Ua)(a:Nat)(b:Int)(ds:To):Int:=sR (WP cs) λp=>if aX cs p<=a/\b<=ar cs p then ds.getD p 0 else 0
structure Bd(rs:Tz)(cs:Ua)(a:Nat)(B:Int):Prop where
 z:0<=B
 b:∀q,q<WP cs->(a:Int)<aX cs q->∀x∈c7 rs cs q,fZ (rs.map (·.2)) x.1<=a->x.2.2-x.2.1-1<=B
def yf(rs:Tz)(cs:Ua):Prop:=∀q,q<WP cs->∀x∈c7 rs cs q,∀y∈c7 rs cs q,x.2.1<y.2.1->y.2.1<x.2.2->y.2.2<=x.2.2
structure lX(rs:Tz)(cs:Ua)(a:Nat)(L B:Int)(ds:To)(t b k:Int):Prop where
 bt:b<=t
 tl:t<=b+L
 q1:∀p,p<WP cs->aX cs p<=a->ar cs p<b->aW cs p<=ds.getD p 0
 q2:t-b=k+sA cs a b ds
 q3:k<=B
 q4:∀q,q<WP cs->(a:Int)<aX cs q->ds.getD q 0<aW cs q->∀x∈c7 rs cs q,fZ (rs.map (·.2)) x.1<=a->x.2.1<ds.getD q 0->ds.getD q 0<x.2.2->k+(x.2.2-ds.getD q 0)<=B
structure Sq(rs:Tz)(cs:Ua)(a:Nat)(L B:Int)(s:Bs):Prop where
 iv:Iv rs cs s.1
 rd:∀p,p<WP cs->0<s.1.getD p 0->ar cs p<s.t
 en:∀x∈s.5,aX cs x.1=a->x.2.2<=ar cs x.1+L
 nn:∀p,p<WP cs->0<=s.1.getD p 0
 w:∃b k,lX rs cs a L B s.1 s.t b k
section
variable{kind:Int}{rs:Tz}{cs:Ua}{a:Nat}{L B:Int}
def lX.new(u:0<=L)(j:Bd rs cs a B)(q1:∀p,p<WP cs->aX cs p<=a->ar cs p<t->aW cs p<=ds.getD p 0)(nn:∀p,p<WP cs->0<=ds.getD p 0)(rd:∀p,p<WP cs->0<ds.getD p 0->ar cs p<t):lX rs cs a L B ds t t 0:=by
 refine#[ZD _,mY u,q1,?_,j.z,λq E m _ x C D l1 l2=>?_]
 .let:sA cs a t ds=0:=Xv λp k=>by
   by_cases c:aX cs p<=a/\t<=ar cs p
   .rw[if_pos c];let:=nn p k;by_cases z:0<ds.getD p 0
    .let:=rd p k z;lia
    .show gU (ZU.1 z) this
   .show if_neg c
  lia
 .let:=j.b q E m x C D;lia
def Sq.let(F:0<=L)(E:Bd rs cs a B)(w:Wf cs s)(v:Sq rs cs a L B s):∃b k,lX rs cs a L B s.1 (aT cs s) b k/\(b=aT cs s\/∃q∈(aO cs s).3,aX cs q<=a/\ar cs q<aT cs s):=by
 let tg:=YR cs s;let H:=w.let;by_cases q:∀p,p<WP cs->aX cs p<=a->ar cs p<aT cs s->aW cs p<=s.1.getD p 0
 .show#[_,_,lX.new F E q v.4 λp lp h=>by let:=v.2 p lp h;show Z8 this tg,.inl 07]
 .let⟨p,j⟩:=Classical.not_forall.1 q;simp![Classical.not_imp,cN]at j;let#[lp,ap,rp,dp]:=j;let m:p∈s.2++s.3:=ZP λm=>by rw[w.6 p lp m]at dp;show cN.2 dp<|ZD _
  let G:p∈(aO cs s).3:=by
   rcases ZQ.1 ((xO cs (aT cs s) s.2 s.3).mem_iff.2 m)with h|h
   .let:aT cs s<ar cs p:=xP w p h;omega
   .show h
  let D:aT cs s=s.t:=by
   let sr:=w.4;unfold aT at rp ⊢;split
   .rename_i _ _ c r C u;rw[C,u]at rp m;rw[u]at sr;rw[iC]at m;let:ar cs c<=ar cs p:=by
     rcases ZG.1 m with rfl|m
     .show ZD _
     .show(qO.1 sr).1 p m
    dsimp only at rp;split at rp
    .omega
    .rename_i h;rw[if_neg h]
   .rfl
  let#[b,k,W]:=v.w;show#[b,k,D▸W,.inr #[p,G,ap,rp]]
def lX.step(W:lX rs cs a L B ds t b k)(L1:1<=L)(R:∀b,B+dM cs a b (b+L)<=L)(T:yf rs cs)(iv:Iv rs cs ds)(lp:p<WP cs)(U:0<n)(nl:ds.getD p 0+n<=QN (c7 rs cs p) (ds.getD p 0) (aW cs p))(O:ds.getD p 0<aW cs p)(ld:WP ds=WP cs)
  (nn:∀p,p<WP cs->0<=ds.getD p 0)(rd:∀p,p<WP cs->0<ds.getD p 0->ar cs p<t)(le:∀p,p<WP cs->ds.getD p 0<=aW cs p)(rp:ar cs p<=t)(st:b=t\/∃q,q<WP cs/\ds.getD q 0<aW cs q/\aX cs q<=a/\ar cs q<t)
  (wk:(a:Int)<aX cs p->dI rs cs ds p<=a):
  t+n<=b+L/\∃k',lX rs cs a L B (ds.set p<|ds.getD p 0+n) (t+n) b k':=by
 let C:∀e q,(ds.set p<|ds.getD p 0+e).getD q 0=if p=q then ds.getD p 0+e else ds.getD q 0:=λe q=>by
  rw[Xm];by_cases z:p=q
  .subst z;rw[if_pos #[07,Zb lp<|Zh ld.symm],if_pos 07]
  .rw[if_neg λy=>z y.1,if_neg z]
 let bt:=W.1;let tl:=W.2;let q2:=W.4;let sl:=xN (c7 rs cs p) (ds.getD p 0)<|aW cs p;let D:=R b;let G:∀e,sA cs a b (ds.set p<|ds.getD p 0+e)=sA cs a b ds+if aX cs p<=a/\b<=ar cs p then e else 0:=λe=>by unfold sA;rw[xX (f:=λp=>if aX cs p<=a/\b<=ar cs p then ds.getD p 0 else 0) (p:=p) (λq z=>by rw[C,if_neg<|bP z]) lp];simp![C,if_true];split<;>lia
 by_cases c:aX cs p<=a
 .let M:b<=ar cs p:=ZP λz=>by let:=W.3 p lp c (cN.1 z);show ZU.2 this O
  let G:∀e,sA cs a b (ds.set p<|ds.getD p 0+e)=sA cs a b ds+e:=λe=>by rw[G,if_pos #[c,M]]
  let tn:t+n<=b+L:=ZP λh=>by
   let u:=G<|b+L-t;let lt:sA cs a b (ds.set p<|ds.getD p 0+(b+L-t))<dM cs a b (b+L):=by
    let pw:∀q,q<WP cs->(if aX cs q<=a/\b<=ar cs q then(ds.set p<|ds.getD p 0+(b+L-t)).getD q 0 else 0)<=if aX cs q<=a/\b<=ar cs q/\ar cs q<b+L then aW cs q else 0:=λq j=>by
     let P:=le q j;let J:=rd q j;let g1:(ds.set p<|ds.getD p 0+(b+L-t)).getD q 0<=aW cs q/\(b+L<=ar cs q->(ds.set p<|ds.getD p 0+(b+L-t)).getD q 0<=0):=by
      rw[C];split
      .rename_i e;subst e;show#[05,λ_=>05]
      .show#[P,λ_=>05]
     by_cases z:aX cs q<=a/\b<=ar cs q
     .rw[if_pos z];by_cases y:ar cs q<b+L
      .rw[if_pos #[z.1,z.2,y]];show g1.1
      .rw[if_neg λx=>y x.2.2];show g1.2<|ZU.1 y
     .rw[if_neg z,if_neg λx=>z #[x.1,x.2.1]];show ZD _
    by_cases y:ar cs p<b+L
    .calc xW (p:=p) pw lp ?_;rw[if_pos #[c,M],if_pos #[c,M,y],C,if_pos 07];lia
    .rcases st with e|⟨q,j,F,m,E⟩
     .lia
     .let Z:b<=ar cs q:=ZP λz=>by let:=W.3 q j m (cN.1 z);show ZU.2 this F
      let nq:p≠q:=λe=>by subst e;show cN.2 E<|ZH tl<|ZU.1 y
      calc xW (p:=q) pw j ?_;rw[if_pos #[m,Z],if_pos #[m,Z,Z8 E tl],C,if_neg nq];show F
   let:=W.5;lia
  refine#[tn,k,ZJ<|ZE bt<|ZR _ U,tn,λq j m E=>?_,by rw[G];lia,W.5,λq j m=>?_]
  .rw[C,if_neg λe=>by subst e;show cN.2 E M];show W.3 q j m E
  .rw[C,if_neg λe=>by subst e;show cN.2 m c];show W.6 q j m
 .let G:∀e,sA cs a b (ds.set p<|ds.getD p 0+e)=sA cs a b ds:=λe=>by rw[G,if_neg λx=>c x.1];lia
  let rk:=wk<|cN.1 c;let#[z,X,S]:=LD (hss:=rs.map (·.2)) (zs:=gL rs cs ds p) (a:=(cs.getD p cd).1) (by change dI rs cs ds p<aX cs p;show ZE rk<|cN.1 c);let S:dI rs cs ds p=fZ (rs.map (·.2)) z:=S;let#[y,H,rfl]:=ZC.1 X;let#[H,I]:=eZ.1 H;simp![kn,Zt,decide_eq_true_eq]at I;let so:=DK (len:=aW cs p) H I.2;let pp:=W.6 p lp (cN.1 c) O y H (ZH (Z3 S.symm) rk) I.1 I.2;let tn:t+n<=b+L:=ZP λh=>by
   let:sA cs a b ds<=dM cs a b (b+L):=QM λq j=>by
    let P:=le q j;let J:=rd q j;by_cases z:aX cs q<=a/\b<=ar cs q
    .rw[if_pos z];by_cases y:ar cs q<b+L
     .rw[if_pos #[z.1,z.2,y]];show P
     .rw[if_neg λx=>y x.2.2];lia
    .rw[if_neg z,if_neg λx=>z #[x.1,x.2.1]];show ZD _
   lia
  refine#[tn,k+n,ZJ<|ZE bt<|ZR _ U,tn,λq j m E=>?_,by rw[G];lia,05,λq j m F x Q fx l1 l2=>?_]
  .rw[C,if_neg λe=>by subst e;show ZU.2 m<|cN.1 c];show W.3 q j m E
  .rw[C]at F l1 l2 ⊢;by_cases e:p=q
   .subst e;rw[if_pos 07]at F l1 l2 ⊢;by_cases l3:x.2.1<ds.getD p 0
    .let:=W.6 p lp m O x Q fx l3<|pF (ZR _ U) l2;lia
    .let:=T p lp y H x Q (Z8 I.1<|ZU.1 l3)<|Z8 (Z8 l1 nl) so;lia
   .rw[if_neg e]at F l1 l2;let Y:=LB Q l1 l2;let r2:dI rs cs ds q<=fZ (rs.map (·.2)) x.1:=LA Y;rcases iv p q lp j e O F (List.ne_nil_of_mem X) (List.ne_nil_of_mem Y)with h|h<;>lia
def Jwv(h:x∈QP p t u l):x∈l\/(x.1=p/\x.2.2=u):=by
 cases l with|nil=>rw[ZB.1 h];show .inr #[07,07]|cons c r=>
  change x∈(if c.1=p then(p,c.2.1,u)::r else(p,t,u)::c::r)at h;split at h
  .rcases ZG.1 h with rfl|h
   .show .inr #[07,07]
   .show .inl<|Zq _ h
  .rcases ZG.1 h with rfl|h
   .show .inr #[07,07]
   .show .inl h
def Jwu(h:q=p\/∃x∈l,x.1=q):∃x∈QP p t u l,x.1=q:=by
 cases l with
 |nil=>
  rcases h with rfl|⟨x,hx,_⟩
  .show#[_,ZB.2 07,07]
  .cases hx
 |cons c r=>
  change ∃x∈(if c.1=p then(p,c.2.1,u)::r else(p,t,u)::c::r),x.1=q;split
  .rename_i e;rcases h with rfl|⟨x,hx,ex⟩
   .show#[_,Z2,07]
   .rcases ZG.1 hx with rfl|hx
    .show#[_,Z2,e.symm.trans ex]
    .show#[x,Zq _ hx,ex]
  .rcases h with rfl|⟨x,hx,ex⟩
   .show#[_,Z2,07]
   .show#[x,Zq _ hx,ex]
def Sq.step(L1:1<=L)(Bb:Bd rs cs a B)(dem:∀b,B+dM cs a b (b+L)<=L)(T:yf rs cs)(h0:∀p,p<WP cs->∀x∈c7 rs cs p,0<=x.2.1)(w:Wf cs s)(ne:¬(s.2=[]/\s.3=[]))(v:Sq rs cs a L B s):Sq rs cs a L B (Q5 kind rs cs s):=by
 let O:=w.let;let tg:=YR cs s;let#[p,n,Z,es,lp,n0,n1,n2,Q,rp,G]:=DL (kind:=kind) (rs:=rs) w ne;let hp:=Z.1;rw[es];let#[b,k,W,st]:=v.let (ZJ 06) Bb w;let I:∀q,q<WP cs->s.1.getD q 0<aW cs q->q∈(aO cs s).2\/q∈(aO cs s).3:=λq j lt=>ZQ.1 (ZP λm=>by let:s.1.getD q 0=_:=O.6 q j m;show ZU.2 (Z3 this)<|Z8 (ZE (Z3 this.symm) lt)<|Z3 this.symm)
 let le:∀q,q<WP cs->s.1.getD q 0<=aW cs q:=λq j=>by
  by_cases m:q∈s.2++s.3
  .show ZJ (w.z q m).2
  .rw[w.6 q j m];show ZD _
 let rd:∀q,q<WP cs->0<s.1.getD q 0->ar cs q<aT cs s:=λq j h=>by let:=v.2 q j h;show Z8 this tg
 let K:∀q,q<WP cs->p≠q->s.1.getD q 0<aW cs q->gL rs cs s.1 q≠[]->aX cs p<dI rs cs s.1 q:=λq j H lt C=>by
  let dq:=Mj (h0 q j) C;let P:q∈(aO cs s).3:=by
   rcases I q j lt with m|m
   .let:s.1.getD q 0=0:=O.7 q m;lia
   .show m
  let#[le,fl]:=YI Z P;by_cases ap:gL rs cs s.1 p=[]
  .let e:dI rs cs s.1 p=aX cs p:=by unfold dI;rw[ap];rfl
   by_cases eq:dI rs cs s.1 q=dI rs cs s.1 p
   .show absurd (fl eq ap) C
   .show ZE (Z3 e.symm)<|vh.2 #[le,(bP eq)]
  .rcases v.1 p q lp j H Q.2 lt ap C with z|z
   .show z
   .let:dI rs cs s.1 q<=aX cs q:=xU;lia
 let U:∀q,p≠q->gL rs cs (jh rs cs (aO cs s) p n).1 q=gL rs cs s.1 q:=λq H=>by unfold gL;rw[G,if_neg H]
 let Y:∀q,p≠q->dI rs cs (jh rs cs (aO cs s) p n).1 q=dI rs cs s.1 q:=λq H=>by unfold dI;rw[U q H]
 let F:∀q,q<WP cs->0<(jh rs cs (aO cs s) p n).1.getD q 0->ar cs q<aT cs s+n:=λq j h=>by
  rw[G]at h;split at h
  .rename_i e;subst e;show oE 06 06
  .let:=rd q j h;show pF this<|ZR _ n0
 let M:∀q,q<WP cs->0<=(jh rs cs (aO cs s) p n).1.getD q 0:=λq j=>by let:=v.4 q j;rw[G];split<;>(first|show ZJ (ZE Q.1 (ZR _ n0))|show this|lia)
 obtain⟨en,w'⟩:(aX cs p=a->aT cs s+n<=ar cs p+L)/\∃b k,lX rs cs a L B (jh rs cs (aO cs s) p n).1 (aT cs s+n) b k:=by
  by_cases c:∃q∈(aO cs s).3,aX cs q<=a
  .let#[q0,hq0,aq0]:=c;let le1:=(YI Z hq0).1;let le2:dI rs cs s.1 q0<=aX cs q0:=xU;let#[tn,k',W']:=W.step L1 dem T v.1 lp n0 n1 Q.2 w.1 v.4 rd le rp (st.imp id λ⟨q,P,C,rq⟩=>#[q,O.2 q<|Zr _ P,(O.z q<|Zr _ P).2,C,rq]) λ_=>ZH (ZH le1 le2) aq0
   calc#[λe=>?_,b,k',W'];let:b<=ar cs p:=ZP λz=>by let:=W.3 p lp (Z3 e) (cN.1 z);show ZU.2 this Q.2
   lia
  .let ap:(a:Int)<aX cs p:=ZP λz=>c #[p,hp,ZU.1 z]
   calc#[λe=>05,_,_,lX.new (ZJ 06) Bb (λq j C rq=>?_) M F];rw[G,if_neg λe=>by subst e;show ZU.2 C ap];refine ZP λz=>?_
   rcases I q j (cN.1 z)with m|m
   .let:=n2 q m;lia
   .show c #[q,m,C]
 refine#[λx y lx ly u S E D X=>?_,F,λx hx D=>?_,M,w']
 .rw[G]at S E;by_cases z:p=x
  .subst z;rw[if_neg u]at E;rw[U y u]at X;rw[Y y u];show .inl<|K y ly u E X
  .rw[if_neg z]at S;rw[U x z]at D;rw[Y x z];by_cases R:p=y
   .subst R;show .inr<|K x lx z S D
   .rw[if_neg R]at E;rw[U y R]at X;rw[Y y R];show v.1 x y lx ly u S E D X
 .rcases Jwv hx with h|⟨h1,J⟩
  .show v.3 x h D
  .rw[h1]at D ⊢;rw[J];show en D
def J2v(k:br rs cs)(six:∀r∈rs,WP r.2<=6)(h0:∀p,p<WP cs->∀x∈c7 rs cs p,0<=x.2.1)(E:1<=L)(u:Bd rs cs a B)(j:∀b,B+dM cs a b (b+L)<=L)(T:yf rs cs):∀x∈(eY kind rs cs).5,aX cs x.1=a->x.2.2<=ar cs x.1+L:=by
 let D:Iv rs cs (s0 cs).1:=λp q lp G _ _ _ ap _=>by let:=Mj (h0 p lp) ap;rw[sf]at this;lia
 let z0:∀p,¬0<(s0 cs).1.getD p 0:=λp h=>by rw[sf]at h;show cN.2 h<|ZD _
 let cm:∀p,p<WP cs->0<=ar cs p:=λp lp=>by
  let:=k.1 (cs.getD p cd)<|by rw[Zk,Zd lp];show Zy lp
  let F:=this.2;let J:=this.3;change(0:Int)<=(cs.getD p cd).2+(cs.getD p cd).3;show y9 06 06
 show(xV (kind:=kind) (rs:=rs) (cs:=cs) (Sq rs cs a L B) (λs w ne v=>v.step E u j T h0 w ne) (8*WP cs) (s0 cs) (xT λc m=>(k.1 c m).5) (nK six λc m=>(k.1 c m).1) #[D,λp _ h=>absurd h<|z0 p,(λx C=>by cases C),(λp _=>by rw[sf];show ZD _),_,_,lX.new (ZJ 06) u (λp lp _ h=>by let:=cm p lp;let h:ar cs p<0:=h;lia) (λp _=>by rw[sf];show ZD _) λp _ h=>absurd h<|z0 p]).2.2.2.3
def J2w(k:br rs cs)(six:∀r∈rs,WP r.2<=6):∀p,p<WP cs->∃x∈(eY kind rs cs).5,x.1=p:=(λp lp=>by
 let D:=xV (kind:=kind) (rs:=rs) (cs:=cs) (λs=>∀p,p<WP cs->0<s.1.getD p 0->∃x∈s.5,x.1=p) (λs w ne v q G j=>by
  let#[p,n,_,E,_,_,_,_,_,_,F]:=DL (kind:=kind) (rs:=rs) w ne;rw[E]at j ⊢;rw[F]at j;calc Jwu ?_;split at j
  .rename_i e;show .inl e.symm
  .show .inr<|v q G j) (8*WP cs) (s0 cs) (xT λc m=>(k.1 c m).5) (nK six λc m=>(k.1 c m).1) λp _ h=>by rw[sf]at h;lia
 let#[B,C,u,ex]:=D;calc ex p lp ?_;rw[B.6 p lp<|by rw[C,u];simp];let:=(k.1 (cs.getD p cd)<|by rw[Zk,Zd lp];show Zy lp).5;change 0<(cs.getD p cd).4;assumption)
end
abbrev qF(i:Nat)(b T:Int)(c:Cm):Prop:=c.1=i/\b<=gz c/\gz c<T
def cL(i:Nat)(b T:Int):Ua->Int|[]=>0|c::l=>(if qF i b T c then 1 else 0)+cL i b T l
def dL(i:Nat)(b T:Int):Ua->Int|[]=>0|c::l=>(if qF i b T c then c.4 else 0)+dL i b T l
theorem D8{b T g:Int}(k:0<g):∀{l:Ua}{lo:Int},l.Pairwise (λx y=>x.1=i->y.1=i->x.2+g<=y.2)->(∀c∈l,qF i b T c->lo<=c.2/\c.2<T)->cL i b T l=0\/cL i b T l*g<=T-1-lo+g
 |[],_,_,_=>.inl 07
 |c::l,lo,pw,h=>by
  let#[p1,m]:=qO.1 pw;rw[cL];by_cases e:qF i b T c
  .rw[if_pos e];let#[u,J]:=h c Z2 e;calc .inr ?_;rcases D8 k (lo:=c.2+g) m λd hd j=>#[p1 d hd e.1 j.1,(h d (Zq _ hd) j).2]with z|z
   .rw[z];lia
   .rw[oG];lia
  .rw[if_neg e,Int.zero_add];show D8 k m λd hd j=>h d (Zq _ hd) j
theorem Ml{b T m:Int}(hm:0<=m):∀{l:Ua},(∀c∈l,c.1=i->c.4<=m)->dL i b T l<=cL i b T l*m
 |[],_=>by simp[dL,cL]
 |c::l,h=>by
  let:=Ml (b:=b) (T:=T) hm (l:=l) λd hd=>h d<|Zq _ hd
  rw[dL,cL,oG];by_cases e:qF i b T c
  .let:=h c Z2 e.1;rw[if_pos e,if_pos e];lia
  .rw[if_neg e,if_neg e];show oE (vk 01 hm) this
def J2i{i:Nat}{b T:Int}:∀cs:Ua,sR (WP cs) (λp=>if aX cs p=i/\b<=ar cs p/\ar cs p<T then aW cs p else 0)=dL i b T cs:=by
 let B:∀(l m:Ua),sR (WP l) (λp=>if aX (l++m) p=i/\b<=ar (l++m) p/\ar (l++m) p<T then aW (l++m) p else 0)=sR (WP l) (λp=>if aX l p=i/\b<=ar l p/\ar l p<T then aW l p else 0):=λl m=>by
  let e:∀p,p<WP l->(l++m).getD p cd=l.getD p cd:=λp u=>by rw[Zk,Zk,ZN u]
  calc gU (QM λp u=>?_) (QM λp u=>?_)<;>(unfold aX ar aW;rw[e p u];show ZD _)
 let snoc:∀(l:Ua)(c:Cm),dL i b T (l++[c])=dL i b T l+dL i b T [c]:=λl c=>by
  induction l with
  |nil=>simp[dL]
  |cons x l k=>simp![fR,dL]at k ⊢;(rw[Int.add_assoc];show gU (yY (Z3 k) _)<|yY (Z3 k.symm) _)
 intro cs;induction hn:WP cs generalizing cs with
 |zero=>rw[qL.1 hn];rfl
 |succ n k=>
  let ne:cs≠[]:=λz=>by rw[z]at hn;cases hn
  obtain⟨l,c,rfl⟩:∃l c,cs=l++[c]:=#[_,_,(Eg ne).symm];let j:WP l=n:=by rw[Z1]at hn;show Nat.succ.inj hn
  rw[QZ,<-j,B,j,k l j,snoc];congr 1;let e:(l++[c]).getD n cd=c:=by rw[Zk,ZL<|Zh j,j];simp
  unfold aX ar aW;rw[e];change _=(if qF i b T c then c.4 else 0)+0;unfold qF;by_cases q:c.1=i/\b<=gz c/\gz c<T
  .rw[if_pos q,if_pos #[gU (jq.2<|Zh q.1)<|jq.2<|Zh q.1.symm,q.2]];lia
  .rw[if_neg q,if_neg λz=>q #[05,z.2]];rfl
structure Nm(r:RH):Prop where
 g:0<r.1.2
 l:1<=r.1.3
 t:0<=r.1.5
def J1j(k:br rs cs)(hi:i<WP rs)(N:Nm rs[i])(D:1<=L):dL i b (b+L) cs<=cu L (rs[i]).1*(rs[i]).1.3:=by
 let ok:=k.1;let B:cs.Pairwise λx y=>x.1=i->y.1=i->x.2+(rs[i]).1.2<=y.2:=by rw[uC];intro m n hm hn lt u F;show k.2 m n _ _ lt (Zd hm) (Zd hn) (u.trans F.symm) _<|by rw[u];show Zd hi
 let G:=D8 (i:=i) (b:=b) (T:=b+L) (lo:=b-(rs[i]).1.5) N.g B λc j ⟨e,C,J⟩=>by let o:=ok c j;let I:=o.3;let M:=o.4;subst e;unfold gz at C J;lia
 let E:cL i b (b+L) cs<=cu L (rs[i]).1:=by
  let g:=N.g;let t:=N.t;unfold cu ir;rw[if_pos D,vg g];rcases G with z|z
  .rw[z];lia
  .lia
 let H:=N.l;let:=Ml (i:=i) (b:=b) (T:=b+L) (m:=(rs[i]).1.3) (ZJ 06) (l:=cs) λc j e=>by subst e;show(ok c j).6
 show ZH this<|vd E<|ZJ 06
theorem Mn(m:br rs cs)(N:∀r∈rs,Nm r)(u:1<=L):∀n,n<=WP rs->sR (WP cs) (λp=>if aX cs p<n/\b<=ar cs p/\ar cs p<b+L then aW cs p else 0)<=JO (rs.take n) L
 |0,_=>by rw[Xv λp _=>if_neg λz=>by let:=z.1;unfold aX at this;lia];show ZD _
 |n+1,hn=>by
  let B:=Mn m N (L:=L) (b:=b) u n<|Z7 hn;let k:=J1j m (b:=b) (show n<WP rs by show hn) (N _<|Zy<|hn) u;rw[<-J2i]at k;rw[DR 05];calc ZH ?_<|oE B k;rw[<-DM];refine QM λp C=>?_
  by_cases q:b<=ar cs p/\ar cs p<b+L
  .by_cases e:aX cs p=n
   .rw[if_pos #[05,q],if_neg λz=>by let:=z.1;show cN.2 this<|Z3 e.symm,if_pos #[e,q]];show yV 01
   .by_cases j:aX cs p<n
    .rw[if_pos #[by(rw[nS];show Z8 j<|jq.2<|kx _ _),q],if_pos #[j,q],if_neg λz=>e z.1];show mY 01
    .rw[if_neg λz=>by let:=z.1;lia,if_neg λz=>j z.1,if_neg λz=>e z.1];show ZD _
  .rw[if_neg λz=>q z.2,if_neg λz=>q z.2,if_neg λz=>q z.2];show ZD _
def J2l(k:br rs cs)(N:∀r∈rs,Nm r)(ha:a<WP rs)(j:1<=L)(lt:L+(rs[a]).1.5<=(rs[a]).1.2)(ld:B+(rs[a]).1.3+JO (rs.take a) L<=L)(b):B+dM cs a b (b+L)<=L:=by
 let h:=Mn k N (L:=L) (b:=b) j (a+1) ha;rw[DR ha]at h;let n:=N _<|Zy ha;let u:cu L (rs[a]).1<=1:=by unfold cu;rw[if_pos j];show Dq n.g 05
 let m:=vd u (show 0<=(rs[a]).1.3 by let:=n.l;show ZJ 06);let e:dM cs a b (b+L)<=sR (WP cs) (λp=>if aX cs p<(a+1:Nat)/\b<=ar cs p/\ar cs p<b+L then aW cs p else 0):=QM λp C=>by
  by_cases q:aX cs p<=a
  .by_cases z:b<=ar cs p/\ar cs p<b+L
   .rw[if_pos #[q,z],if_pos #[vi 06,z]];show ZD _
   .rw[if_neg λy=>z y.2,if_neg λy=>z y.2];show ZD _
  .rw[if_neg λy=>q y.1,if_neg λy=>q (by let:=y.1;show yX 06)];show ZD _
 omega
section
seal L4.run L4.WS
def Jv9(kvs)(k)(v):(putD kvs k v).length<=WP kvs+1:=by unfold putD;split<;>simp
theorem Mo:∀{l:Ts},bF p l=V u->∃x∈l,x.1=p/\x.2.2=u
 |[],e=>by cases e
 |a::l,e=>by
  rw[bF]at e;cases q:bF p l with
  |some z=>rw[q]at e;let#[x,k,h]:=Mo<|q.trans e;show#[x,Zq _ k,h]
  |none=>
   rw[q]at e;by_cases j:a.1=p
   .simp only[if_pos j]at e;show#[a,Z2,j,eV e]
   .simp only[if_neg j]at e;cases e
theorem Mp:∀{l:Ts},(∃x∈l,x.1=p)->(bF p l).isSome=Zl
 |[],⟨_,h,_⟩=>by cases h
 |a::l,⟨x,hx,e⟩=>by
  rw[bF];cases q:bF p l with
  |some z=>rfl
  |none=>
   rcases ZG.1 hx with rfl|hx
   .simp only[if_pos e];rfl
   .let:=Mp #[x,hx,e];rw[q]at this;cases this
def QK(kind:Int)(rs:Tz)(cs:Ua):To:=(Z6 (WP cs)).map λp=>(bF p (eY kind rs cs).5.reverse).getD 0
def Mq(L:br rs cs)(six:∀r∈rs,WP r.2<=6):(∀p,p<WP cs->(bF p (eY kind rs cs).5.reverse).isSome=Zl)/\(eY kind rs cs).5.reverse.length<=8*WP cs:=by calc#[λp lp=>Mp ?_,by rw[ky];show Jzn];let#[x,j,e]:=J2w (kind:=kind) L six p lp;show#[x,uN.2 j,e]
def qG(ss:Ts)(v:IV):IV:=match v with|.int x=>.int<|(bF x.toNat ss).getD 0|_=>.ah
def Juj(ss)(n:Nat):(aR 0 (n:Int)).map (qG ss)=((Z6 n).map λp=>(bF p ss).getD 0).map .int:=by
 rw[fY];refine qQ (by rw[Zn,JN,Zn,kz];rfl) λi j J=>?_
 rw[fS,QL,fS,yy];simp[qG]
section
variable{k:Nat}{h:IH}{kind:Int}{rs:Tz}{cs:Ua}{bC R:Nat}
def Mr(g:Bg h kind rs cs bC R)(X:h[1]?=V (.tab "Bench.__init__"))(L:br rs cs)(je:WP cs<64):
  WR (xm (k+8) [.ref bC,.ref R] h) λv h'=>∃j,v=.ref j/\WP h<=j/\h'[j]?=V (.lst<|(QK kind rs cs).map .int)/\Ex h h':=by
 let S:=J6;let#[sp,Z]:=Mq (kind:=kind) L g.4;rw[Jzr];calc ao<|ae<|ak<|Jf 07 (ae<|jH ?_);rw[Qn];let B:Ex h (h++[IX.aV []]):=.one _ _;let g1:(h++[IX.aV []])[WP h]?=V (.aV []):=Jr;let l1:(h++[IX.aV []]).length=WP h+1:=03;generalize h++[IX.aV []]=hA at B g1 l1;calc xb<|Jf (az 07 07)<|WR.mono (J4t (k:=k) #[g.o.kp B.kp,B.get g.r,g.c,g.4,B.get g.5,g.n] (B.get X) L je) ?_;rintro _ J ⟨F,rfl,lF,I,E⟩;unfold QK;generalize (eY kind rs cs).5.reverse=u at sp Z I ⊢;calc(Qt _).mpr #[_,I,?_];let G:=E.get<|B.get g.r;let Y:=JF g.r;refine Vd (λn U h'=>∃a m,U=[V<|.ref bC,V<|.ref R,V<|.ref (WP h),a]/\h'[WP h]?=V (.aV m)/\WP m<=n/\jf (WP h) J h'/\∀p:Nat,aK m (.inl (p:Int))=(bF p<|u.take n).map .int) (λn U h' ⟨_,_,_,_,_,C,_⟩=>C _ _ (ZY<|Zb (Zh l1.symm) lF) I) ?_ ?_ #[_,[],07,E.get g1,Zm _,λ_ _ _ e=>e,λp=>07]
 .rintro n hn _ h3 ⟨a,m,rfl,D,ld,C,ev⟩;let hn:n<WP u:=by simpa using hn
  let en:u[n]?=V u[n]:=Zd hn;let st:∀p,bF p (u.take<|n+1)=_:=λp=>Jq4 en
  rw[fS];generalize u[n]=b at en st;calc jg 07 ((YY ..).mpr<|Jf (aC 07 07 Q2) ?_);rw[Lb];calc Jf 07 (Jf (aC 07 07 JR) ?_);rw[Lc D 05];calc#[_,_,07,JW D,Zb (Jv9 ..)<|mO 06,λj o M e=>J4 (C j o M e)<|bP M,λp=>?_];rw[K9,st,ev];by_cases e:b.1=p
  .rw[if_pos e,if_pos<|by rw[e]];rfl
  .rw[if_neg e,if_neg λz=>e (by cases z;rfl)]
 .rintro _ Q ⟨a,m,rfl,D,ld,C,ev⟩;rw[Zn,List.take_length]at ev;let H:=C _ _ (show R≠h.length by show Zu Y) G;let P:Ex h Q:=Y3 λj o e=>C j o (by let:=JF e;show Zu this)<|E.get<|B.get e
  refine au (WR.mono (Q0 (h:=Q) (xs:=aR 0 (WP cs:Int)) (bf:=λ_=>True) (f:=qG u) ?_ (by rw[JN];show Zb (Zi _ 999937)<|Zb (Zc je 999937) S) (λ_ _=>trivial) ?_) ?_)
  .rw[Vn];calc Jf (aj<|dj 07 H) ?_;rw[Yd,Zn];show#[05,07,07,07]
  .intro x W h5 q;let#[n,hn,rfl]:=ib.1 W;rw[QL,show(0+(n:Int))=(n:Int) by show oF _ _];rw[JN]at hn;let O:=sp n<|hn;cases eq:bF n u with|none=>rw[eq]at O;cases O|some e=>let ev:=ev n;rw[eq]at ev;unfold Kw;calc Jf ((aF 07 07).trans<|Ju<|by rw[La (q _ _ D) ev];show#[07,07]) #[?_,.refl _];change _=IV.int ((bF (oH n) u).getD 0);rw[show oH (n:Int)=n by rfl,eq];rfl
  .rintro _ _ ⟨rfl,gg,rfl⟩;show#[_,07,P.len,by rw[Jw,Juj],P.trans<|.cons _ _ _]
def yg(kind:Int)(rs:Tz)(cs:Ua):To:=((Z6 (WP cs)).filter λp=>decide (oX rs (cs.getD p cd)<(QK kind rs cs).getD p 0)).map λ(n:Nat)=>(n:Int)
def Ms(cs:Ua)(n:Nat):IV:=.tup [.int (n:Int),ax<|cs.getD n cd]
def yh(cs):Qx 0 (cs.map ax)=(Z6 (WP cs)).map (Ms cs):=by
 refine nX λi=>?_
 rw[Y1,Zz,Zz];by_cases j:i<WP cs
 .rw[uJ j];simp[Ms,j]
 .simp_all
noncomputable def bX (v:IV):aD:=match v with|.tup [i,c]=>[V i,V c]|_=>[]
def fsE(v:IV):IV:=match v with|.tup [i,_]=>i|_=>.ah
def J69(kind:Int)(rs:Tz)(cs:Ua)(v:IV):Bool:=match v with|.tup [.int i,_]=>decide (oX rs (cs.getD i.toNat cd)<(QK kind rs cs).getD i.toNat 0)|_=>Zo
def Mt(hn:n<WP cs):bI ((QK kind rs cs).map IV.int) (n:Int)=V (.int<|(QK kind rs cs).getD n 0):=by
 let l:n<(QK kind rs cs).length:=by simpa[QK]using hn
 show JE<|by simp_all
def Jsm(g:Bg h kind rs cs bC R)(F:h[1]?=V (.tab "Bench.__init__"))(L:br rs cs)(je:WP cs<64):
  WR (Yk (k+9) [.ref bC,.ref R] h) λv h'=>∃j,v=.ref j/\WP h<=j/\h'[j]?=V (.lst<|(yg kind rs cs).map .int)/\Ex h h':=by
 let G:=J6;rw[Jrk];calc ao<|ae<|ak<|xb<|Jf (az 07 07)<|WR.mono (Mr (k:=k) g F L je) ?_;rintro _ J ⟨E,rfl,P,D,B⟩;let u:=B.get g.r;refine au (WR.mono (Jw5 (h:=J) (xs:=Qx 0<|cs.map ax) (n:=2) (st:=bX) (p:=J69 kind rs cs) (f:=fsE) ?_ (by rw[VN,Zn];show Zb (Zi _ 999937)<|Zb (Zc je 999937) G) (λC q=>q _ _ u) ?_ ?_ ?_) ?_)
 .rw[Vn];show Jf (aj 07)<|(BM _).mpr #[_,u,07,07,07]
 .intro x m M C l2;rw[yh]at m;let#[n,_,rfl]:=ZC.1 m;match M,l2 with|[a,b],_=>show#[07,07]
 .intro x m C q;rw[yh]at m;let#[n,hn,rfl]:=ZC.1 m;let hn:=ig.1 hn;let#[S,I,H]:=Dy<|(g.o.kp B.kp).kp q;let O:cs.getD n cd∈cs:=by rw[Zk,Zd hn];show Zy hn
  unfold Kx;calc Jf (kj (aP 07 07 (q _ _ D) (Mt hn))<|J0 (az (H _ _ 07) 07)<|L8 I<|g.c _ O) #[?_,.refl _];change _=decide (oX rs (cs.getD (oH n) cd)<(QK kind rs cs).getD (oH n) 0);rw[show oH (n:Int)=n by rfl]
 .intro x m _ C q;rw[yh]at m;let#[n,_,rfl]:=ZC.1 m;show Jf 07 #[07,.refl _]
 .rintro _ _ ⟨rfl,Q,rfl⟩;calc#[_,07,B.len,?_,B.trans<|.cons _ _ _];rw[Jw,yh,List.filter_map,fY,yg,fY];rfl
end
end
section
seal L4.run L4.WS L4.WR
section
variable{rs:Tz}{cs:Ua}{unit:Int}
def Jsp(q:Dw unit rs)(L:br rs cs)(S:Qh [] rs):yg 0 rs cs=[]:=by
 let six:∀r∈rs,WP r.2<=6:=λr k=>(q.f r k).9.1
 let cm:∀p,p<WP cs->cs.getD p cd∈cs:=λp lp=>by rw[Zk,Zd lp];show Zy lp
 let C:=λp lp=>(L.1 _<|cm p lp).1
 let D:∀p (lp:p<WP cs),c7 rs cs p=(rs[(cs.getD p cd).1]'(C p lp)).2:=λp lp=>by unfold c7;rw[Qr<|C p lp]
 let W:∀p,p<WP cs->∀x∈c7 rs cs p,0<=x.2.1:=λp lp x j=>by rw[D p lp]at j;show((q.f _<|Zy<|C p lp).9.2 x j).2.1
 let T:yf rs cs:=λw m x j y F=>by rw[D w m]at j F;show nest (q.f _<|Zy<|C w m).9 j F
 let N:∀r∈rs,Nm r:=λr k=>#[(q.gl r k).1,(q.f r k).3,(q.f r k).7]
 unfold yg;rw[List.filter_eq_nil_iff.2]
 .rfl
 intro p P;let lp:=ig.1 P;let o:=L.1 _<|cm p lp;let ha:=o.1;generalize Q:(cs.getD p cd).1=a at ha;let U:=q.f _<|Zy ha;let I:=S.at_ (rs.take a) (rs.drop<|a+1) rs[a]<|by rw[<-nV ha,List.take_append_drop]
 rw[kC]at I;let#[s,M,H,ld]:=(Mc (Zd ha) q.w).1 I;unfold cU at H;unfold gQ at ld;rw[Qm ha]at H ld;let J:=Mb (a:=a) q.w;let d2:=U.6;let en:=J2v (kind:=0) (a:=a) (L:=s) (B:=bO<|ob rs a) L six W M #[J.1,λw m O x j Y=>by rw[D w m]at j;let l:=C w m;show J.2 ((cs.getD w cd).1,x)<|xZ (by unfold aX at O;show mj.1 06) (by rw[Qr l];show j) Y<|Zb l<|Zh (mK ha).symm] (J2l L N ha M 05<|ld) T;let sp:=(Mq (kind:=0) L six).1 p lp;rw[decide_eq_true_eq,ZU];cases eq:bF p (eY 0 rs cs).5.reverse with|none=>rw[eq]at sp;cases sp|some u=>
  let#[x,j,G,X]:=Mo eq;let E:=en x (uN.1 j)<|by rw[G];unfold aX;rw[Q]
  let R:(QK 0 rs cs).getD p 0=u:=by unfold QK;rw[Zk,Zz,uJ lp];change(bF p _).getD 0=u;rw[eq];rfl
  rw[R,<-X];rw[G]at E;calc ZH E ?_;let l1:=o.4;unfold oX ar gz;rw[Qr o.1];let:(rs[(cs.getD p cd).1]'o.1)=rs[a]:=by congr 1
  rw[this]at l1 ⊢;lia
end
end
section
seal L4.run L4.WS L4.WR
noncomputable abbrev nO (r:RH)(q:Nat):Tv:=[.int r.1.2,.int r.1.3,.int r.1.4,.int r.1.5,.ref q]
def half{a b g:Int}(h:0<g):0<=a%2*(b%g)/\a%2*(b%g)<g:=by let k:=i3 b (b:=g)<|i4 h;let j:=jo b h;let:a%2=0\/a%2=1:=05;rcases this with e|e<;>rw[e]<;>lia
def um{xs:To}(hn:n<WP xs):∃x,bI (xs.map IV.int) (n:Int)=V (.int x):=(#[xs[n],JE<|by rw[Zz,Zd hn];rfl])
def J6d(n)(h0:0<=n)(h1:n<2):∃w,h2 w/\bI [IV.str "ink",IV.str "oven"] n=V (.str w):=by
 let:n=0\/n=1:=05;rcases this with rfl|rfl
 .show#[_,by unfold h2;decide +kernel,JR]
 .show#[_,by unfold h2;decide +kernel,JP]
def J7a{g f m x:Int}(C:1<=g)(B:1<=f/\f<=2)(hm:1<=m):0<g*f/(2*m)+1/\1<=1+x%(g*f/(2*m)+1)/\1+x%(g*f/(2*m)+1)<=g+1:=by
 let u:0<=g*f:=vk (ZJ 06) 05;let p1:g*f<=g*2:=vf B.2<|ZJ 06;let j:g*2<=g*(2*m):=vf 05<|ZJ 06;let k:0<=g*f/(2*m):=Int.ediv_nonneg u 05;let d1:g*f/(2*m)<=g:=by let:=yZ (a:=g*f) (b:=g*(2*m)) (c:=2*m) 05<|ZH p1 j;rwa [Int.mul_ediv_cancel _ 05]at this
 let q1:=i3 x (b:=g*f/(2*m)+1)<|i4<|ZE k<|ZR _ 01;let q2:=jo x (b:=g*f/(2*m)+1)<|vi 06;lia
section
variable{k:Nat}{h:IH}
def Jv6{j:Nat}(hu:1<=unit)(hu2:unit<=1000000000000000)(hm:1<=j)(hm2:j<=5):WR (CL (k+2) [.int c,.int unit,.int (j:Int)] h) λv h'=>Ex h h'/\∃r q,nN unit r/\v=.tup (nO r q)/\WP h<=q/\h'[q]?=V (.lst<|r.2.map aJ):=by
 let hb:=J6;rw[Jk9];calc ao<|ae<|ak<|xb<|Jf (az 07 07)<|WR.mono (KZ (k:=k) (h:=h) c 10 01) ?_;rintro _ h1 ⟨i,xs,rfl,_,C,lx,D,x1⟩;clear D;let at_:∀n:Nat,n<10->∃x,bI (xs.map IV.int) (n:Int)=V (.int x):=λn hn=>um<|Zb hn<|Zh lx.symm
 let#[I,e0]:=at_ 0 01;let#[F,e1]:=at_ 1 01;let#[y2,e2]:=at_ 2 01;let#[W,e3]:=at_ 3 01;let#[S,e4]:=at_ 4 01;let#[Y,e5]:=at_ 5 01;let#[y6,e6]:=at_ 6 01;let#[y7,R]:=at_ 7 01;let#[O,e8]:=at_ 8 01;let#[H,e9]:=at_ 9 01;clear at_;let b1:unit*1<=unit*(1+I%8):=vf (mY<|i3 _<|i4 01)<|ZJ 06;let b2:unit*(1+I%8)<=unit*8:=vf (by(rw[oF];show jo _ 01))<|ZJ 06;calc ae<|ak<|Jf (aU (fN 07 (aU 07 (bN (aP 07 07 C e0) 07 01)) (.inr<|.inl 05))<|bN (aP 07 07 C e1) 07 01) ?_;obtain⟨g,eg,g1,g2⟩:∃g,unit*(1+I%8)+F%5=g/\unit<=g/\g<=8*unit+4:=#[_,07,05,05];rw[eg];clear eg b1 b2;obtain⟨f,hf,ef⟩:∃f:Int,(1<=f/\f<=2)/\bI [IV.int 1,IV.int 2] (F/5%2)=V (.int f):=by
  let:F/5%2=0\/F/5%2=1:=05;rcases this with q|q<;>rw[q]
  .show#[_,01,JR]
  .show#[_,01,JP]
 let lm:(2*(j:Int)).natAbs.log2<9000:=kN (Nat.log2_le_self _) 05;let#[w0,Q,U]:=J7a (g:=g) (f:=f) (m:=(j:Int)) (x:=y2) (ZH hu g1) hf<|jq.2 06;calc ae<|ak<|Jf (aU 07 (bN (aP 07 07 C e2) (aU (Q8 (fN 07 (rZ (az 07 07) 07 (bN (Q8 (aP 07 07 (grow C) e1) 07 01 01) 07 01) ef) (.inr<|.inl 00)) (fN 07 07 (.inl 01)) 05 lm) 07) w0)) ?_;generalize 1+y2%(g*f/(2*(j:Int))+1)=len at Q U;generalize IX.lst _=o;let P:=x1.trans<|.one h1 o;let B:=grow (g:=[o]) C;generalize h1++[o]=hA at P B ⊢;let u:=half (a:=W) (b:=S) (g:=g*9/10+1) 05;let t:=half (a:=Y) (b:=y6) (g:=g/4+1) 05;calc ae<|ak<|Jf (cZ 07 (fN (bN (aP 07 07 B e3) 07 01) (bN (aP 07 07 B e4) (aU (Q8 (fN 07 07 (.inr<|.inl 01)) 07 01 01) 07)<|ZE u.1 u.2)<|.inl 05)) ?_;obtain⟨bh,Z,u1,u2⟩:∃bh,g-W%2*(S%(g*9/10+1))=bh/\1<=bh/\bh<=g:=#[_,07,05,vj _ u.1];rw[Z];clear Z u;calc ae<|ak<|Jf (fN (bN (aP 07 07 B e5) 07 01) (bN (aP 07 07 B e6) (aU (Q8 07 07 01 01) 07)<|ZE t.1 t.2)<|.inl 05) ?_;obtain⟨ag,et,t1,t2⟩:∃ag,Y%2*(y6%(g/4+1))=ag/\0<=ag/\4*ag<=g:=#[_,07,t.1,05];rw[et];clear et t;let lA:=P.len;calc ae<|ak<|Jf (dH 07 07) ?_;let fin:∀(G:Tx)(X:IH)(a b:Te){N:aD->IH->Prop},jJ len G->WS (KL (k+1) [V<|.int c,V<|.int unit,V<|.int (j:Int),V<|.ref i,V<|.int g,V<|.int len,V<|.int bh,V<|.int ag,V<|.ref (WP hA),a,b]<|hA++IX.lst (G.map aJ)::X) N λv h'=>Ex h h'/\∃r q,nN unit r/\v=.tup (nO r q)/\WP h<=q/\h'[q]?=V (.lst<|r.2.map aJ):=λG X a b {N} ok=>
  au (Jf (hZ (show Jb _ (Jb _<|Jb _<|Jb _<|Jb _ Je) _ _=.ok [_,_,_,_,_] _ from 07) 07) #[P.trans<|.cons _ _ _,#[#[⟨#[]⟩,g,len,bh,ag],G],_,#[g1,g2,Q,U,u1,u2,t1,t2,ok],07,lA,Jw])
 let nil:jJ len []:=#[01,λx D=>(by cases D),λm n _ hn=>(by rw[uO]at hn;show absurd 06<|mQ _)];refine ae (nF<|C0<|Jf (kj 07 07)<|eI (λq1=>Jf (rY (bN (aP 07 07 (grow B) R) 07 01) 07)<|eI (λ_=>?_) λ_=>aM<|fin [] _ _ _ nil) λ_=>#[(λz=>by cases z),λ_=>aM<|fin [] _ _ _ nil])
 .let q1:1<len:=q1;let#[w,hw,ew]:=J6d (y7/3%2) (i3 _<|i4 01)<|jo _ 01;let s0:=i3 O (b:=len-1)<|i4<|oB q1;let E:=jo O (b:=len-1)<|oB q1;obtain⟨st,M,s0,E⟩:∃st,O%(len-1)=st/\0<=st/\st<len-1:=#[_,07,s0,E];let L:=i3 H (b:=len-1-st)<|i4<|oB E;let v1:=jo H (b:=len-1-st)<|oB E;obtain⟨en,J,L,v1⟩:∃en,st+1+H%(len-1-st)=en/\st<en/\en<len:=#[_,07,Z8 (ZR _ 01)<|mY L,00];calc ae (ak<|Jf (eS (bN (aP 07 07 (grow B) e8) (cZ 07 07)<|oB q1)<|congrArg IV.int M)<|ae<|ak<|Jf (eS (aU (aU 07 07)<|bN (aP 07 07 (grow B) e9) (cZ (cZ 07 07) 07)<|oB E)<|congrArg IV.int J)<|JU<|Qo 07 Jr Vt (Jf (aj<|hZ (fM (rZ (az 07 07) 07 (bN (Q8 (aP 07 07 (grow<|grow B) R) 07 01 01) 07 01) ew) 07 07) 07)<|gv (grow Jr) (by change 0<sizeLine;show mP 06) ?_));rw[fQ,fR,V2];refine fin [(w,st,en)] _ _ _ #[by change 1<=6;decide,λx D=>?_,λm n hm hn=>?_]
  .rw[ZB.1 D];show#[hw,s0,L,v1]
  .rw[o7]at hn;lia
end
end
section
seal L4.run L4.WS L4.WR
structure gT(h:IH)(ys:Tv)(rs:Tz):Prop where
 len:WP ys=WP rs
 at_:∀(i:Nat) y r,ys[i]?=V y->rs[i]?=V r->∃q,y=.tup (nO r q)/\h[q]?=V (.lst<|r.2.map aJ)
def gT.kp(k:Kp h h')(w:gT h ys rs):gT h' ys rs:=(#[w.1,λi y r a b=>let ⟨q,e,g⟩:=w.2 i y r a b;#[q,e,k _ _ g]])
def br.snoc(L:br rs cs)(ok:xI rs c)(nJ:∀a∈cs,a.1=c.1->a.2+(rs[c.1]'ok.1).1.2<=c.2):br rs (cs++[c]):=by
 refine#[λx D=>?_,λi j a b lt B m e r C=>?_]
 .rcases ZQ.1 D with h|h
  .show L.1 x h
  .rw[ZB.1 h];show ok
 .let u:=(Zp.1 m).1;rw[Z1,o7]at u;let E:i<WP cs:=jL (b:=1)<|Zb (Zc lt 1) u;rw[ZN E]at B;by_cases k:j<WP cs
  .rw[ZN k]at m;show L.2 i j a b lt B m e r C
  .let:j=WP cs:=ZW (jL (b:=1) u)<|ZM k;subst this;rw[ZL<|Zm _,yp]at m;cases m;let:=nJ a (o9 B) e;rw[e,Zd ok.1]at C;cases C;show this
def br.nil:br rs []:=(#[(λc k=>by cases k),λi j a b _ e=>by cases e])
def D9(xs:To)(hn:(WP xs:Int)=n)(h0:0<n):∃x∈xs,bI (xs.map IV.int) (y%n)=V (.int x):=by let a:=i3 y (b:=n)<|i4 h0;let b:=jo y h0;let l:(y%n).toNat<WP xs:=(vm a).2<|Z8 b<|Z3 hn.symm;show#[xs[(y%n).toNat],Zy l,Hg a<|by rw[Zz,Zd l];rfl]
section
variable{k:Nat}{h:IH}{S C:Nat}{ys:Tv}{unit:Int}
structure Nx(rs:Tz)(cs:Ua)(nx:To):Prop where
 len:WP nx=WP rs
 nn:∀x∈nx,0<=x
 nJ:∀a∈cs,∀r,rs[a.1]?=V r->a.2+r.1.2<=nx.getD a.1 0
def RwI(h:IH)(C S bC:Nat)(rs:Tz)(n:Nat)(U:aD)(h':IH):Prop:=∃(cs:Ua)(nx:To)(ba:Int)(a6 a7 a8 a9 a10 a11 a12 a13 a14 a15 a16 a17:Te),U=[V<|.ref C,V<|.ref S,V<|.ref bC,V<|.ref (WP h),V<|.ref<|WP h+1,V<|.int ba,a6,a7,a8,a9,a10,a11,a12,a13,a14,a15,a16,a17]/\h'[WP h]?=V (.lst<|cs.map ax)/\h'[WP h+1]?=V (.lst<|nx.map .int)/\Kp h h'/\WP cs=n/\br rs cs/\Nx rs cs nx
def J4s{os:Tp}(G:Dw unit rs0)(pos:0<WP rs0)(hS:h[S]?=V (.lst ys))(R:gT h ys rs0)(hO:h[bC]?=V (.lst<|ni os))(po:os.Perm<|Z6 (WP rs0)){cells:To}(hC:h[C]?=V (.lst<|cells.map .int))(hc:WP cells<=12):
  WR (CM (k+2) [.ref C,.ref S,.ref bC] h) λv h'=>∃cs,v=.ref (WP h)/\h'[WP h]?=V (.lst<|cs.map ax)/\br (pk rs0 os) cs/\WP cs<=12/\Ex h h':=by
 let hb:=J6;let rl:=R.1;let cW:=G.l;let lo:WP os=WP rs0:=by rw[po.length_eq,kz]
 generalize ers:pk rs0 os=u;let lr:WP u=WP rs0:=by rw[<-ers,pk,Zn,lo]
 rw[Jo6];let Y_:=@X8 (h++[IX.lst []]) (h++[IX.lst []]) (Jv 'b') (KN<|k+1) [] [V<|.ref C,V<|.ref S,V<|.ref bC,V<|.ref (WP h),Zg,Zg,Zg,Zg,Zg,Zg,Zg,Zg,Zg,Zg,Zg,Zg,Zg,Zg] ys (λh'=>h'[S]?=V (.lst ys)) (λ_=>.int 0)
  (by rw[Qn];show Jf 07 ((Qt _).mpr #[_,grow hS,07,07,07])) (Zb (Zi _ 999995)<|Zb (Zc (Zb (Zc (Zh rl) 1)<|Zc cW 1) 999995) hb) (λJ z=>z _ _<|grow hS) λx X J z=>Jf 07 #[07,.refl _]
 calc ao<|ae<|ak<|Jf (dH 07 07)<|ae<|ak ?_;generalize hcc:Jy _ _ _ _ _ _ _ _=rc at Y_;let#[g,rfl]:=Y_;calc Jf hcc ?_;clear hcc;let ez:ys.map (λ_=>IV.int 0)=((d8 (WP u) 0:To)).map IV.int:=by rw[List.map_replicate,lr,<-rl];show List.map_const' ..
 rw[ez];let l1:(h++[IX.lst []]).length=WP h+1:=03;let gM:(h++[IX.lst []]++IX.lst ((d8 (WP u) 0:To).map IV.int)::g)[WP h]?=V (.lst []):=(Ex.cons _ _ _).get Jr;let gN:(h++[IX.lst []]++IX.lst ((d8 (WP u) 0:To).map IV.int)::g)[WP h+1]?=V (.lst<|(d8 (WP u) 0:To).map IV.int):=by rw[<-l1];show Jw
 let x0:Ex h (h++[IX.lst []]++IX.lst ((d8 (WP u) 0:To).map IV.int)::g):=(Ex.one _ _).trans<|.cons _ _ _;rw[l1];generalize h++[IX.lst []]++IX.lst ((d8 (WP u) 0:To).map IV.int)::g=h0 at gM gN x0 ⊢;calc ae<|ak<|Jf 07 (ae<|jH ?_);rw[Qn];calc Jf 07 ((Qt _).mpr #[_,x0.get hC,?_]);refine Vd (RwI h C S bC u)
  (λn U h' z=>by let#[_,_,_,_,_,_,_,_,_,_,_,_,_,_,_,_,_,_,kp,_]:=z;show kp _ _ hC) ?_ ?_ #[[],_,0,Zg,Zg,Zg,Zg,Zg,Zg,Zg,Zg,Zg,Zg,Zg,Zg,07,gM,gN,x0.kp,07,.nil,03,(λx X=>by rw[(List.mem_replicate.1 X).2];show ZD _),λa ha=>by cases ha]
 .rintro n hn _ h1 ⟨cs,nx,ba,a6,a7,a8,a9,a10,a11,a12,a13,a14,a15,a16,a17,rfl,g1,g2,k1,Y,Lg,N⟩;rw[Zn]at hn;rw[fS];calc jg 07 (ae<|ak<|xb<|Jf (az 07 07)<|WR.mono (KZ (k:=k) (h:=h1) cells[n] 6 01) ?_);rintro _ J ⟨i,xs,rfl,li,W,lx,X,x2⟩;let li:WP h+1<i:=ZO (JF g2) li;clear X;let at_:∀n:Nat,n<6->∃x,bI (xs.map IV.int) (n:Int)=V (.int x):=λn hn=>um<|Zb hn<|Zh lx.symm
  let#[y0,e0]:=at_ 0 01;let#[y1,e1]:=at_ 1 01;let#[y2,e2]:=at_ 2 01;let#[y3,e3]:=at_ 3 01;let#[y4,e4]:=at_ 4 01;let#[y5,e5]:=at_ 5 01;clear at_;let g1:=x2.get g1;let g2:=x2.get g2;let k2:=k1.trans x2.kp;clear x2 k1;let r0:=i3 y0 (b:=WP rs0) 05;let r1:=jo y0 (b:=WP rs0)<|mj.2 06;obtain⟨j,ej,lj0⟩:∃j:Nat,y0%(WP rs0:Int)=(j:Int)/\j<WP rs0:=#[(y0%(WP rs0:Int)).toNat,gU (sU _)<|Z3<|rn r0,(vm r0).2 r1];let M:j<WP u:=Zb lj0<|Zh lr.symm;let O:j<WP os:=Zb lj0<|Zh lo.symm;let lw:os[j]<WP rs0:=ig.1<|po.mem_iff.1<|Zy O;let eO:bI (ni os) (j:Int)=V (.int (os[j]:Nat)):=JE<|by rw[Zz,Zz,Zd O];rfl
  let ew:u[j]=rs0[os[j]]:=by
   let:u[j]?=V rs0[os[j]]:=by rw[<-ers,pk,Zz,Zd O];change V (rs0.getD os[j] rd)=_;rw[Zk,Zd lw];rfl
   rw[Zd M]at this;show eV this
  let#[q,ea',gq]:=R.2 os[j] _ _ (Zd<|show os[j]<WP ys by show Zb lw<|Zh rl.symm)<|Zd lw;let ea:bI ys ((os[j]:Nat):Int)=V (.tup<|nO rs0[os[j]] q):=JE (by rw[Zd (show os[j]<WP ys by lia),ea']);let f:=G.f _<|Zy lw;rw[<-ew]at ea gq f;let f1:=f.1;let f2:=f.3;let f3:=f.7;let u1:=G.1;let er:=Zd M;let nl:=N.1;let en:bI (nx.map IV.int) (j:Int)=V (.int<|nx.getD j 0):=JE<|by rw[Zz,Zk,Zd<|Zb M<|Zh nl.symm];rfl
  let n0:0<=nx.getD j 0:=by rw[Zk,Zd<|show j<WP nx by show Zb M<|Zh nl.symm];show N.2 _<|Zy _
  let ok0:∀(c l e:Int),0<=c->0<=l->l<=(u[j]).1.5->1<=e->e<=(u[j]).1.3->xI u #[j,c,l,e]:=λc l e a b d e f=>#[M,a,b,d,e,f]
  let fr:∀a∈cs,a.1=j->a.2+(u[j]).1.2<=nx.getD j 0:=λa ha e=>by
   let:=N.3 a ha _<|by rw[e];show er
   rwa [e]at this
  generalize hr:u[j]=r at ea gq f f1 f2 f3 er ok0 fr ew;calc ae (ak<|Jf (eS (bN (aP 07 07 W e0) ((dj 07 (k2 _ _ hS)).trans<|by rw[rl])<|ZE r0 r1)<|congrArg IV.int ej)<|ae<|(YY ..).mpr<|Jf (aP 07 (aP 07 07 (k2 _ _ hO) eO) (k2 _ _ hS) ea)<|jg 07 ?_);let#[d,_,ed]:=D9 (n:=4) (y:=y2) [0,0,y1%3,y1%(r.1.2+1)] 07 01;calc ae<|ak<|Jf (aU 07 (rZ (iS 07 07 (bN (aP 07 07 W e1) 07 01) (bN (aP 07 07 W e1) (aU 07 07) 05)) 07 (bN (aP 07 07 (grow W) e2) 07 01) ed)) ?_;generalize IX.lst _=o1;generalize ba+d=Q;let H:(J++[o1])[i]?=_:=grow W;let g21:(J++[o1])[WP h+1]?=_:=grow g2;let mx:∀{a b:Int},a<=(if b>a then b else a):=λ{a b}=>by split<;>lia
  calc ae<|ak<|Jf (lQ (aP 07 07 g21 en)<|cZ 07 (fN (bN (Q8 (aP 07 07 H e2) 07 01 01) 07 01) 07 (.inl 05))) ?_;let c1:=mx (a:=nx.getD j 0) (b:=Q-y2/4%2*r.1.5);generalize (if Q-_>nx.getD j 0 then _ else _)=aG at c1 ⊢;let#[B,D,ebe]:=D9 (n:=4) (y:=y4) [0,r.1.5,if (if Q-aG<r.1.5 then Q-aG else r.1.5)>0 then(if Q-aG<r.1.5 then Q-aG else r.1.5)else 0,y3%(r.1.5+1)] 07 01;let q1:=i3 y3 (b:=r.1.5+1)<|i4<|ZE f3<|ZR _ 01;let q2:=jo y3 (b:=r.1.5+1)<|vi 06;let D:0<=B/\B<=r.1.5:=by
   simp![ZG,kB,or_false]at D;rcases D with e|e|e|e
   .show#[(Z3 e.symm),(ZH (Z3 e) f3)]
   .show#[(ZH f3<|Z3 e.symm),(Z3 e)]
   .rw[e];split
    .split<;>(first|show#[(ZJ 06),(ZJ 06)]|show#[01,f3]|lia)
    .omega
   .show#[(ZH q1<|Z3 e.symm),(ZH (Z3 e)<|yX q2)]
  calc ae<|ak<|Jf (rZ (iS 07 07 (lQ 07 (t7 07 (cZ 07 07))) (bN (aP 07 07 H e3) (aU 07 07)<|vi 06)) 07 (bN (aP 07 07 (grow H) e4) 07 01) ebe) ?_;generalize IX.lst _=o2;let hi2:(J++[o1]++[o2])[i]?=_:=grow H;let#[E,I,ele]:=D9 (n:=3) (y:=y4/4) [r.1.3,r.1.3,1+y5%r.1.3] 07 01;let q3:=i3 y5 (b:=r.1.3)<|i4 06;let q4:=jo y5 (b:=r.1.3) 06;let I:1<=E/\E<=r.1.3:=by simp![ZG,kB,or_false]at I;lia
  calc ae<|ak<|Jf (rZ (fM 07 07 (aU 07 (bN (aP 07 07 hi2 e5) 07 06))) 07 (bN (Q8 (aP 07 07 (grow hi2) e4) 07 01 01) 07 01) ele) ?_;generalize IX.lst _=o3;let x3:Ex J (J++[o1]++[o2]++[o3]):=((Ex.one _ _).trans<|.one _ _).trans<|.one _ _;let hi3:=x3.get W;let F:=x3.get g1;let g23:=x3.get g2;let k3:=k2.trans x3.kp;generalize J++[o1]++[o2]++[o3]=Z at x3 hi3 F g23 k3 ⊢;calc ae (JU<|Qo 07 F Vt (Jf (aj<|hZ (iS 07 07 07 07) 07)<|gv F (by rw[Zn];show Zb (Zi _ 999989)<|Zb (Zc (Zb (Zb (Zc (Zh Y) 1) hn) hc) 999989) hb) ?_));let g14:(Z.set (WP h)<|.lst<|cs.map ax++[ax #[j,aG,B,E]])[WP h]?=V (.lst<|(cs++[(#[j,aG,B,E]:Cm)]).map ax):=by rw[JW F,jl];rfl
  let P:(Z.set (WP h)<|.lst<|cs.map ax++[ax #[j,aG,B,E]])[WP h+1]?=V (.lst<|nx.map .int):=J4 g23<|Zu<|Zm _;let hi4:(Z.set (WP h)<|.lst<|cs.map ax++[ax #[j,aG,B,E]])[i]?=V (.lst<|xs.map .int):=J4 hi3<|Zu<|Z7 li;let k4:Kp h (Z.set (WP h)<|.lst<|cs.map ax++[ax #[j,aG,B,E]]):=λa o e=>J4 (k3 _ _ e) (by let:=JF e;show ZY this)
  generalize Z.set (WP h) (.lst<|cs.map ax++[ax #[j,aG,B,E]])=h4 at g14 P hi4 k4 ⊢;let ok:=ok0 aG B E (ZH n0 c1) D.1 D.2 I.1 I.2;let Lg':br u (cs++[#[j,aG,B,E]]):=Lg.snoc ok λa ha e=>by let:=fr a ha e;change a.2+(u[j]).1.2<=aG;rw[hr];show ZH this c1
  let N':Nx u (cs++[#[j,aG,B,E]]) (nx.set j<|aG+r.1.2):=by
   refine#[by rw[nY];show nl,λx X=>?_,λa ha r' L=>?_]
   .rcases List.mem_or_eq_of_mem_set X with z|z
    .show N.2 x z
    .lia
   .rw[Zk];by_cases z:j=a.1
    .rw[z,iY<|Zb (Zb (Zc (Zh z.symm) 1) M)<|Zh nl.symm];rw[<-z,er]at L;cases L;rcases ZQ.1 ha with m|m
     .let:=fr a m z.symm;change _<=aG+_;lia
     .rw[ZB.1 m];show ZD _
    .rw[ia z,<-Zk];rcases ZQ.1 ha with m|m
     .show N.3 a m r' L
     .rw[ZB.1 m]at z;show absurd 07 z
  let ix:ik (nx.map IV.int).length (j:Int)=V j:=by unfold ik;rw[Zn];simp;show Zb M<|Zh nl.symm
  calc ae<|(YY ..).mpr<|Jf (aU 07 07)<|(J54 ..).mpr<|Jf 07 (Jf 07 ((J11 ..).mpr #[_,P,j,ix,?_]));let g25:(h4.set (WP h+1)<|.lst<|(nx.map IV.int).set j<|.int<|aG+r.1.2)[WP h+1]?=V (.lst<|(nx.set j<|aG+r.1.2).map .int):=by rw[JW P,List.map_set]
  let g15:=J4 (o':=.lst<|(nx.map IV.int).set j<|.int<|aG+r.1.2) g14 (show (WP h)+1≠h.length by show ZY<|Zm _);let k5:Kp h (h4.set (WP h+1)<|.lst<|(nx.map IV.int).set j<|.int<|aG+r.1.2):=λa o e=>J4 (k4 _ _ e) (by let:=JF e;show ZY<|Zb this<|Zi _ 1)
  let hi5:=J4 (o':=.lst<|(nx.map IV.int).set j<|.int<|aG+r.1.2) hi4 (show (WP h)+1≠i by show Zu li);generalize h4.set (WP h+1) (.lst<|(nx.map IV.int).set j<|.int<|aG+r.1.2)=h5 at g25 g15 k5 hi5 ⊢;show ak (Jf (lQ 07 07) #[_,_,_,_,_,_,_,_,_,_,_,_,_,_,_,07,g15,g25,k5,by rw[Z1,Y];rfl,Lg',N'])
 .rintro _ h1 ⟨cs,nx,ba,a6,a7,a8,a9,a10,a11,a12,a13,a14,a15,a16,a17,rfl,g1,g2,k1,Y,Lg,N⟩;rw[Zn]at Y;show au<|Jf 07 #[cs,07,g1,Lg,Zb (Zh Y) hc,Y3 k1]
end
end
section
seal L4.run L4.WS L4.WR
section
variable{k:Nat}{h:IH}
def Mu{as:To}(hi:h[i]?=V (.lst<|as.map .int))(k:h[j]?=V (.lst [])):Vu (.ref i) (.ref j) h=V as.isEmpty:=by unfold Vu;rw[yc hi,yc (ls:=[]) k];dsimp only;rw[if_pos #[by rw[pG];show yd as,by rw[pG];show yd []],my];cases as with|nil=>unfold List.map sZ;rfl|cons a l=>rw[ZS,List.map_nil];unfold sZ;rfl
def J34{as:To}(hi:h[i]?=V (.lst<|as.map .int))(k:h[j]?=V (.lst [])):jz (.ref i) (.ref j) h=.ok (.bl (!as.isEmpty)) h:=by unfold jz;rw[show VU (.ref i) (.ref j)=Zg from 07,Mu hi k]
def J2t{as:To}(hi:h[i]?=V (.lst<|as.map .int))(k:h[j]?=V (.lst [])):il (.ref i) (.ref j) h=.ok (.bl as.isEmpty) h:=by unfold il;rw[show VU (.ref i) (.ref j)=Zg from 07,Mu hi k]
def Jvq{m:Nat}(C:m<=12):
  WR (CO (k+1) [.int (m:Int),.int c] h) λv h'=>∃(i:Nat)(os:Tp),v=.ref i/\h'[i]?=V (.lst<|ni os)/\os.Perm (Z6 m)/\Ex h h':=by
 let M:=J6;rw[Jk8];calc ao<|ae<|ak<|Jf (D5 07 (Zb C<|Zi _ 988))<|ae<|ak<|Jf (dH 07 07)<|ae ?_;let D:(Z6 m).length=m:=kz;generalize Z6 m=l at D;calc xK (λz U h'=>∃u B E g,z=WP u/\h'=h++IX.lst (ni u)::IX.lst (ni B)::g/\U=[V<|.int (m:Int),V<|.int E,V<|.ref (WP h),V<|.ref<|WP h+1]/\(B++u).Perm l) ?_ (m:=WP l) (Zb (Zb (Zc (Zh D) 1)<|Zc C 1)<|Zi _ 999987) #[l,[],c,[],07,03,by rw[Z1];rfl,.refl _];rintro z _ _ ⟨u,B,E,g,rfl,rfl,rfl,p⟩;let I:WP B+WP u=WP l:=by rw[<-Z1,p.length_eq]
 let g1:(h++IX.lst (ni u)::IX.lst (ni B)::g)[WP h]?=V (.lst<|ni u):=Jw;let g2:∀{o:IX}{g:IH},(h++o::IX.lst (ni B)::g)[WP h+1]?=V (.lst<|ni B):=λ{o g}=>by rw[ZL<|fP _];simp
 let ln:(ni u).length=WP u:=03;refine Jf (bR<|(aF 07 (dH 07 07)).trans<|J34 (as:=u.map λn:Nat=>(n:Int)) (grow g1) Jr) #[λq=>?_,λq=>?_]
 .let ne:u≠[]:=λz=>by rw[z]at q;cases q
  let G:0<WP u:=List.length_pos_iff.2 ne;let H:=i3 E (b:=WP u) 05;let J:=jo E (b:=WP u)<|mj.2 06;calc#[WP u-1,ZW (o4<|Zm _)<|Zh<|o5 G,?_];rw[fQ,fR,fR];obtain⟨j,L,F⟩:∃j:Nat,E%(WP u:Int)=(j:Int)/\j<WP u:=#[(E%(WP u:Int)).toNat,gU (sU _)<|Z3<|rn H,(vm H).2 J];let P:(ni u)[j]?=V (.int (u[j]:Nat)):=by rw[Zz,Zz,Zd F];rfl
  calc ae (JU<|Qo 07 g2 Vt ((BI ..).mpr<|Qo 07 Jw J2a (Jf (aj<|eS (bN 07 ((dj 07 Jw).trans<|by rw[ln]) (ZE H J))<|congrArg IV.int L) ?_)));rw[J51 Jw (Zb (Zb (Zb (Zb (Zb F<|kx _ _)<|Zh I)<|Zh D) C)<|Zi _ 999988) P,V2];calc Jf 07 (gv g2 (by rw[Zn,Zn];show Zb (Zi _ 999988)<|Zb (Zc (Zb (Zb (Zb (Zc (Zi _ _) 1)<|Zc (Zh I) 1)<|Zc (Zh D) 1)<|Zc C 1) 999988) M) ?_);rw[Ep _ _<|fP _];refine ak (Jf (Q8 07 07 01 01) #[u.eraseIdx j,B++[u[j]],_,g++[.lst []],by rw[Ei F],?_,07,?_])
  .rw[Y2,Y2];simp
  .rw[fQ];show((D7 u j F).append_left B).trans p
 .let O:u=[]:=by cases u with|nil=>rfl|cons _ _=>cases q
  subst O;rw[iC]at p;show au<|Jf 07 #[_,B,07,grow g2,p,(Ex.cons _ _ _).trans<|.one _ _]
end
end
section
seal L4.run L4.WS L4.WR
def jK(n:Nat):Str:=vI (eA "press") (V<|4-(n:Int)) Zg
def J0j:∀n,n<5->h2 (jK n):=by unfold h2;decide +kernel
def Jvu:∀n,n<5->∀l,l<5->jK n=jK l->n=l:=by decide +kernel
def slE(j:a U h=.ok (.str x) h)(B:lo U h=.ok l h)(k:hi U h=.ok u h)(z:x.length<=8)(e:vI x l u=y):jY nt a lo hi U h=.ok (.str y) h:=by let m:=J6;calc Ju<|(YX ..).mpr<|Jf j<|Jf B<|Jf k ?_;rw[J1v,e];show#[Zb (Zi _ 999993)<|Zb (Zc z 999993) m,07,07]
def Ea(q:e U h=.ok (.int i) h1):Qz e U h=.ok (V i) h1:=by unfold Qz;rw[q];rfl
def Mv(h:IH)(v:IV)(r:RH):Prop:=∃j,v=.ref j/\h[j]?=V (wo r)
def cQ.snoc(w:cQ h vs rs)(x:Mv h v r):cQ h (vs++[v]) (rs++[r]):=by
 let j:=w.1;calc#[by simp[j],λi u e a b=>?_];by_cases k:i<WP vs
 .rw[ZN k]at a;rw[ZN<|mL 06 06]at b;show w.2 i u e a b
 .rw[ZL<|ZM k]at a;rw[ZL<|Zb (Zh j.symm)<|ZM k]at b;let m:i-WP vs=0:=by
   by_cases q:i-WP vs=0
   .show q
   .obtain⟨n,hn⟩:∃n,i-WP vs=n+1:=#[i-WP vs-1,ZW (o4<|Zm _)<|Zh<|o5<|iA (ZX _)<|bP q];rw[hn]at a;cases a
  rw[m]at a;rw[<-j,m]at b;cases a;cases b;show x
theorem Mw:∀(ys:Tv)(j:Nat),(∀y∈ys,∃r q,nN unit r/\y=.tup (nO r q)/\h[q]?=V (.lst<|r.2.map aJ))->∃rs:Tz,gT h ys rs/\∀i r,rs[i]?=V r->nN unit r/\r.1.1=jK (j+i)
 |[],_,_=>#[[],#[07,λi y r e=>by simp at e],λi r e=>by simp at e]
 |y::ys,j,q=>by
  let#[r,p,f,m,k]:=q y<|Z2 ..;let#[rs,R,P]:=Mw ys (j+1) λz u=>q z<|Zq _ u
  refine#[({r.1 with name:=jK j},r.2)::rs,#[by rw[jj,jj,R.1],λi B s a b=>?_],λi s e=>?_]
  .cases i with
   |zero=>cases eV a;cases eV b;show#[p,m,k]
   |succ i=>show R.2 i B s a b
  .cases i with
   |zero=>cases eV e;show#[#[f.1,f.2,f.3,f.4,f.5,f.6,f.7,f.8,f.9],07]
   |succ i=>let:=P i s e;rwa [show j+(i+1)=j+1+i by lia]
section
variable{k:Nat}{h:IH}
def J5m{s0 s1 O M S C B:Te}(hu:1<=unit)(f:nN unit r)(nm:r.1.1=jK n)(hn:n<5)(Z:WP vs<=12)(W:(h0++IX.lst vs::g)[q]?=V (.lst<|r.2.map aJ)) (K:∀w g',Mv (h0++IX.lst (vs++[w])::g') w r->jf (WP h0) (h0++IX.lst vs::g) (h0++IX.lst (vs++[w])::g')->N [s0,s1,O,M,S,V<|.ref (WP h0),V<|.int (n:Int),V<|.int r.1.2,V<|.int r.1.3,V<|.int r.1.4,V<|.int r.1.5,V<|.ref q,C,B] (h0++IX.lst (vs++[w])::g')):WS (JH (Jm (pg<|k+5) "append" 1 'f'<|Jb (JI "Work" (Yf<|k+5) []<|Jb (jY nt (eC<|.str "press") (Qz<|Jc JQ '4' 'g') V0)<|Jb 'h'<|Jb 'i'<|Jb 'j'<|Jb 'k'<|Jb (bp (bx Q3)<|Jb 'l' Je) Je) Je) [s0,s1,O,M,S,V<|.ref (WP h0),V<|.int (n:Int),V<|.int r.1.2,V<|.int r.1.3,V<|.int r.1.4,V<|.int r.1.5,V<|.ref q,C,B] (h0++IX.lst vs::g)) N R:=by
 let Y:=J6;let f1:=f.1;let eN:∀{U:aD}{h:IH},Ja 6 U h=.ok (.int (n:Int)) h->jY nt (eC<|.str "press") (Qz<|Jc JQ '4' 'g') V0 U h=.ok (.str r.1.1) h:=λ{U h} e6=>
  slE 07 (Ea<|cZ 07 e6) 07 (by decide +kernel) nm.symm
 let u:∀{a:E1}{r:A1}{U:aD}{h:IH}{Q:Tv->IH->Prop},WR (a U h) (λx F=>WR (r U F) λxs J=>Q (x::xs) J)->WR (Jb a r U h) Q:=λx=>(BI ..).mpr x
 calc JU<|Qo 07 Jw Vt (u<|(Xx ..).mpr<|u<|Jf (eN 07)<|u<|Jf 07 (u<|Jf 07 (u<|Jf 07 (u<|Jf 07 (u<|Jf (xD 07 W)<|Jf 07 ?_)))));generalize m:r.2.map aJ=hs;calc WR.mono (J0e (k:=k) (hs:=hs) (by rw[nm];show J0j n hn) (ZH hu f1) f.3 f.7 (λF=>Jpn f.5 f.6) λF z=>m▸Jlk (z _ _<|by rw[m];show Jr) f.9) ?_;rintro _ h3 ⟨rfl,D,rfl⟩;calc#[07,Jf 07 ?_];let I:Ex (h0++IX.lst vs::g) (h0++IX.lst vs::g++[IX.lst hs]++IX.ins "Work" (fm r.1.1 r.1.2 r.1.3 r.1.4 r.1.5 hs)::D):=(Ex.one _ _).trans<|.cons _ _ _;let E:(h0++IX.lst vs::g++[IX.lst hs]++IX.ins "Work" (fm r.1.1 r.1.2 r.1.3 r.1.4 r.1.5 hs)::D)[List.length<|h0++IX.lst vs::g++[IX.lst hs]]?=V (.ins "Work"<|fm r.1.1 r.1.2 r.1.3 r.1.4 r.1.5 hs):=Jw;generalize X:List.length (h0++IX.lst vs::g++[IX.lst hs])=w at E;let L:w≠h0.length:=by rw[<-X,Z1,Z1,jj];lia
 let el:h0++IX.lst vs::g++[IX.lst hs]++IX.ins "Work" (fm r.1.1 r.1.2 r.1.3 r.1.4 r.1.5 hs)::D=h0++IX.lst vs::(g++IX.lst hs::IX.ins "Work" (fm r.1.1 r.1.2 r.1.3 r.1.4 r.1.5 hs)::D):=03;rw[el]at I E ⊢;generalize g++IX.lst hs::IX.ins "Work" (fm r.1.1 r.1.2 r.1.3 r.1.4 r.1.5 hs)::D=H at I E;let P:jf (WP h0) (h0++IX.lst vs::H) (h0++IX.lst (vs++[.ref w])::H):=λj o G e=>by rw[<-V2 (o:=IX.lst vs),ia<|bP G];show e
 calc gv Jw (Zb (Zi _ 999988)<|Zb (Zc (Zc Z 1) 999988) Y) ?_;rw[V2];show K (.ref w) H #[w,07,by let z:=P _ _ L E;rw[<-m]at z;show z] λj o G e=>P j o G<|I.get e
end
end
section
seal L4.run L4.WS L4.WR
section
variable{R:Nat}{p d:Int}
def Mx:(sh R p d).lookup ("row":Str)=V (.ref R):=02
def My:(sh R p d).lookup ("place":Str)=V (.int p):=02
def Mz:(sh R p d).lookup ("turn":Str)=V (.int d):=02
def bq3:(sh R p d).lookup ("kept":Str)=Zg:=02
end
section
variable{rs:Tz}{a m:Nat}{o:Wg}{unit:Int}
def Hw.line(W:Hw rs a o m)(f:Fx (JB rs a o) a (tO rs a o) (bO o) e)(j:∀t,1<=t->t<=cU rs a->t<gQ rs a o t):tO rs a o+cU rs a<e:=by
 let t:=f.t;by_cases c:e-tO rs a o<=cU rs a
 .let h:=j _ 05 c;let d:=J6n W.w (show 1<=e-tO rs a o by lia) c W.4;rw[show tO rs a o+(e-tO rs a o)=e by lia]at d;let q:=f.3;unfold gQ at h;lia
 .lia
def J7c(e:iV rs a=.int L):An rs a (ob rs a) (.int L):=by
 unfold iV at e;split at e
 .rename_i u;let:=u.choose_spec;rwa [e]at this
 .cases e
def Jp4(q:Dw unit rs)(k:∀a,a<WP rs->∃L,iV rs a=.int L):Qh [] rs:=by
 refine Ma λA B r e=>?_
 subst e;let#[L,j]:=k (WP A) 03;rcases(J7c j).fit (r:=r) 03 q.w with⟨z,_⟩|⟨_,f⟩
 .cases z
 .simpa using f
end
section
variable{k:Nat}{h:IH}{S D bC:Nat}{ys:Tv}{rs0:Tz}{os:Tp}{unit:Int}
def J6f:CI (k+1) [v] h=.ok (.bl Zo) h:=(Ju<|by rw[Jhb];show ao<|au<|Jf 07 #[07,07])
def MA(d:ji h D (pk rs0 os) unit)(po:os.Perm<|Z6 (WP rs0))(hS:h[S]?=V (.lst ys))(R:gT h ys rs0)(hO:h[bC]?=V (.lst<|ni os))(t0:h[1]?=V (.tab "Bench.__init__"))(t1:h[0]?=V (.tab "Order.pick"))(no:¬Qh [] (pk rs0 os)):WR (xx (k+9) [.ref D,.ref S,.ref bC] h) λv _=>v=.bl Zl:=by
 let ln:∀a,a<(pk rs0 os).length->∃ha:a<WP os,os[a]<WP rs0/\(pk rs0 os)[a]?=rs0[os[a]]?:=λa ha=>by
  let ha:a<WP os:=by rwa [pk,Zn]at ha
  let hw:=ig.1<|po.mem_iff.1<|Zy ha;calc#[ha,hw,?_];rw[pk,Zz,Zd ha];change V (rs0.getD os[a] rd)=_;rw[Zk,Zd hw];rfl
 let q:=d.q;let F:=q.df;generalize pk rs0 os=rs at d q F ln no;rw[Jjc];calc ao<|ae<|ak<|(Xe ..).mpr<|Jf (aj 07)<|WR.mono (Jvb (k:=k) F d.d d.t) ?_;rintro v u ⟨j,x1⟩;cases j with|kept al _ _=>show absurd (Jp4 q al) no|@lW a bA R' _ ha jX _ J gR=>
  let#[m,W]:=F.w a ha;let Y:=LQ W.w;let#[e,ee,fx]:=Juu (kind:=0) (Jrt W.w) Y F.3;let lt0:=W.line fx jX;let je:=W.3;let P:(pre rs a<|ob rs a).length<(JB rs a<|ob rs a).length:=by rw[Xo,Z1];show ZZ _
  let eP:(JB rs a<|ob rs a).getD (pre rs a<|ob rs a).length cd=cm (tO rs a<|ob rs a) a (Jn rs a) (tO rs a (ob rs a)-(Jn rs a).5+((0:Nat):Int)*(Jn rs a).2):=by rw[Xo,Zk,ZL<|Zm _,yp];rfl
  let z0:((0:Nat):Int)*(Jn rs a).2=0:=Int.zero_mul _;let du:qE rs (JB rs a<|ob rs a) (pre rs a<|ob rs a).length=tO rs a (ob rs a)-(Jn rs a).5+((0:Nat):Int)*(Jn rs a).2+(Jn rs a).4:=by unfold qE oX;rw[eP];rfl
  let sp:cU rs a=(Jn rs a).4-(Jn rs a).5:=07;let lt:qE rs (JB rs a<|ob rs a) (pre rs a<|ob rs a).length<e:=05;let at_:=X4 P;rw[eP]at at_;generalize JB rs a (ob rs a)=cs at *;generalize (pre rs a<|ob rs a).length=n at *;let#[lo,L,er]:=ln a ha;let#[p,ey,_]:=R.2 os[a] _ _ (Zd<|by rw[R.1];show L)<|Zd L;let ay:bI ys ((os[a]:Nat):Int)=V (.tup<|nO rs0[os[a]] p):=JE<|by rw[Zd (by rw[R.1];show L),ey]
  let ew:Jn rs a=(rs0[os[a]]).1:=by rw[Zd ha,Zd L]at er;rw[Qm ha,eV er]
  let eO:bI (ni os) (a:Int)=V (.int (os[a]:Nat)):=JE<|by rw[Zz,Zz,Zd lo];rfl
  calc ae<|bE (bR<|(aF (dk 07 J bq3 (Jg7 _) 07 J6f) 07).trans 07)<|aM<|ae<|ak<|Jf (aP (aq 07 J Mx) (aq 07 J My) gR at_)<|ae<|ak ?_;obtain⟨_,h3,e3,rfl,Z,o3⟩:∃v O,V5 (k+8) [.ref (WP u),.ref D] (u++[.ins "ByRank" []])=.ok v O/\v=.ah/\Ex u O/\dZ O 0 (WP u) rs:=(Li (k:=k+4) (d.d.kp x1.kp) F.2 F.3).eq;let mk:∀U:aD,Ja 0 U u=.ok (.ref D) u->JI "ByRank" (V5<|k+8) [] (Jb 'a' Je) U u=.ok (.ref (WP u)) h3:=λU e0=>by calc Ju ?_;rw[Xx];show Jf (aj e0)<|Jf e3 #[07,07,07]
  let H:=Z.get J;let Q:=Z.get gR;let B:=x1.trans Z;let#[_,G,e4,E,rfl,_,gE,x4]:=(Mr (k:=k) (kind:=0) (R:=R') #[o3,Q,λc hc=>(Y.1 c hc).1,F.3,B.get t1,Zb (Z7 je)<|Zi _ 136] (B.get t0) Y je).eq;let C:=x4.get H;let I:=B.trans x4;let el:(QK 0 rs cs).getD n 0=e:=by unfold QK;rw[Zk,Zz,uJ P];change(bF n _).getD 0=e;rw[ee];rfl
  let ea:=Mt (kind:=0) (rs:=rs) P;rw[el]at ea;calc Jf (aP (J0 (az (mk _ 07)<|aq 07 H Mx) e4) (aq 07 C My) gE ea) ?_;let M:∀x y:Int,il (.int x) (.int y) G=.ok (.bl<|decide (x=y)) G:=λ_ _=>07
  let X:∀x y:Int,g9 (.int x) (.int y) G=.ok (.bl<|decide (y<x)) G:=λ_ _=>07
  calc au<|Jf (xB (((aF (aq 07 C Mz)<|aU (aC 07 07 JP)<|aC (aP 07 (aP 07 (aC 07 07 JR) (I.get hO) eO) (I.get hS) ay) 07 Q2).trans<|M _ _).trans<|congrArg (λb=>Res.ok (IV.bl b) G)<|decide_eq_true ?_)<|(aF 07 (aq 07 C Mz)).trans<|X _ _)<|congrArg IV.bl<|decide_eq_true lt;rw[du,<-ew];rfl
end
end
section
seal L4.run L4.WS L4.WR
def e15(U)(h):Jc Qb (eC<|.int 10) (eC<|.int 15) U h=.ok (.int 1000000000000000) h:=(Ju (by rw[Yc,Vm,Vm,YW];show#[01,congrArg IV.int (by decide +kernel),07]))
def Eb(U)(h):Jc Qb (eC<|.int 10) (eC<|.int 30) U h=.ok (.int 1000000000000000000000000000000) h:=(Ju (by rw[Yc,Vm,Vm,YW];show#[01,congrArg IV.int (by decide +kernel),07]))
section
variable{h:IH}{U:aD}{W bC:Nat}{vs:Tv}{rs:Tz}{os:Tp}{unit:Int}
def nP(e:U[i]?=V (V v))(h):Ja i U h=.ok v h:=by unfold Ja;rw[e]
def Ec(j:a U h=.ok (.ref W) h1)(u:h1[W]?=V (.lst vs))(w:cQ h1 vs rs)(t:h1[2]?=V (.tab "longest_hold"))(q:Dw unit rs):∃D h',JI "Duty" (QF 15) [] (Jb a Je) U h=.ok (.ref D) h'/\Ex h1 h'/\ji h' D rs unit:=by
 let m:WR (JI "Duty" (QF 15) [] (Jb a Je) U h) λv h'=>∃D,v=.ref D/\Ex h1 h'/\ji h' D rs unit:=by rw[Xx];calc Jf (aj j)<|WR.mono (Me (k:=12) u w t q) ?_;rintro _ h' ⟨rfl,x,d⟩;show#[07,_,07,x,d]
 let#[_,h',e,D,rfl,x,d]:=m.eq;show#[D,h',e,x,d]
def MB(H:U[5]?=V (V<|.ref W))(j:U[12]?=V (V<|.ref bC))(I:h[W]?=V (.lst vs))(w:cQ h vs rs)(t:h[2]?=V (.tab "longest_hold"))(q:Dw unit rs)(gO:h[bC]?=V (.lst<|ni os))(po:os.Perm<|Z6 (WP rs)):∃D h',Jm (pg 15) "reordered" 1 (JI "Duty" (QF 15) []<|Jb 'f' Je) (Jb 'm' Je) U h=.ok (.ref D) h'/\Ex h h'/\ji h' D (pk rs os) unit:=by let#[D,B,C,m,d1]:=Ec (nP H h) I w t q;let#[L,u,_]:=id d1.d;let#[_,J,G,F,rfl,E,d2]:=(Mg (k:=11) d1 (m.get gO) po).eq;show#[F,J,dk C u 02 (KO _) (aj<|nP j B) G,m.trans E,d2]
def MC(B:U[5]?=V (V<|.ref W))(m:U[12]?=V (V<|.ref bC))(I:h[W]?=V (.lst vs))(w:cQ h vs rs)(t:h[2]?=V (.tab "longest_hold"))(q:Dw unit rs)(gO:h[bC]?=V (.lst<|ni os))(po:os.Perm<|Z6 (WP rs)):∃D h',JI "Duty" (QF 15) [] (Jb (Jy (Jv 'm') 1 [5] (bw 0) JC<|CY 15) Je) U h=.ok (.ref D) h'/\Ex h h'/\ji h' D (pk rs os) unit:=by
 let E:=J6;let l:=q.l;let u:=w.1;let lo:WP os=WP rs:=by rw[po.length_eq,kz]
 let ln:(ni os).length=WP os:=by rw[Zn,Zn]
 let#[g,G]:=@X8 h h (Jv 'm') (CY 15) [5] U (ni os) (λh'=>h'[bC]?=V (.lst<|ni os)) (uk vs) (ye (nP m h) gO) (Zb (Zi _ 999995)<|Zb (Zc (Zb (Zb (Zc (Zh ln) 1)<|Zc (Zh lo) 1)<|Zc l 1) 999995) E) (λJ z=>z _ _ gO) (λv C J z=>by
  let#[a,ha,rfl]:=ZC.1 C;let#[n,hn,rfl]:=ZC.1 ha;let j:n<WP vs:=by rw[u];show ig.1<|po.mem_iff.1 hn
  rw[ZS,List.map_nil,B];calc Jf (aP 07 07 (z _ _ I) (JE<|Zd j)) #[?_,.refl _];change _=vs.getD (n:Int).toNat .ah;rw[jP,Zk,Zd j];rfl)
 let k:Ex h (h++IX.lst ((ni os).map<|uk vs)::g):=.cons _ _ _;let#[D,J,H,F,d2]:=Ec (unit:=unit) G Jw (Mf (w.kp k.kp) po) (k.get t)<|q.perm (Md po).symm;show#[D,J,H,k.trans F,d2]
def MD(I:a U h=.ok (.ref D) h1)(d:ji h1 D rs unit)(j:U[13]?=V (V<|.ref M))(O:h1[M]?=V (.lst<|cs.map ax))(L:br rs cs)(C:WP cs<=12)(all:Qh [] rs)(H:h1[1]?=V (.tab "Bench.__init__"))(t1:h1[0]?=V (.tab "Order.pick")):∃h',Jc il (Jl (Yk 15) []<|Jb (JI "ByRank" (V5 15) []<|Jb a Je)<|Jb 'n' Je) (JA Je) U h=.ok (.bl Zl) h':=by
 let six:∀r∈rs,WP r.2<=6:=λr F=>(d.q.f r F).9.1
 let cW:=d.q.l;let Q:WR (JI "ByRank" (V5 15) [] (Jb a Je) U h) λv h'=>∃E,v=.ref E/\Ex h1 h'/\dZ h' 0 E rs:=by rw[Xx];calc Jf (aj I)<|WR.mono (Li (k:=11) d.d (kr 06) six) ?_;rintro _ h' ⟨rfl,x,o⟩;show#[07,_,07,x,o]
 let#[_,J,P,B,rfl,m,S]:=Q.eq;let#[_,Y,G,Z,rfl,_,u,X]:=(Jsm (k:=6) (kind:=0) (R:=M) #[S,m.get O,λc W=>(L.1 c W).1,six,m.get t1,Zb C<|Zi _ 188] (m.get H) L<|Zb (Zc C 1)<|Zi _ 51).eq;rw[Jsp d.q L all]at u;show#[_,(aF (J0 (az P<|nP j J) G)<|dH 07 07).trans<|J2t (as:=[]) (grow u) Jr]
end
def Jvd(ns:To)(hl:WP ns<=63):∃h',Yi 16 [.cG<|ns.map IV.int] ([.tab "Order.pick",.tab "Bench.__init__",.tab "longest_hold"]:IH)=.ok (.bl Zl) h':=by
 suffices h:WR (Yi 16 [.cG<|ns.map IV.int] ([.tab "Order.pick",.tab "Bench.__init__",.tab "longest_hold"]:IH)) λv _=>v=.bl Zl by let#[v,h',e,rfl]:=h.eq;show#[h',e]
 let t0:([.tab "Order.pick",.tab "Bench.__init__",.tab "longest_hold"]:IH)[1]?=V (.tab "Bench.__init__"):=07;let t1:([.tab "Order.pick",.tab "Bench.__init__",.tab "longest_hold"]:IH)[0]?=V (.tab "Order.pick"):=07;let t2:([.tab "Order.pick",.tab "Bench.__init__",.tab "longest_hold"]:IH)[2]?=V (.tab "longest_hold"):=07;generalize ([.tab "Order.pick",.tab "Bench.__init__",.tab "longest_hold"]:IH)=h at t0 t1 t2 ⊢;let hb:=J6;rw[J2z];calc ao<|ae<|ak<|Jf (J0 (az 07 07)<|C8 (k:=14) ns 0 01) ?_;generalize ns.getD (oH 0) 0=F;obtain⟨md,em,hm1,hm2⟩:∃x:Int,bI [IV.int 3,IV.int 1000000000000000] (F%2)=V (.int x)/\0<x/\x<=1000000000000000:=by
  let:F%2=0\/F%2=1:=05;rcases this with q|q<;>rw[q]
  .show#[_,JR,01,01]
  .show#[_,JP,01,01]
 let u0:=i3 (F/4) (b:=md)<|by show i4 hm1
 let u1:=jo (F/4) hm1;calc ae<|ak<|Jf (aU 07 (bN (Q8 07 07 01 01) (rZ (az 07 (e15 _ _)) 07 (bN 07 07 01) em) hm1)) ?_;obtain⟨u,eu,hu,hu2⟩:∃u,1+F/4%md=u/\1<=u/\u<=1000000000000000:=#[_,07,by show mY u0,by(rw[oF];show Z8 u1 hm2)];rw[eu];obtain⟨m,em',m1,Z⟩:∃m:Nat,1+F/8%5=(m:Int)/\1<=m/\m<=5:=#[(1+F/8%5).toNat,by show gU (sU _)<|Z3<|rn<|ZJ<|ZE (i3 _<|i4 01)<|Int.lt_add_of_pos_left _ 01,05,05];calc ae<|ak<|Jf (eS (aU 07 (bN (Q8 07 07 01 01) 07 01))<|congrArg IV.int em') ?_;generalize IX.lst _=ob;let xa:Ex h (h++[ob]):=.one _ _;generalize h++[ob]=h1 at xa ⊢;let lm:(aR 0 (m:Int)).length=m:=by rw[JN];rfl
 refine ae (ak (WR.mono (Jw4 (it:=cR Qi<|Jb 'd' Je) (h:=h1) (xs:=aR 0 (m:Int)) (bf:=λ_=>True) (λ_ y h'=>∃r q,nN u r/\y=.tup (nO r q)/\q≠h1.length/\h'[q]?=V (.lst<|r.2.map aJ))
  (by
   rw[Vn];calc Jf (aj 07) ?_;rw[Yd];show#[05,07,07,07]) (by show Zb (Zi _ 999995)<|Zb (Zc (Zb (Zc (Zh lm) 1)<|Zc Z 1) 999995) hb) (by
   rintro x y h4 h5 kb ⟨r,q,a1,a3,a4,a5⟩;show#[r,q,a1,a3,a4,kb _ _ a4 a5]) (λ_ _=>trivial) (by
   intro v hx h4 q lt;let#[n,hn,rfl]:=ib.1 hx;rw[QL];calc(Xe ..).mpr (Jf (fM (J0 (az 07 (aU 07 07))<|C8 (k:=14) ns (2+(0+(n:Int)))<|by show jn _) 07 07)<|WR.mono (Jv6 (k:=13) hu hu2 m1 Z) ?_);rintro v h5 ⟨x5,r,p,f,tt,lp,gp⟩;show#[x5,r,p,f,tt,by show ZY<|Zb lt lp,gp])) ?_))
 rintro _ M ⟨rfl,ys,gS,ly,k3,dS⟩;rw[lm]at ly;let x3:=xa.trans<|Y3 k3;let hP:∀y∈ys,∃r q,nN u r/\y=.tup (nO r q)/\M[q]?=V (.lst<|r.2.map aJ):=λy hy=>by let#[i,X,rfl]:=ib.1 hy;let#[r,q,a1,a3,_,a5]:=dS i _ _ (Zd<|show i<(aR 0 (m:Int)).length by lia)<|Zd X;show#[r,q,a1,a3,a5]
 clear dS k3;generalize (WP h1)=S at gS ⊢;let#[E,R,P]:=Mw ys 0 hP;let P:∀i r,E[i]?=V r->nN u r/\r.1.1=jK i:=λi r e=>by let:=P i r e;rwa [uw]at this
 let rl:=R.1;let q:Dw u E:=by
  refine#[hu,hu2,λr hr=>?_,by show Zb (Zb (Zh rl.symm)<|Zh ly) Z,?_]
  .let#[i,X]:=Em.1 hr;show(P i r X).1
  .rw[List.Nodup,uC];intro i j X hj hij e;rw[Zn]at X hj;rw[fS,fS,(P i _<|Zd X).2,(P j _<|Zd hj).2]at e;let:=Jvu i (by show Zb (Zb (Zb X<|Zh rl.symm)<|Zh ly) Z) j (by show Zb (Zb (Zb hj<|Zh rl.symm)<|Zh ly) Z) e;lia
 let em2:m=WP E:=05;subst em2;calc ae (ak<|Jf (dH 07 07)<|ae<|lR (n:=WP E) 07 (by show Zb (Zc Z 1)<|Zi _ 999994) ?_);refine Vd (λn U h'=>∃I g a b c d e f,h'=M++IX.lst I::g/\U=[V<|.cG<|ns.map IV.int,V<|.int F,V<|.int u,V<|.int (WP E:Int),V<|.ref S,V<|.ref (WP M),a,b,c,d,e,f,Zg,Zg]/\cQ h' I (E.take n)) (λ_ _ _ _=>trivial) ?_ ?_ #[[],[],Zg,Zg,Zg,Zg,Zg,Zg,07,07,#[07,λi v d a=>by simp at a]]
 .rintro n hn _ _ ⟨I,g,a,b,c,d,e,f,rfl,rfl,w⟩;rw[QL];rw[JN]at hn;let Q:n<WP E:=by show hn
  let#[f6,nm]:=P n _<|Zd Q;let wl:=w.1;let hv:WP I<=12:=by rw[wl,ic];show Zb (Zb (kO _ _) Z)<|Zi _ 7
  let#[q2,ey,gq]:=R.2 n _ _ (Zd<|by show Zb Q<|Zh ly.symm)<|Zd Q;let ea:bI ys (n:Int)=V (.tup<|nO E[n] q2):=JE<|by rw[Zd 05,ey]
  rw[o6 Q,show(0:Int)+(n:Int)=n by lia];generalize E[n]=r at f6 nm ea gq;calc jg 07 (ae<|(YY ..).mpr<|Jf (aP 07 07 (grow gS) ea)<|jg 07 ?_);calc J5m (k:=10) hu f6 nm (by show ZO 06 06) hv (grow gq) ?_;intro v g' isw kp;show#[_,g',_,_,_,_,_,_,07,07,cQ.snoc #[wl,λi z d a b=>let ⟨j,e,z⟩:=w.2 i z d a b;#[j,e,kp _ _ (λej=>by rw[ej,Jw]at z;cases z) z]] isw]
 rintro _ _ ⟨I,g,a,b,c,d,e,f,rfl,rfl,w⟩;rw[JN,nW<|by show Zm _]at w;let gW:(M++IX.lst I::g)[WP M]?=V (.lst I):=Jw;let x4:Ex M (M++IX.lst I::g):=.cons _ _ _;generalize (WP M)=W at gW ⊢;generalize M++IX.lst I::g=h4 at w gW x4 ⊢;let xt:=x3.trans x4;let gS:=x4.get gS;let R:=R.kp x4.kp;calc ae<|ak<|Jf 07 (ae<|Hz _ _ ?_);let#[D,h6,e6,x6,d6]:=Ec (U:=[V<|.cG<|ns.map IV.int,V<|.int F,V<|.int u,V<|.int (WP E:Int),V<|.ref S,V<|.ref W,a,b,c,d,e,f,V .ah,Zg]) (a:=bp (bx Q3)<|Jb 'f' Je) (xD (a:=Ja 5) 07 gW) Jr (w.kp (Ex.one h4<|IX.lst I).kp) ((xt.trans<|.one _ _).get t2) q;let x6:=(Ex.one h4<|IX.lst I).trans x6;rw[BX,wZ];refine WE.of<|Jf (aj e6)<|WE.mono (Jsy (k:=6) d6) ?_ ?_
 .rintro _ h7 ⟨⟨bC,os,rfl,_,gO,po,all⟩,x7⟩;let H:=x6.trans x7;let x07:=xt.trans H;calc ae<|bE (bR<|(aF 07 07).trans 07)<|aM<|ae<|ak<|(Xe ..).mpr ?_;obtain⟨i2,e2⟩:∃i:Nat,2+(WP E:Int)=(i:Int):=#[2+WP E,04];obtain⟨i14,e14,l14⟩:∃i:Nat,14+(WP E:Int)=(i:Int)/\i=i2+12:=#[14+WP E,04,05];calc(BI ..).mpr<|(YX ..).mpr<|Jf 07 (Jf (Ea<|eS (aU 07 07)<|congrArg IV.int e2)<|Jf (Ea<|eS (aU 07 07)<|congrArg IV.int e14)<|(WZ ..).mpr ?_);rw[W5,<-uQ,<-List.map_drop];let xC:Ex h7 (h7++[IX.lst<|((ns.take i14).drop i2).map IV.int]):=.one _ _;let O:=H.trans xC;calc Jf (az 07 07) (WR.mono (J4s (k:=13) q (by show m1) (O.get gS) (R.kp O.kp) (xC.get gO) po Jr<|by rw[sx,ic];show Nat.sub_le_iff_le_add'.2<|Zb (kP _ _)<|Zh l14) ?_);rintro _ h8 ⟨cs,rfl,gM,L,lc,Y⟩;let B:=(x07.trans xC).trans Y;let J:=(O.trans Y).get gW;let w8:=w.kp (O.trans Y).kp;let gO8:=(xC.trans Y).get gO;refine ae<|nF<|Jf (rY (bN (Q8 07 07 01 01) 07 01) 07)<|eI (λ_=>au ?_) λ_=>aM<|au ?_
  .let#[D2,h9,e9,C,d9]:=MB (U:=[V<|.cG<|ns.map IV.int,V<|.int F,V<|.int u,V<|.int (WP E:Int),V<|.ref S,V<|.ref W,a,b,c,d,e,f,V<|.ref bC,V<|.ref (h7++[IX.lst<|((ns.take i14).drop i2).map IV.int]).length]) 07 07 J w8 (B.get t2) q gO8 po;let#[h10,e10]:=MD e9 d9 07 (C.get gM) L lc all ((B.trans C).get t0) ((B.trans C).get t1);show Jf e10 07
  .let#[D2,h9,e9,C,d9]:=MC (U:=[V<|.cG<|ns.map IV.int,V<|.int F,V<|.int u,V<|.int (WP E:Int),V<|.ref S,V<|.ref W,a,b,c,d,e,f,V<|.ref bC,V<|.ref (h7++[IX.lst<|((ns.take i14).drop i2).map IV.int]).length]) 07 07 J w8 (B.get t2) q gO8 po;let#[h10,e10]:=MD e9 d9 07 (C.get gM) L lc all ((B.trans C).get t0) ((B.trans C).get t1);show Jf e10 07
 .rintro n h7 ⟨⟨fs,gn⟩,no,x7⟩;let H:=x6.trans x7;let x07:=xt.trans H;calc#[_,_,gn,?_];rw[HA 02];calc ak (Jf 07 (ae<|qp (bR<|(aF 07 07).trans 07)<|ae<|ak<|(Xe ..).mpr<|Jf (az 07 (bN (J0 (az 07 07)<|C8 (k:=14) ns 1 01) (Eb _ _) 01))<|WR.mono (Jvq (k:=14)<|by show kr 06) ?_));rintro _ h8 ⟨bC,os,rfl,gO,po,Y⟩;let B:=x07.trans Y;let G:=H.trans Y;let J:=G.get gW;let w8:=w.kp G.kp;let jX:=no os po;refine ae<|nF<|Jf (rY (bN (Q8 07 07 01 01) 07 01) 07)<|eI (λ_=>au ?_) λ_=>aM<|au ?_
  .let#[D2,h9,e9,C,d9]:=MB (U:=[V<|.cG<|ns.map IV.int,V<|.int F,V<|.int u,V<|.int (WP E:Int),V<|.ref S,V<|.ref W,a,b,c,d,e,f,V<|.ref bC,Zg]) 07 07 J w8 (B.get t2) q gO po;show(Xe ..).mpr<|Jf (fM e9 07 07)<|MA (k:=6) d9 po ((G.trans C).get gS) (R.kp (G.trans C).kp) (C.get gO) ((B.trans C).get t0) ((B.trans C).get t1) jX
  .let#[D2,h9,e9,C,d9]:=MC (U:=[V<|.cG<|ns.map IV.int,V<|.int F,V<|.int u,V<|.int (WP E:Int),V<|.ref S,V<|.ref W,a,b,c,d,e,f,V<|.ref bC,Zg]) 07 07 J w8 (B.get t2) q gO po;show(Xe ..).mpr<|Jf (fM e9 07 07)<|MA (k:=6) d9 po ((G.trans C).get gS) (R.kp (G.trans C).kp) (C.get gO) ((B.trans C).get t0) ((B.trans C).get t1) jX
end
end LW
end
open PySem L2
def LW.walk{l:W.OpenLaw}{K:Params->W.Frag}(hn:l.5=V 63)(j:d.2.7=[]) (m:∀(w:bV) (h:bu),YP w h->(K w.2).In h/\∀p∈ts,h.get? p=V (W.tabObj #[]))(C:∀w:bV,L4.Vs (K w.2) ["Order.pick","Bench.__init__","longest_hold"] ts=Zl) (F:∀(w:bV)(mg:Str->Tb)(fa:ZF)(h:bu),(K w.2).In h->h.Ns Z4 mg->mg d.1=V (.ref fa) ->∃fd:jm,(∀(s:Z5) (u:Zv),rf s fd #[[u],[]] [("_law_script",u)])/\∀base:bu,(K w.2).In base->base.Ns Z4 mg->L3.QD mg base->bW l.1 w (K w.2) mg base (L3.eR l.1 w) (LW.T.cl LW.w3) 64 fa fd ["_law_script"] (L3.XY (K w.2) "_law_script"<|LW.Yi 16)):W.WalkO q loose XP YP l.row.1 d [] (λf vs=>PySem.call f vs):=(L4.Jwz (n:=63) (k:=64) (x:="_law_script") (f:=LW.Yi 16) (qs:=["Order.pick","Bench.__init__","longest_hold"]) (ts:=ts) hn 01 j #[λ_=>07,01,01] m C F λns B=>LW.Jvd ns B)
open PySem PySem.W PyProof.Rows
structure PySem.W.Fast:Prop where (tw7207592902217109086 tw9440757286247654646 tw4013608698815208186 tw17350886714334895857 tw6258228402431361955 tw14520319205473840434 tw8944656018049431464 tw4556285989808608217 tw5587281124365605434 tw9276027824112566417 tw15856601680900879649 tw16615336193200292118 tw17247195414950271250 tw11224637741415379171 tw6750317594275184603 tw9067631429470056419 tw11267158444659372947 tw16365435323990250427 tw14571093570956816706 tw16026301476172721170 tw4138522349082071571 tw15029719952999587598 tw6114704446494271877 tw7356509219311503390 tw3837114326220548905 tw6000076757883697415 tw10478281330754483362 tw15244645638350917464 tw10622236161267945650 tw14549217789636024058 tw1472909067398162182 tw955955013186952074 tw5774006078686829226 tw17208207892174032302 tw18022680788634142859 tw16718733270044281608 tw7522389270150789850 tw16162924419359506998 tw569227983558290150 tw8807452200950290119 tw16250418113019516883 tw7217150873192784203 tw9493738827196590070 tw6230788732515248572 tw12095145819149084423 tw10885972664806459430 tw1158013124378921572 tw9586792175029818565 tw9764178449060914602 tw13733153730453976236 tw8549906818827649343 tw4657472510769473222 tw42672787581089228 tw4689731432619329500 tw1701823419720255385 tw4664857402852734543 tw15939155523330875686 tw8122449948757231573 tw18413569113218429094 tw5252180075117090586 tw13251783879495833819 tw15090658512127263968 tw15856073948778326604 tw7112121797112725199 tw9648442307160183814 tw1517531511104810429 tw4678653527399419420 tw17954251367173708954 tw18335770897085257097 tw4646941774126275824 tw7381089754682341253 tw1667401605985943503 tw1105727603212814899 tw11551999322469673166 tw13490433578642841924 tw11552534779727924320 tw6516678081782612179 tw9958050647240467547 tw3445566820875013650 tw11333659648800452868 tw16686457553529015625 tw1639009822405510280 tw5041233089308113607 tw17235605564436803616 tw579197045689544210 tw4082684614796942825 tw8694730507543056327 tw7429099501387484906 tw17673858639581532726 tw17346695366748614225 tw9518221110401181086 tw5375177923037583773 tw12034606885795943252 tw5022414931875229639 tw3240033737176965547 tw5476252870339670217 tw16820258089379037595 tw2231802008971460604 tw8235511954949928105 tw6891769812237799048 tw10680513925875207336 tw10294181524875016885 tw4426387982681096230 tw2355610826572835639 tw9491139037324264992 tw6540132648579241755 tw15834521447334728014 tw7343316772938740035 tw5140662199957024360 tw9289872080671883609 tw10729960310559616868 tw13682111530584023849 tw4156222660280948688 tw3022914036983524445 tw3745474506222107204 tw15714720062349223812 tw13309955694629666318 tw16126105309737305761 tw11515280491933824139 tw1195821210050430763 tw5928596569627801860 tw8493714053813393449 tw14095395193514962137 tw1888260380969181593 tw9157446852389617042 tw1158800830907812902 tw6254254858742942933 tw5449997756927714221 tw6882914117109723641 tw16213315582104639410 tw9050330213190189029 tw1945107562372450542 tw11663813995564525787 tw5363293555416280695 tw10644783968082440417 tw9644005491229748860 tw4653532998473341735 tw16711913516030263067 tw11642348556050803494 tw5244009072442556523 tw1469339592372944519 tw4557163564446384786 tw6667579727341765410 tw4610216340958858146 tw9652762883558257587 tw12355291643250377271 tw8451858712191626044 tw18105988926038132319 tw9920770157030750566 tw13603685929267768793 tw10867630550086702121 tw2769890202345340225 tw3665012468553500129 tw6092894659006712162 tw13948326808596730050 tw16526099434956971749 tw16564199261615616428 tw1349750156880023184 tw17432173750511727049 tw11210060472261049125 tw6102127816917889029 tw11555520229776655024 tw4425007197769012183 tw13228843874879030283 tw394870108531916098 tw6272784166351079243 tw11623235001280844945 tw4614960454441069188 tw4169747790307736355 tw15000890241822474209 tw12138615718235267627 tw4661610966844221793 tw1816729085108684502 tw4502786509430476016 tw7773410814999464204 tw6300235428345127578 tw9230625689490633055 tw10137935940897423494 tw16185240275650170855 tw3127888605142933995 tw17858567121571930516 tw14528120590221690427 tw1932708005677128983 tw17221402401952148504 tw13823462257813024622 tw11928702441543746364 tw4505275031536898974 tw14533679955812386457 tw2022728841261176383 tw6620079550548058296 tw1965237192375539196 tw8229369985378075137 tw17817091622662636247 tw8381863599944959748 tw3911003937791089124 tw2256580192716201509 tw470666364461556332 tw16715834206153074738 tw11754688187985063783 tw11546272599151301926 tw3497639022203987974 tw3431407166468571878 tw17652052464443279733 tw1665070942880317158 tw3434555786123463885 tw6754581567134721865 tw11041116010927739944 tw11009698258630188185 tw11969394080996711905 tw10143163094342247761 tw16950960898711593948 tw16636123753348346212 tw13837281884344206772 tw16305063515725700648 tw15249728650145420265 tw630392734640304418 tw17633847503149632562 tw303990394431699585 tw4572074466438497990 tw1442461569665964716 tw15079823689178132997 tw10840374928931790454 tw12625265034836372333 tw3540100027985266123 tw6122805176635107324 tw2728321939786814339 tw11720308965401837376 tw18446245263707809340 tw1406007985781386450 tw4448824715312491493 tw12192441999498441590 tw10481030916078590255 tw9237155128540518434 tw18423046226781414196 tw850898843039723469 tw15442678453279949032 tw975926029863171666 tw2262240046634522763 tw5335743174007661183 tw9448099965602093168 tw15292241833021878638 tw15537845846613077246 tw14315345057367112135 tw15812215557942697600 tw9071838091572928094 tw1025653100874945715 tw17144854239626244150 tw226807308731874376 tw13243038410747910848 tw15383517136686438984 tw16830475290479138318 tw4983839969694411582 tw10632019106260954536 tw17851070331738266500 tw13676129125833094907 tw6608889347959092808 tw12749520739299725790 tw14421608252730424147 tw14115467548798039593 tw10096375852139091792 tw5434356380321837874 tw1424691580965174886 tw4582184257581363058 tw13528818961311260743 tw1499065860298077737 tw9974998254689830125 tw1699457350156839783 tw239715565103080490 tw17782286338434090155 tw9658816074598184135 tw356263326380641803 tw2821524995707468587 tw8685164797050573386 tw14735544087320891169 tw12097418047477085400 tw5057174707481788046 tw15156542451038470427 tw12915862835885223078 tw4858839883991299891 tw14211154917410379993 tw4523447658748013204 tw9091961074776273752 tw9130925508418722100 tw14702962706363707755 tw8398619487437918270 tw14264924599744338499 tw9858928310894128435 tw6135376609883475736 tw6189208108252805211 tw5510044148655209694 tw16355328931527023751 tw14429025523992000552 tw6181807314622044464 tw8043168422938330054 tw11738347233349831225 tw2755022311452218872 tw5563657619977702377 tw1391480404076367888 tw14625636415925014474 tw11644916293772947667 tw4505009202113233319 tw6131979185245219374 tw9743910861780295774 tw7823692743365170839 tw2171130937773991857 tw13281021701749509928 tw3205780723521141056 tw10970924519153095488 tw9715795363352602079 tw15088184582297220774 tw10000094528047640168 tw11466801523659411903 tw1866294006357798235 tw6428762418200557734 tw4336077140112192185 tw15070239020985891262 tw12166174492949262994 tw15129376877345164349 tw4440949936273128988 tw127050521020433530 tw6684692600971885262 tw16187398069174960549 tw4742311353799802671 tw16794404427182137783 tw13281657073516285970 tw12488827018609750139 tw1236726161880053100 tw8899720459922706021 tw17970169413942940559 tw3816332265084366845 tw14556908031475560304 tw12508193761444179058 tw2224299745588248249 tw7307217413877537823 tw15536109165599344333 tw867687685133394778 tw17140229019332005174 tw6454631310747744996 tw2648859906576735290 tw16895729412478325048 tw18368712283659147017 tw12528677045653401675 tw12252592323300687582 tw11101277411514669134 tw10792826411184290961 tw17700217019641913623 tw13571652462690147752 tw2361542878921398191 tw4409776143019330081 tw433835056380989500 tw17870111060299302811 tw5646124641071089530 tw13157761164852736791 tw1482123262756992237 tw5006024224885601255 tw6986249683255836053 tw6562461645915735392 tw17787487114856194595 tw12733087418033233702 tw6492418120342161847 tw9458012804799575009 tw14138821878943087526 tw14765941196820635844 tw6796386489224085816 tw11531525945690502266 tw2083373624263883820 tw17384630701767245567 tw15847608474280535667 tw15791511116714774089 tw14338831182506996932 tw290604300281139105 tw6138486933069937102 tw16977439081638883329 tw4880294247188978551 tw10266320640764408026 tw14646449471572575027 tw1848563945157036391 tw11161051899583283135 tw11850710538516983219 tw3096936458056402493 tw2950278312777765576 tw17278103232956165796 tw16369085998395523379 tw6785257218258234878 tw17474462426054217741 tw11809693910306496230 tw3534631578013434309 tw310566808564338942 tw5959440466008029558 tw9867463620004610366 tw15021373177870930838 tw16828506123030212502 tw5307019905345696155 tw3530980996167634668 tw10642737447602218058 tw8710455103585213802 tw7274806678050234355 tw4265725861454332811 tw10873984061206923603 tw1031612261117711872 tw4426299340332670912 tw10709090679297844553 tw7988571610423295584 tw8483696098119760091 tw12965332542881797017 tw17193046072211654209 tw11238311055668058369 tw2273196192208723728 tw3225959021606618543 tw15625720904731540619 tw10042910903253783 tw8171126300039510067 tw2262051589310936609 tw18226793596104864366 tw4669573307060555898 tw1035490829067339287 tw5120947735017099674 tw4488113251119232831 tw842163095964429967 tw5930465325389540314 tw2712513090126858270 tw9084153221527245541 tw2135577251298641554:True)
set_option maxRecDepth 100000 in
set_option maxHeartbeats 0 in
theorem PySem.Challenge.cw_dutyproof_k74_whole_ranks_keep_holds : PySem.Challenge.rw_dutyproof_k74_whole_ranks_keep.Holds := by
 w_on;o_law;k_head;(case hw=>w_witness2)
 k_fill
 calc LW.walk (l:=PySem.Challenge.rw_dutyproof_k74_whole_ranks_keep) 07 07 (λw h Y_=>⟨W.km_in_of Y_,W.km_tabs_of Y_⟩) ?HC ?F;case HC=>show λw=>by kernel_rfl
 case F=>
  intro w mg fa h KX G hmg;refine' L4.last (T:=LW.T) (d:=LW.w3) ["Work","Bench","Duty","Order","ByRank","Verdict","Kept","Broken"] KX G hmg 07 ?p0 07 07 (L4.lh λ_=>07) ?p1 ?p2 ?p3 ?p4 ?q0 λhh=>L4.UP _ ?q1 ?q2 ?q3 ?q4 hh ?q5 ?q6 ?q8 ?q9 ?qa ?qb ?qc
  case p0=>kernel_rfl
  case p1=>k_is
  case p2=>k_is
  case p3=>k_is
  case p4=>k_is
  case q0=>repeat (first|show .nil|(apply L4.cC;(iterate 9 k_is);kernel_rfl))
  all_goals repeat (first|show .nil|(apply L4.coC KX G;k_is)|(apply L4.isC KX G;k_is;kernel_rfl)|(apply L4.frC KX G;k_is)|(apply L4.xiC KX G;k_is)|(apply L4.xpC;(iterate 7 k_is);(iterate 2 kernel_rfl))|(apply L4.bsC KX G;(iterate 6 k_is))|(apply L4.mtC;k_is;kernel_rfl)|(apply L4.bxC KX G;(iterate 4 k_is))|(apply L4.sxC;(iterate 9 k_is);(iterate 2 kernel_rfl))|apply L4.sfC|(first|(apply L4.fnC KX G;k_is)|(apply L4.meC;(iterate 3 k_is))|(apply L4.inC KX G;(iterate 5 k_is);kernel_rfl)|(apply L4.xmC KX G;(iterate 2 k_is);kernel_rfl;k_is));apply L4.Dk.mk';kernel_rfl;rfl;k_is;kernel_rfl;(iterate 2 k_is);(first|show .all (L4.lh λ_=>07)|show .all (L4.BF λ_ _=>07)|show .all (L4.BG λ_ _ _=>07)|show .all (L4.BH λ_ _ _ _=>07)|show .all (L4.t4 λ_ _ _ _ _ _ _=>07)|show λs us Y_ e=>by rw[iC]at e ⊢;revert us;show L4.t4 λ_ _ _ _ _ _ _=>.of_defaults 07 (Y_ _ _<|by k_is) 07 07 07))

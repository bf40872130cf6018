import PyProof.Rows.All
import Wide.All
import OpenK.AllK
import Wide.FinOn
import Lean
import PyProof.EqAt
import PyProof.EqKinds
import PyProof.TupleCall
import PyProof.ExcBaseAll.ValueError
import PyProof.ExcAttrAll.ValueError
import PyProof.NsDelKeeps
import PySem.Challenge.RW_dutyproof_k63_judged_by_ranks
def zzp:Nat->Lean.TSyntax `term->Lean.MacroM (Lean.TSyntax `rcasesPat)|0,_=>Lean.Macro.throwUnsupported|n+1,x=>match x with|`(#[$y,*])=>do `(rcasesPat|⟨$[$(<-y.getElems.mapM (zzp n)):rcasesPat],*⟩)|`($i:ident)=>`(rcasesPat|$i:ident)|_=>`(rcasesPat|_)
local macro_rules|`(tactic|let#[$y,*]:=$e)=>do `(tactic|obtain $(<-zzp 99 (<-`(#[$y,*]))):rcasesPat:=$e)
local macro_rules|`(tactic|calc $e:term)=>`(tactic|refine $e)
local macro_rules|`(tactic|show $e)=>`(tactic|exact $e)
local macro_rules|`(command|def $i:declId $s:optDeclSig:=by $t)=>`(command|theorem $i:declId $(⟨Lean.mkNode ``Lean.Parser.Command.declSig #[s.raw[0],s.raw[1][0]]⟩):declSig:=by $t)
local macro_rules|`(tactic|simp![$x,*]$[$l]?)=>`(tactic|simp only[$x,*]$[$l]?)
open Option renaming some→V,none→Zg,map_eq_some_iff→ZH,isSome_iff_exists→qf,bind_eq_some_iff→ye
open Nat renaming le_trans→Zb,add_le_add_right→Zc,le_of_eq→Zi,le_add_right→Zk,le_refl→Zl,ne_of_lt→Zv,le_of_lt→Z3,le_of_not_lt→ZI,lt_of_lt_of_le→ZL,le_antisymm→ZQ,lt_succ_self→ZS,zero_le→ZW,le_of_add_le_add_right→ZZ,ne_of_gt→dC,lt_succ_of_lt→fP,add_le_of_le_sub'→iT,lt_of_le_of_ne→iH,min_le_left→gL,le_add_left→iI,succ_pos→fX,min_le_right→jI,lt_of_le_of_lt→kr,le_add_left_of_le→mB,le_succ→fY,add_sub_cancel'→lE,lt_irrefl→iU,lt_of_sub_eq_succ→nA,lt_of_succ_lt→lF,lt_succ_of_le→lG,zero_lt_of_lt→lI,lt_of_lt_of_eq→nD,le_add_of_sub_le→oH,sub_eq_zero_of_le→qg,add_right_comm→oJ,le_succ_of_le→oK,sub_add_cancel→qh,not_lt_zero→oM,sub_succ_lt_self→rC,add_comm→nE,add_lt_of_lt_sub'→ua,le_sub_one_of_lt→uc,add_le_add→qj,add_lt_add_of_le_of_lt→yf,sub_le→nF,lt_trans→qk,succ_le_succ→ud,not_lt_of_le→ue,not_le_of_lt→uf,add_assoc→rE,pos_of_ne_zero→yg,le_min→qm,add_lt_add_of_lt_of_le→D9,le_of_lt_succ→yh,lt_of_not_le→yi,sub_self→uh,min_eq_left→yj,le_of_ble_eq_true→Ea,zero_add→yk,pred→rF
open List renaming getElem?_eq_getElem→Zd,length_map→Zm,mem_append_right→Zo,getD_eq_getElem?_getD→Zq,getElem?_eq_some_iff→Zs,mem_cons_of_mem→Zt,getElem_mem→Z4,mem_singleton→Z6,length_append→Z7,mem_map→Z9,mem_cons→ZC,mem_cons_self→ZD,getElem?_map→ZK,range→ZM,map_cons→ZN,getElem_map→ZO,size_toArray→ZT,getElem?_append_right→ZU,getElem?_append_left→ZV,mem_iff_getElem→ZX,mem_append→ZY,length_take→e9,getElem?_set_ne→hL,getElem?_set_self→iV,not_mem_nil→fu,mem_append_left→iJ,replicate→fw,all_cons→fb,take_succ_eq_append_getElem→nG,map_map→eO,append_assoc→iW,lookup_cons→iX,cons_append→iY,mem_range→hU,length_cons→jJ,map_append→jv,take_of_length_le→mC,append_nil→jK,set_append_left→mE,drop_eq_getElem_cons→oN,mem_filter→j9,length_filter_le→nH,length_drop→lJ,reverse_cons→mF,length_singleton→oO,nil_append→lK,mem_of_getElem?→oP,all_eq_true→mG,any_eq_true→mH,mem_of_mem_take→oQ,ext_getElem→mI,length_range→nJ,getElem_take→nK,any_cons→lL,eq_nil_of_length_eq_zero→ui,pairwise_append→qp,length_reverse→qq,length_replicate→rG,findIdx?_eq_some_iff_getElem→ym,findIdx?_eq_none_iff→uj,length_set→oR,sum_cons→nL,getElem?_replicate→uk,filter_cons→qr,getElem_range→rJ,pairwise_cons→rK,getElem?_eq_none→um,ext_getElem?→rL,mem_flatMap→rM,getElem?_take_of_lt→yn,nodup_cons→rN,length_eq_zero_iff→yo,drop_eq_nil_of_le→yp,toArray→bS,pairwise_map→uo,getElem_inj→ur,drop_length→uu,lookup→qt,range_succ→uw,sum_append→ux,filterMap_cons→yq,map_congr_left→yr,filter_eq_self→yt,set_cons_zero→yw,getElem?_take→yx,pairwise_iff_getElem→Eb,any_eq_false→yy,getElem_drop→yz,map_take→uA,length_erase_of_mem→Ec,take_length→yA,nodup_range→yB,filter_cons_of_pos→Ed,filter_cons_of_neg→Ee,set_set→uB,of_mem_zip→yC,getElem?_toArray→Ef,dropLast_eq_take→Eg,mapM_cons→yD
open PySem renaming wpAny_bind→Ze,wpAny_pure→Zp,Value→Zu,wpAny→Zz,Shared→Z1,mainGlobals→Z2,model→Z5,Addr→Z8,starEach→ZR,Program→cz,wpAny_holding→eF,wpAny_mono→dm,Around→cu,wpAny_Call_Name_kw→iZ,mem_of_lookup→jL,wpAny_field→fg,World→bL,codeAny_builtin→jw,compareOp→d6,assignEach→fQ,wpAny_newObj_type→lM,Heap→bc,wpAny_tryCatch→ka,wpAny_standAt→jM,eval→bp,plainId_quiet→kc,Builtin→eG,binaryOp→fy,wpAny_setField→lN,bootBuiltins→kd,wpAny_pyIter_list→nM,sizeLine_eq→jN,rawInt→dU,NameKind→nN,codeAny_call_builtin→qA,wpAny_callSpecial?_slot→rO,wpAny_truthy_bool→oS,wpAny_loadPart'→rQ,backTo→d8,wpAny_letGo→kx,wpAny_seqItems→nO,FuncData→i6,Spec→Zc6,wpAny_getItem_str_slice→uC,wpAny_rule→lO,pyNext→fR,wpAny_pyIter_tuple→rR,codeAny→iK,wpAny_updateSeq→qB,foldedSetIterable→rT,wpAny_loadPart_at→rV,Stmt→eI,Scope→eL,keywordEach→nP,wpAny_call_entry→rW,codeAny_mono→oU,holding→jx,attributeBase→qC,behindInMarks→qD,ExceptHandler→Eh,wpAny_execs_nil→rX,sysModules→nQ,builtinsNs→nR,sliceBounds→oW,wpAny_pyNext_list_item→yE,wpAny_pyIter_enum→uD,plainObj_wpAny_Assign_Attribute→Ei,swapsWith→nS,wpAny_call→oX,closureFor→oY,scanBound→nU,wpAny_newList→rY,wpAny_of_eq→qE,letOwnedTupleGo→uE,post_val_or_str→uF,getItem→lQ,getMethod→oZ,slot_listiter_next→yF,IsPart→ke,call_meets→qF,backToKw→nV,wpAny_letOwnedTupleGo_enum→Ej,argsOk→ky,wpAny_attempt→uG,assignInOrder→uH,pyIter→kz,PyData→kD,strKind→uI,wpAny_pyNext_tuple_item→Ek,codeAmong→qG,lastMarks→qI,seqItems?→qJ,wpAny_pyIter_tupleiter→El,wpAny_pyIter_rangeiter→Em,assign→lR,argBest→nW,standAt→nX,typeOf→lT,ExcBaseFacts→uJ,codeAny_of_tree→yG,wpAny_pyIter_listiter→En,wpAny_runValue→yH,unpackItems→uK,wpAny_loadPart→yI,seqIndex_of→uL,subscripted→uM,richCompare→uN,intText?→yJ,excClassObj→uO,Keyword→Mt,callerA→o1,noteFrame→rZ,setFlight→r0,cLine→kE,Within→yK,BindsTo→qK,bindArgs→r7,seqIndex_neg→yL,valueAt→qL,callWith→r8,wpAny_typeOf→yM,Operator→r9,Result→qM,Arguments→uP,strValues→uQ
open PySem.Heap renaming get?_push_of_some→Zh,get?_push_size→Zw,lt_size→Z0,get?_update_other→ZB,get?_update_self→lU,ExtBut→f6,size_push→nY,SameBut→mJ,get?_none_of_le→uR,get?_push_at→yN,MadeExcOf→yO
open Bool renaming true→Zj,false→Zn,and_eq_true→Zr,false_ne_true→Zx,false_eq_true→lV,or_eq_true→lW,eq_false_iff→o2,not_eq_true'→o3,and_eq_true_iff→sd,eq_iff_iff→se
open Int renaming lt_of_le_of_lt→Zy,le_of_eq→ZA,le_trans→ZE,lt_of_lt_of_le→ZF,le_of_lt→ZG,le_refl→ZJ,not_lt→cT,emod_lt_of_pos→gM,emod_nonneg→fh,lt_add_of_pos_right→jO,natCast_nonneg→iL,not_le→d9,le_antisymm→i7,ne_of_gt→gQ,le_add_of_nonneg_right→o4,toNat_natCast→lX,lt_add_of_pos_left→qN,mul_le_mul_of_nonneg_left→uS,self_le_toNat→o6,ofNat_le→lY,ofNat_lt→lZ,add_comm→mK,toNat_of_nonneg→sf,sub_nonneg_of_le→uT,ediv_nonneg→sg,add_mul→o7,add_le_add→sh,add_le_add_right→yP,lt_iff_le_and_ne→yQ,lt_trans→si,add_lt_add_of_lt_of_le→Eo,le_add_of_nonneg_left→Ep,eq_ofNat_of_zero_le→Er,le_ediv_iff_mul_le→Es,natCast_add→yR,sub_le_self→yS,one_mul→uU,lt_irrefl→yT,zero_mul→yU,toNat→uV
open PySem.Str renaming ofString→ZP,empty→iM,length_append→qO,length→sj
open Ne renaming symm→bI
open PySem.Value renaming none→dD,ref→gT,type→mL,int→mM,builtin→sk,bool→qP
open Option.some renaming inj→hV
open Classical renaming byContradiction→mO,em→yV
open PySem.Builtin.Builtins renaming bindParams→nZ
open PySem.Obj renaming mapFields→gU,data_mapFields→kg,mapSeq→fj,isFreed_of_fields→qQ,cls_mapFields→uW
open PySem.PyData renaming canLayAll0→jP,canLay0→l4,eqv→jy,eqvAll→su,list→sv
open Array renaming getElem?_eq_getElem→og,getElem?_eq_some_iff→qR,getD_eq_getD_getElem?→sx,length_toList→o8,find?_toList→yW,getElem?_toList→Et
open True renaming intro→eP
open PyProof.Rows renaming seqObj→cF,callWith_type1→o9,evalAll_cons→qS,callWith_builtin1→uX,signs→qT,evalAll_nil→uY,IntsAre→hX,get?_update_seq→sy,subscriptTail_builtinR→yX,slot_tuple_getitem→Eu,mirror_size→qU,AllBare→l5,size_push'→qV,spliced_more→Ew,spliced_none→Ey,listUpdate_at→uZ,envOfC→mP,callWith_kw→u3,subscriptTail→yY
open PySem.Around renaming under_plainId→mQ
open PySem.F renaming plain_max_loop→oh,plainAttrs_list→u4,entry_max_loop→u5,excBase_ValueError→yZ,slot_dict_setdefault→Ez,plain_max→y0,entry_max→y8,args_tuple_add_2→EA,entry_tuple_add→EB,kind_max→y9,plain_list_iadd→EC,slot_tuple_add→ED
open PySem.NameKind renaming free→jz,cell→u6
open ForInStep renaming yield→l7
open False renaming elim→iN
open PyProof.Rows.F renaming plain_set_update_loop→za,entry_set_update_loop→EE
open PySem.Builtin.Slice renaming slicePlaces→u7,sliceAdjust→zb,sliceApplied→EF
open PySem.Builtin.Tuple renaming tupleExact→u9
open PySem.W renaming kas_rev→i8,kas_asc→jA,kas_place→pd,kas_sort→om,kas_desc→ph,kas_descPart→va,kas_count→vc
open PySem.Builtin.SmallTypes renaming nextOf→zc
open PySem.Heap.SameBut renaming update→vd
open PySem.Builtin.List renaming listTooLong→zd
open PySem.Code renaming quiet_builtin→vf
open List.cons renaming injEq→vg
open PySem.Calls renaming Name_function_global→EG,spliced_cons→ze,callWith_builtin→EH
open PyProof.Rows.IntsAre renaming int_at→vh
open PySem.CmpOf renaming ints_gt→vi,ints_lt→zf
open PySem.Builtin.Range renaming rangeSize→EI
open PySem.Txt renaming slice_le→vj,slice→sA
open PySem.Data renaming cell→sC
open PySem.Paired renaming length→zg
open Sum renaming inl→sD,inr→sE
noncomputable section
set_option compiler.extract_closed false
set_option bootstrap.genMatcherCode false
set_option genSizeOf false
set_option Elab.async false
set_option linter.all false
set_option maxRecDepth 100000
abbrev aM:=PySem.Str->Option PySem.Addr
abbrev aQ:=PySem.Value->PySem.Shared->Prop
abbrev aZ:=List<|PySem.Addr×PySem.Obj
local macro_rules|`(#[$a,$b,$c,*])=>`(⟨$a,$b,$c,*⟩)|`(#[$a,$b])=>`(⟨$a,$b⟩)
local macro_rules|`(00)=>`(by omega)|`(01)=>`(by decide)|`(02)=>`(by kernel_rfl)|`(03)=>`(by simp)|`(04)=>`(by rfl)|`(05)=>`(by lia)|`(06)=>`(by assumption)
def EJ(h:a<z):min a z+(z-(a+1)+1)=z:=by rw[yj<|Z3 h];show(Nat.succ_add a _).symm.trans<|lE h
def EK(n:Nat)(i:Int):max 0 (min (if i<0 then i+ ↑n else i) ↑n)=((if i<0 then(i+n).toNat else min i.toNat n:Nat):Int):=by
 by_cases h:i<0
 .rw[if_pos h,if_pos h,Int.ofNat_toNat,Int.max_comm,Int.min_eq_left<|ZE (yP (ZG h) n)<|ZA<|Int.zero_add _]
 .rw[if_neg h,if_neg h];let#[k,rfl]:=Er<|cT.mp h;change max 0 (min (k:Int) n)=(min k n:Nat);rcases Nat.le_total k n with a|a
  .rw[yj a,Int.min_eq_left<|lY.mpr a];show Int.max_eq_right<|iL _
  .rw[Nat.min_eq_right a,Int.min_eq_right<|lY.mpr a];show Int.max_eq_right<|iL _
theorem Zf{p:Prop}(h:False):p:=h.elim
namespace L2
open PySem PySem.Spec PyProof.Rows
abbrev _root_.Wa:=List<|Nat×Int×Int
abbrev _root_.Wb:=Array<|Option Zu
abbrev _root_.Wd:=List<|Str×Bool
abbrev _root_.Wh:=List<|Str×nN
abbrev _root_.Wj:=Array GenState
abbrev _root_.Wl:=List<|Int×Tok
abbrev _root_.Wn:=List<|Str×Zu
abbrev _root_.Wq:=List<|Str×Z8
abbrev _root_.Wv:=Option Expr
abbrev _root_.Ww:=Option Bool
abbrev _root_.Wx:=Option Str
abbrev _root_.Wy:=Option nN
abbrev _root_.Wz:=Option Int
abbrev _root_.Ta:=Option Nat
abbrev _root_.Tb:=Option Zu
abbrev _root_.Tc:=Option Z8
abbrev _root_.Td:=List Expr
abbrev _root_.Tf:=Array Nat
abbrev _root_.Th:=Array Zu
abbrev _root_.Tj:=List Str
abbrev _root_.Tk:=List Env
abbrev _root_.Tl:=List eI
abbrev _root_.Tn:=List Mt
abbrev _root_.To:=List Int
abbrev _root_.Tp:=List Nat
abbrev _root_.Tr:=List Eh
abbrev _root_.Ts:=List Z8
abbrev _root_.Tt:=List Zu
inductive aK(A:cu)(h:bc):Prop|calm:A.handled=Zg->aK A h|warm {x:Z8}{ox:Obj}{vx:Th}:A.handled=V (.ref x)->h.get? x=V ox->ox.data=.fields vx->vx[2]?=V .none->aK A h
def aK.mono(c:aK A h)(k:∀b o,h.get? b=V o->h'.get? b=V o):aK A h':=by cases c with|calm e=>show .calm e|warm e g d x=>show .warm e (k _ _ g) d x
def aK.but(c:aK A h)(e:f6 it h h')(g:h.get? it=V o)(d:o.data=.fields vs)(n:vs[2]?≠V .none):aK A h':=by cases c with|calm e=>show .calm e|@warm x C B u j k m=>calc .warm u (e _ _ (λz=>?_) j) k m;subst z;rw[j]at g;cases g;rw[k]at d;cases d;show n m
section
variable{prog:cz}{w:bL}{A:cu}{E:aQ}{s:Z1}
theorem Mu:entryFor table "proto.unchain"=V eG.«proto.unchain» :=entryFor_of_tree 02
def Mv(j:A.handled=V (.ref x))(m:s.heap.get? x=V ox)(dx:ox.data=.fields vx)(x2:vx[2]?=V .none)(ge:s.heap.get? e=V oe)(k:oe.data=.fields ve)(sz:2<ve.size)(ne:x≠e) (h:E (.ref e) {s with heap:=s.heap.update e (gU (·.setIfInBounds 2 (.ref x)))}):Zz (Z5 prog w) A (raiseNew (α:=α)<|.ref e) Q E s:=by
 unfold raiseNew;calc Ze<|wpAny_handled ?_;rw[j];change Zz _ _ (if (gT x != gT e)=Zj then _ else _) _ _ s;rw[if_pos<|by simp[bne_iff_ne];show ne];refine Ze<|eF<|yH<|jw Mu ?_
 .unfold eG.«proto.unchain»;dsimp only;calc Ze<|fg m dx x2 ?_;rw[if_pos 04];calc Ze<|Zp ?_;calc Zp ?_;unfold updateField;calc Ze<|Ze<|wpAny_load ge ?_;rw[k];dsimp only;rw[if_pos sz];show wpAny_update ge<|wpAny_throw h
def vk(c:aK A h1)(e1:f6 it s.heap h1) (u:∀h' e,f6 it s.heap h'->(∃o,h'.get? e=V o/\o.cls=.type "StopIteration")->E' (.ref e) {s with heap:=h'}):Zz (Z5 prog w) A.in1 (newExc (.type "StopIteration") []>>=λe=>(raiseNew e:Sem α)) Qf E' {s with heap:=h1}:=by
 calc Ze ?_;simp![newExc,newTuple];calc Ze (lM ?_<|by size_fits);calc Ze (m:=firstArgMember _ _) (qE (a:=dD) (by first|rfl|(simp![firstArgMember];rfl)) ?_);refine lM ?_<|by size_fits
 cases c with|calm k=>simp![raiseNew];calc Ze<|wpAny_handled ?_;rw[show A.in1.handled=Zg from k];show Ze<|Zp<|wpAny_throw<|u _ _ ((e1.push _).push _) #[_,Zw _ rfl,rfl]|warm k C D B=>have j:=Zh (h:=h1) {cls:=mL "tuple",data:=Data.seq #[]} C;calc Mv (A:=A.in1) k (Zh _ j) D B (Zw _ rfl) rfl (by simp;show iI _ _) (Zv<|Z0 j) ?_;calc u _ _ (λb o n q=>?_) #[_,lU _ (Zw _ rfl)<|qQ<|kg rfl _,uW _ _];have q1:=Zh (h:=h1) {cls:=mL "tuple",data:=Data.seq #[]} (e1 b o n q);rw[ZB _ _<|dC<|Z0 q1];show Zh _ q1
def vm:{F:String->eG // F "list_iterator.__next__"=eG.«list_iterator.__next__» /\F "tuple_iterator.__next__"=eG.«tuple_iterator.__next__»}:=#[_,rfl,rfl]
def zh{i n:Nat}(c:aK A s.heap)(ho:s.heap.get? it=V o)(hd:o.data=.fields (bS [.ref l,.int i 0]))(k:s.heap.get? l=V ol)(j:ol.data=.seq items n)(B:items[i]?=Zg) (u:∀h' e,f6 it s.heap h'->(∃o,h'.get? e=V o/\o.cls=.type "StopIteration")->E (.ref e) {s with heap:=h'}):Zz (Z5 prog w) A.in1 (vm.1 nm #[[.ref it],[]]) Q E s:=by change Zz _ _ (field _ 0>>=_) _ _ s;calc Ze<|fg (x:=.ref l) ho hd rfl ?_;calc(if_neg (c:=(gT l==dD)=Zj) Zx:ite _ _ _=_)▸ ?_;calc Ze<|fg (x:=.int i 0) ho hd rfl (Ze<|nO k j ?_);dsimp only;rw[lX,B];have m:=(vd s.heap it<|gU λx=>x.setIfInBounds 0 dD).extBut;show Ze<|lO<|Ze<|lN ho hd 03<|vk (c.but m ho hd 03) m u
def Y8{T id:String}(sl:Slot T "__next__" id)(ty:s.TypeIs (.ref it) T)(en:entryFor table id=V b)(k:ky id #[[.ref it],[]]) (Z:∀j:aQ,(∀h' e,f6 it s.heap h'->(∃o,h'.get? e=V o/\o.cls=.type "StopIteration")->j (.ref e) {s with heap:=h'})->Zz (Z5 prog w) A.in1 (b #[[.ref it],[]]) (λ_ _=>False) j s) (m:∀h',f6 it s.heap h'->Q Zg {s with heap:=h'}):Zz (Z5 prog w) A (fR<|.ref it) Q E s:=by unfold fR;calc Ze<|uG<|rO (name:=ZP "__next__") ty sl<|rW sl ty en (dm (Z _ λh' e x ⟨o,g,cl⟩=>?_) (λ_ _ z=>z.elim) λ_ _ z=>z) k;show Ze<|wpAny_isInstance (T:="StopIteration") (b:=Zj) #[o,g,cl] isSubtype_stop<|Zp<|m _ x
theorem zi(c:aK A s.heap)(j:s.heap.IsListIter it l i)(C:s.heap.IsList l items)(B:items[i]?=Zg)
  (D:∀h',f6 it s.heap h'->Q Zg {s with heap:=h'}):Zz (Z5 prog w) A (fR<|.ref it) Q E s:=
 let ⟨_,ho,_,hd⟩:=id j
 let ⟨_,u,_,_,m⟩:=C
 Y8 yF j.typeIs entry_listiter_next (args_listiter_next _) (λ_ k=>vm.2.1▸zh c ho hd u m B k) D
theorem zj(c:aK A s.heap)(j:s.heap.IsTupleIter it l i)(C:s.heap.IsTuple l items)(B:items[i]?=Zg)
  (D:∀h',f6 it s.heap h'->Q Zg {s with heap:=h'}):Zz (Z5 prog w) A (fR<|.ref it) Q E s:=
 let ⟨_,ho,_,hd⟩:=id j
 let ⟨_,u,_,_,m⟩:=C
 Y8 F.slot_tuple_iterator_next j.typeIs F.entry_tuple_iterator_next (F.args_tuple_iterator_next_1 _) (λ_ k=>vm.2.2▸zh c ho hd u m B k) D
def EL{x j step:Int}(c:aK A s.heap)(m:IsRangeIter s.heap it x j step)(z:j<=0) (u:∀h',f6 it s.heap h'->Q Zg {s with heap:=h'}):Zz (Z5 prog w) A (fR<|.ref it) Q E s:=by calc Y8 F.slot_range_iterator_next #[_,m,rfl] F.entry_range_iterator_next (F.args_range_iterator_next_1 _) (λB k=>?_) u;change Zz _ _ (field _ 0>>=_) _ _ s;calc Ze<|fg (x:=dU x) m rfl rfl (Ze<|fg (x:=dU j) m rfl rfl (Ze<|fg (x:=dU step) m rfl rfl ?_));change Zz _ _ (if j<=0 then _ else _) _ _ s;rw[if_pos z];show Ze<|lO<|Ze<|vk (s:=s) c (Heap.ExtBut.refl it s.heap) k
def i9(A:cu):Ts:=match A.handled with|some (.ref x)=>[x]|_=>[]
def aK.at(c:aK A h)(k:∀b∈i9 A,∀o,h.get? b=V o->h'.get? b=V o):aK A h':=by cases c with|calm e=>show .calm e|warm e g d x=>show .warm e (k _ (by simp[i9,e]) _ g) d x
theorem aK.lt(c:aK A h):∀b∈i9 A,b<h.objs.size:=λb Z=>by cases c with|calm e=>simp[i9,e]at Z|warm e g d x=>simp[i9,e]at Z;subst Z;show Z0 g
def aK.in1(c:aK A h):aK A.in1 h:=by cases c with|calm e=>show .calm e|warm e g d x=>show .warm e g d x
theorem vn(I k:Z8)(D:k≠I)(items:Th):Walks prog w A I (I::k::i9 A) [I] items.size (λi v=>items[i]?=V v) (λi h=>(h.IsListIter I k i/\h.IsList k items)/\aK A h) where
 sub:=03
 frame:=λ_ _ _ st B=>#[#[st.1.1.at λo e=>B I 03 o e,st.1.2.at λo e=>B k 03 o e],st.2.at λb Z=>B b<|by simp[Z]]
 item:=λi s Q E F st m=>by
  let#[o,ho,_,hd]:=id st.1.1;refine yE st.1.1 st.1.2 (og F) λu C j=>?_
  show m _ u s.toks (og F) #[#[C,st.1.2.extBut j.extBut D],st.2.but j.extBut ho hd 03] λb o Z e=>j.extBut b o (by simpa using Z) e
 done:=λs Q E st m=>zi st.2 st.1.1 st.1.2 03 λu x=>m u s.toks λb o Z e=>x b o (by simpa using Z) e
 self:=λ_ _ _ _ st m=>En st.1.1 m
theorem EM(I k:Z8)(D:k≠I)(items:Th):Walks prog w A I (I::k::i9 A) [I] items.size (λi v=>items[i]?=V v) (λi h=>(h.IsTupleIter I k i/\h.IsTuple k items)/\aK A h) where
 sub:=03
 frame:=λ_ _ _ st B=>#[#[st.1.1.at λo e=>B I 03 o e,st.1.2.at λo e=>B k 03 o e],st.2.at λb Z=>B b<|by simp[Z]]
 item:=λi s Q E F st m=>by
  let#[o,ho,_,hd]:=id st.1.1;refine Ek st.1.1 st.1.2 (og F) λu C j=>?_
  show m _ u s.toks (og F) #[#[C,st.1.2.extBut j.extBut D],st.2.but j.extBut ho hd 03] λb o Z e=>j.extBut b o (by simpa using Z) e
 done:=λs Q E st m=>zj st.2 st.1.1 st.1.2 03 λu x=>m u s.toks λb o Z e=>x b o (by simpa using Z) e
 self:=λ_ _ _ _ st m=>El st.1.1 m
theorem Mw(I:Z8)(a c:Int)(n:Nat):Walks prog w A I (I::i9 A) [I] n (λi v=>∃t,v=.int (a+i*c) t) (λi h=>IsRangeIter h I (a+(i:Nat)*c) ((n:Int)-(i:Nat)) c/\aK A h) where
 sub:=03
 frame:=λ_ _ _ st B=>#[B I 03 _ st.1,st.2.at λb Z=>B b<|by simp[Z]]
 item:=λi s Q E C st k=>by
  refine wpAny_pyNext_range_item st.1 (Int.sub_pos_of_lt<|lZ.mpr C) λm u j=>k _ m _ #[_,rfl] #[?_,st.2.but j.extBut st.1 rfl (by simp[dU])] λb o Z e=>j.extBut b o (by simpa using Z) e
  rw[yR,o7,<-Int.add_assoc,<-Int.sub_sub,show((1:Nat):Int)=1 from rfl,uU];show u
 done:=λs Q E st k=>EL st.2 st.1 (ZA<|Int.sub_self _) λm x=>k m s.toks λb o Z e=>x b o (by simpa using Z) e
 self:=λ_ _ _ _ st k=>Em st.1 k
def Mx(c:aK A s.heap)(j:IsTup s.heap t items) (u:∀h',f6 s.heap.objs.size s.heap h'->Q items.toList {s with heap:=h'}):Zz (Z5 prog w) A (uK (.ref t) items.size Zg) Q E s:=by
 have ne:t≠s.heap.objs.size:=let ⟨_,ho,_⟩:=j;Zv (Z0 ho);unfold uK notIterableAtAll;calc Ze<|Ze<|wpAny_specialOf j.typeIs slot_tuple_iter.lookup<|Zp ?_;simp![lV,if_false];refine Ze<|eF<|iter_tuple j<|Ze<|eF<|draw_tuple ne items.size 0 _ _ #[_,Zw _ rfl,rfl,rfl] (j.push _) (Zi<|yk _) λB k m=>?_
 rw[List.drop_zero,mC<|Zi o8,if_neg 03];refine Ze<|eF<|zj (((c.mono λb o e=>Zh _ e)).but m.extBut (Zw _ rfl) rfl 03) k ((j.push _).extBut m.extBut ne) 03 λJ x=>?_
 simp![Option.isSome_none,lV,if_false];show Zp<|u J λb o Z e=>x b o Z<|m.extBut b o Z<|Zh _ e
def My{x1}(c:aK A s.heap)(k:IsTup s.heap t items) (hn:(fQ elts env).length=items.size)(j:(fQ elts env).findIdx? (·.1)=Zg) (h:∀h',f6 s.heap.objs.size s.heap h'->Zz (Z5 prog w) A (uH ((fQ elts env).map (·.2)) items.toList) Q E {s with heap:=h'}):Zz (Z5 prog w) A (lR (.Tuple elts x1 pos) env<|.ref t) Q E s:=by rw[assign_Tuple];calc Ze<|jM ?_;unfold unpack;rw[hn,j];show Ze<|eF<|Mx c k h
def EN{Q:aQ}(c:aK A s.heap)(cm:CmpOf prog w A.in1 op (λi v=>(bS [mM a t,mM b u])[i]?=V v) k)
  (h:∀h' tk,(∀c o,s.heap.get? c=V o->h'.get? c=V o)->Q (if k 1 0=Zj then .int b u else .int a t) {s with heap:=h',toks:=tk}):
  Zz (Z5 prog w) A.in1 (kz<|.ref s.heap.objs.size) (λit s₂=>∃I B D n P St k,it=.ref I/\Walks prog w A.in1 I B D n P St/\St 0 s₂.heap/\(∀b∈B,b<s₂.heap.objs.size)/\0<n/\CmpOf prog w A.in1 op P k /\
   ∀v h' tk,P (nW k<|n-1) v->(∀b o,b∉D->s₂.heap.get? b=V o->h'.get? b=V o)->Q v {s₂ with heap:=h',toks:=tk}) E {s with heap:=s.heap.push {cls:=.type "tuple",data:=.seq (bS [.int a t,.int b u])} }:=by
 have C:(s.heap.push {cls:=.type "tuple",data:=.seq (bS [.int a t,.int b u])}).IsTuple s.heap.objs.size (bS [.int a t,.int b u]):=#[_,Zw _ rfl,rfl,0,rfl];have sz:(s.heap.push {cls:=.type "tuple",data:=.seq (bS [.int a t,.int b u])}).objs.size=s.heap.objs.size+1:=nY ..;refine rR C #[_,_,[_],_,_,_,k,rfl,EM (A:=A.in1) _ s.heap.objs.size (by rw[sz];show Zv<|ZS _) _,#[#[#[_,Zw _ rfl,rfl,rfl],C.push _],?_],λx m=>?_,03,cm,λv h' tk G F=>?_]
 .show c.in1.mono λb o e=>Zh _<|Zh _ e
 .change x<((s.heap.push _).push _).objs.size;rw[nY,sz];rcases ZC.mp m with rfl|m
  .rw[sz];show ZS _
  .rcases ZC.mp m with rfl|m
   .show fP<|ZS _
   .show fP<|fP<|c.in1.lt x m
 .have q:=h h' tk λx o e=>F x o (λhm=>by have:=Z0 e;rw[Z6.mp hm,sz]at this;show iU _<|lF this)<|Zh _<|Zh _ e
  have j:(bS [mM a t,mM b u])[if k 1 0=Zj then 1 else 0]?=V v:=G;by_cases z:k 1 0=Zj
  .rw[if_pos z]at j q;cases j;show q
  .rw[if_neg z]at j q;cases j;show q
theorem Mz(c:aK A s.heap)
  (h:∀h' tk,(∀c o,s.heap.get? c=V o->h'.get? c=V o)->Q (if b>a then .int b u else .int a t) {s with heap:=h',toks:=tk}):Zz (Z5 prog w) A (call (.builtin "max") [.int a t,.int b u]) Q E s:=
 call_max_two (EN c (vi (λi=>if i=0 then a else b) λi v q=>by match i with|0=>cases q;show#[_,rfl]|1=>cases q;show#[_,rfl]|i+2=>cases q) λh' tk k=>by simpa using h h' tk k)
theorem MA(c:aK A s.heap) (h:∀h' tk,(∀c o,s.heap.get? c=V o->h'.get? c=V o)->Q (if b<a then .int b u else .int a t) {s with heap:=h',toks:=tk}):Zz (Z5 prog w) A (call (.builtin "min") [.int a t,.int b u]) Q E s:=call_min_two (EN c (zf (λi=>if i=0 then a else b) λi v q=>by match i with|0=>cases q;show#[_,rfl]|1=>cases q;show#[_,rfl]|i+2=>cases q) λh' tk k=>by simpa using h h' tk k)
def zk:{F:String->eG // F "str_iterator"=eG.«str_iterator.__next__» /\F "str_ascii_iterator"=eG.«str_ascii_iterator.__next__»}:=#[_,rfl,rfl]
def EO(c:aK A s.heap)(j:s.heap.IsStrIter it ty x t i)(u:x.cps[i]?=Zg) (m:∀h' e,f6 it s.heap h'->(∃o,h'.get? e=V o/\o.cls=.type "StopIteration")->E (.ref e) {s with heap:=h'}):Zz (Z5 prog w) A.in1 (zk.1 nm #[[.ref it],[]]) Q E s:=by let#[o,ho,_,hd]:=j;change Zz _ _ (field _ 0>>=_) _ _ s;calc Ze<|fg (x:=.str x t) ho hd rfl ?_;change Zz _ _ (field _ 1>>=_) _ _ s;calc Ze<|fg (x:=.int i 0) ho hd rfl ?_;dsimp only;rw[lX,u];have k:=(vd s.heap it<|gU λx=>x.setIfInBounds 0 dD).extBut;show Ze<|lO<|Ze<|lN ho hd 03<|Ze<|kx<|vk (c.but k ho hd 03) k m
theorem MB(c:aK A s.heap)(j:s.heap.IsStrIter it "str_ascii_iterator" x t i)(u:x.cps[i]?=Zg) (m:∀h',f6 it s.heap h'->Q Zg {s with heap:=h'}):Zz (Z5 prog w) A (fR<|.ref it) Q E s:=Y8 F.slot_str_ascii_iterator_next j.typeIs F.entry_str_ascii_iterator_next (F.args_str_ascii_iterator_next_1 _) (λ_ k=>zk.2.2▸EO c j u k) m
theorem MC(c:aK A s.heap)(j:s.heap.IsStrIter it "str_iterator" x t i)(u:x.cps[i]?=Zg) (m:∀h',f6 it s.heap h'->Q Zg {s with heap:=h'}):Zz (Z5 prog w) A (fR<|.ref it) Q E s:=Y8 F.slot_str_iterator_next j.typeIs F.entry_str_iterator_next (F.args_str_iterator_next_1 _) (λ_ k=>zk.2.1▸EO c j u k) m
def MD{i:Nat}(c:aK A s.heap)(m:IsEnum s.heap e it i old)(j:s.heap.IsListIter it l i)(C:s.heap.IsList l items)(B:items[i]?=Zg) (D:∀h',f6 it s.heap h'->Q Zg {s with heap:=h'}):Zz (Z5 prog w) A (fR<|.ref e) Q E s:=by let#[_,ho,_,hd]:=id j;let#[_,u,_,_,k]:=C;unfold fR;calc Ze<|uG<|rO (name:=ZP "__next__") #[_,m,rfl] F.slot_enumerate_next<|rW F.slot_enumerate_next #[_,m,rfl] F.entry_enumerate_next ?_<|F.args_enumerate_next_1 _;change Zz _ _ (field _ 2>>=_) _ _ s;calc Ze<|fg (x:=.ref it) m rfl rfl ?_;unfold zc;calc Ze<|Ze<|rO (name:=ZP "__next__") j.typeIs yF<|rW yF j.typeIs entry_listiter_next (vm.2.1▸dm (zh (Q:=λ_ _=>False) c.in1 ho hd u k B λh' e x ⟨o,g,cl⟩=>?_) (λ_ _ z=>z.elim) λ_ _ z=>z)<|args_listiter_next _;show Ze<|wpAny_isInstance (T:="StopIteration") (b:=Zj) #[o,g,cl] isSubtype_stop<|Zp<|D _ x
end
abbrev Key:=Sum Int Str
def XF:Key->Zu->Bool|.inl k,v=>Value.isInt k v|.inr x,v=>Value.isStrOf x v
def zl(w:bL):Key->Int|.inl k=>hashInt k|.inr x=>hashStr w x
theorem V6:∀{k:Key}{v:Zu},XF k v=Zj->(∃i t,k=sD i/\v=mM i t)\/(∃x t,k=sE x/\v=Value.str x t)|.inl i,v,h=>by let#[t,e]:=Value.isInt_shape h;show .inl #[i,t,rfl,e]|.inr x,v,h=>by let#[t,e]:=Value.isStrOf_shape h;show .inr #[x,t,rfl,e]
def ME(i)(t):XF (.inl i) (.int i t)=Zj:=by simp[XF,Value.isInt]
def MF(x)(t):XF (.inr x) (.str x t)=Zj:=by simp[XF,Value.isStrOf]
theorem MG(a b):decide ((sD a:Key)=sD b)=(a==b):=05
theorem MH(a b):decide ((sE a:Key)=sE b)=decide (a=b):=05
theorem MI(a)(b):decide ((sD a:Key)=sE b)=Zn:=decide_eq_false λq=>nomatch q
theorem MJ(a)(b):decide ((sE a:Key)=sD b)=Zn:=decide_eq_false λq=>nomatch q
def Vw(prog:cz)(w:bL):PySem.KeyKind prog w Key where
 is:=XF
 hash:=zl w
 inj:=λv a b ha Z=>by
  rcases V6 ha with⟨i,t,rfl,rfl⟩|⟨x,t,rfl,rfl⟩
  .rcases V6 Z with⟨j,u,rfl,e⟩|⟨y,u,rfl,e⟩
   .injection e with e1 _;rw[e1]
   .show nomatch e
  .rcases V6 Z with⟨j,u,rfl,e⟩|⟨y,u,rfl,e⟩
   .show nomatch e
   .injection e with e1 _;rw[e1]
 byValue:=λk v h=>by rcases V6 h with⟨i,t,rfl,rfl⟩|⟨x,t,rfl,rfl⟩<;>rfl
 pyHash:=λhv h=>by
  rcases V6 hv with⟨i,t,rfl,rfl⟩|⟨x,t,rfl,rfl⟩
  .show wpAny_pyHash_int h
  .show wpAny_pyHash_str h
 eqBool:=λhu hv h=>by
  rcases V6 hu with⟨i,t,rfl,rfl⟩|⟨x,t,rfl,rfl⟩
  .rcases V6 hv with⟨j,u,rfl,rfl⟩|⟨y,u,rfl,rfl⟩
   .rw[MG]at h;show wpAny_eqBool_int h
   .rw[MI]at h;show SeqAt.EqAt.int_str i t y u _ _ _ _ h
  .rcases V6 hv with⟨j,u,rfl,rfl⟩|⟨y,u,rfl,rfl⟩
   .rw[MJ]at h;show SeqAt.EqAt.str_int x t j u _ _ _ _ h
   .rw[MH]at h;show wpAny_eqBool_str h
 «strs» :=λk x t v h=>by
  rcases V6 h with⟨i,u,rfl,e⟩|⟨y,u,rfl,e⟩
  .show nomatch e
  .injection e with e1 _
   subst e1;cases v<;>rfl
theorem MK(prog)(w)(i)(t):(Vw prog w).is (.inl i) (.int i t)=Zj:=ME i t
theorem ML(prog)(w)(x)(t):(Vw prog w).is (.inr x) (.str x t)=Zj:=MF x t
inductive bA where|af|bl (b:Bool)|int (i:Int)|str (x:Str)|iO (b:Array UInt8)|vo (b:UInt64)|ref (a:Z8)|ty (n:String)
 deriving DecidableEq
abbrev _root_.Wc:=List<|Option bA
abbrev _root_.Wt:=List<|Key×bA
abbrev _root_.Wu:=List<|Str×bA
abbrev _root_.Ti:=Option bA
abbrev _root_.Ua:=List bA
def RelV:bA->Zu->Prop|.af,u=>u=dD|.bl b,u=>u=qP b|.int i,u=>∃t,u=mM i t|.str x,u=>∃t,u=Value.str x t|.iO b,u=>∃t,u=Value.bytes b t|.vo b,u=>∃t,u=Value.float b t|.ref a,u=>u=gT a|.ty n,u=>u=mL n
abbrev Vals:Ua->Tt->Prop:=Paired RelV
theorem Vals.length(r:Vals xs us):xs.length=us.length:=zg r
theorem Vals.get:∀{xs:Ua}{us:Tt}{i:Nat}{x:bA},Vals xs us->xs[i]?=V x->∃u,us[i]?=V u/\RelV x u
 |_,_,_,_,.nil,e=>by simp at e
 |_,_,0,_,.cons r _,e=>by simp at e;subst e;show#[_,rfl,r]
 |_,_,i+1,x,.cons _ t,e=>by
  let#[u,j,J]:=Vals.get t<|by simpa using e
  show#[u,by simpa using j,J]
theorem Vals.set(r:RelV x u):∀{xs:Ua}{us:Tt}(i:Nat),Vals xs us->Vals (xs.set i x) (us.set i u)
 |_,_,_,.nil=>.nil
 |_,_,0,.cons _ t=>.cons r t
 |_,_,i+1,.cons q t=>.cons q<|Vals.set r i t
theorem Vals.append:∀{xs ys:Ua}{us ws:Tt},Vals xs us->Vals ys ws->Vals (xs++ys) (us++ws)|_,_,_,_,.nil,s=>s|_,_,_,_,.cons r t,s=>.cons r<|Vals.append t s
theorem Vals.take:∀{xs:Ua}{us:Tt}(n:Nat),Vals xs us->Vals (xs.take n) (us.take n)|_,_,0,_=>.nil|_,_,_+1,.nil=>.nil|_,_,n+1,.cons r t=>.cons r<|Vals.take n t
theorem Vals.drop:∀{xs:Ua}{us:Tt}(n:Nat),Vals xs us->Vals (xs.drop n) (us.drop n)|_,_,0,r=>r|_,_,_+1,.nil=>.nil|_,_,n+1,.cons _ t=>Vals.drop n t
def dt:Ti->Tb->Prop|some v,V u=>RelV v u|none,Zg=>True|_,_=>False
def KV{κ:Type}:List (κ×bA)->List (κ×Zu)->Prop:=Paired λ(p:κ×bA)(q:κ×Zu)=>p.1=q.1/\RelV p.2 q.2
noncomputable def kV:Key->bA|.inl i=>.int i|.inr x=>.str x
inductive HO where
 /-- a list -/
 |lst (xs:Ua)
 /-- a tuple (never changes) -/
 |tup (xs:Ua)
 /-- a dict whose keys are ints and texts; one whose keys are tuples of ints and texts (the empty one is both) -/
 |dK (kvs:Wt)|dT (kvs:List (List Key×bA))
 /-- a set of ints: its members,its size -/
 |set (S:Int->Bool) (n:Nat)
 /-- an instance of the class at C,its dict at dx,its attributes -/
 |ins (C dx:Z8) (fs:Wu)
 /-- the dict of the instance at x -/
 |own (x:Z8)
 /-- the dict of an exception -/
 |xd (fs:Wu)
 /-- a bound method,f of x -/
 |met (f x:Z8)
 /-- a range object lo,lo + 1,.. below hi -/
 |vp (lo hi:Int)
 /-- a thing that is known to the object (the script; a dict while a loop walks it): read,never written while it is so -/
 |bw (o:Obj) (u:HO)
 /-- a code object's table -/
 |hY (ps:Th)
 /-- any other thing,by what is Zj of its one object (a def of one's own: SetO a S n:= HO.ext λh=> ..) -/
 |ext (φ:bc->Prop)
abbrev Hp:=Z8->Option HO
def upd(H:Hp)(a:Z8)(o:HO):Hp:=λb=>if b=a then V o else H b
def J0:upd H a o a=V o:=by unfold upd;rw[if_pos rfl]
def Js(h:b≠a):upd H a o b=H b:=by unfold upd;rw[if_neg h]
theorem QU{H:Hp}(h:H a=V o)(h':H b=Zg):a≠b:=05
section
variable(P:cz)(w:bL)
def JX(H:Hp)(h:bc)(a:Z8):HO->Prop|.lst xs=>xs.length<=sizeLine/\∃(its:Tt) (n:Nat),Vals xs its/\h.get? a=V {cls:=.type "list",data:=.seq its.toArray n}|.tup xs=>xs.length<=sizeLine/\∃its:Tt,Vals xs its/\IsTup h a its.toArray|.dK kvs=>kvs.length<=sizeLine/\(a==nQ)=Zn/\∃vs,KV kvs vs/\h.DictOf (Vw P w) a vs|.dT kvs=>kvs.length<=sizeLine/\(a==nQ)=Zn/\∃xs:List<|List Key×Z8×Zu,Paired (λ(p:List Key×bA)(q:List Key×Z8×Zu)=>p.1=q.1/\H q.2.1=V (.tup<|p.1.map kV)/\RelV p.2 q.2.2) kvs xs /\ ∃o es ep,h.get? a=V o/\o.ExactDict/\o.data=.dict es ep/\es.toList=xs.map (entryOfKey<|tupleKind<|Vw P w)/\(xs.map (·.1)).Nodup|.set S n=>h.SetOf (intKind P w) a S n|.ins C dx fs=>H dx=V (.own a)/\fs.length<=1000/\dx≠a/\h.get? a=V (W.instObj C dx) /\ ∃mA,h.Ns1 dx mA/\(∀f,dt (fs.lookup f)<|mA f)/\yK mA (fs.map (·.1))|.own _=>∃o,h.get? a=V o|.xd fs=>∃mA,h.Ns1 a mA/\∀f,dt (fs.lookup f)<|mA f|.vp lo hi=>∃t u v,h.get? a=V {cls:=.type "range",data:=.fields (bS [.int lo t,.int hi u,.int 1 v])}|.bw o u=>h.get? a=V o/\JX H h a u|.hY ps=>h.get? a=V {cls:=.none,data:=.fields ps}|.met f x=>h.get? a=V (W.methodObj (.ref f)<|.ref x)|.ext φ=>φ h/\(∃o,h.get? a=V o)/\∀h1 J:bc,φ h1->(∀o,h1.get? a=V o->J.get? a=V o)->φ J
def cZ(H:Hp)(h:bc):Prop:=∀a o,H a=V o->JX P w H h a o
end
section
variable{P:cz}{w:bL}{H H':Hp}{h h':bc}{a:Z8}{o:HO}
def JX.lt(x:JX P w H h a o):a<h.objs.size:=by cases o with|lst xs=>let#[_,_,_,_,e]:=x;show Z0 e|tup xs=>let#[_,_,_,p]:=x;show p.lt|dK j=>let#[_,_,_,_,o,_,_,e,_]:=x;show Z0 e|dT j=>let#[_,_,_,_,o,_,_,e,_]:=x;show Z0 e|set S n=>let#[o,_,_,_,e,_]:=x;show Z0 e|ins C k fs=>let#[_,_,_,e,_]:=x;show Z0 e|own y=>let#[_,e]:=x;show Z0 e|xd fs=>let#[_,#[_,_,_,e,_],_]:=x;show Z0 e|vp lo m=>let#[_,_,_,e]:=x;show Z0 e|bw ob u=>let#[e,_]:=x;show Z0 e|hY ps=>show Z0<|x|met f y=>show Z0<|x|ext φ=>let#[_,#[_,e],_]:=x;show Z0 e
theorem Paired.sF:∀{l₁:List α}{l₂:List β},Paired F l₁ l₂->(∀a b,F a b->G a b)->Paired G l₁ l₂|_,_,.nil,_=>.nil|_,_,.cons r t,f=>.cons (f _ _ r)<|Paired.sF t f
def JX.eQ(x:JX P w H h a o)(k:∀b u,(b=a\/H b=V (.own a))->h.get? b=V u->h'.get? b=V u) (ho:∀b,H b=V (.own a)->H' b=V (.own a))(J:∀b xs,H b=V (.tup xs)->H' b=V (.tup xs)):JX P w H' h' a o:=by induction o with|lst xs=>let#[z,B,n,r,e]:=x;show#[z,B,n,r,k _ _ (.inl rfl) e]|tup xs=>let#[z,B,r,ob,e,c]:=x;show#[z,B,r,ob,k _ _ (.inl rfl) e,c]|dK D=>let#[z,y,I,r,ob,m,j,e,c]:=x;show#[z,y,I,r,ob,m,j,k _ _ (.inl rfl) e,c]|dT D=>let#[z,y,xs,r,ob,m,j,e,c]:=x;show#[z,y,xs,Paired.sF r λp q z=>#[z.1,J _ _ z.2.1,z.2.2],ob,m,j,k _ _ (.inl rfl) e,c]|set S n=>let#[ob,m,j,t,e,c]:=x;show#[ob,m,j,t,k _ _ (.inl rfl) e,c]|ins C M fs=>let#[d,z,ne,e,E,#[F,m,j,L,c],r]:=x;show#[ho _ d,z,ne,k _ _ (.inl rfl) e,E,#[F,m,j,k _ _ (.inr d) L,c],r]|own y=>let#[ob,e]:=x;show#[ob,k _ _ (.inl rfl) e]|xd fs=>let#[E,#[F,m,j,e,c],r]:=x;show#[E,#[F,m,j,k _ _ (.inl rfl) e,c],r]|vp lo O=>let#[t,u,v,e]:=x;show#[t,u,v,k _ _ (.inl rfl) e]|bw ob u G=>let#[e,q]:=x;show#[k _ _ (.inl rfl) e,G q]|hY ps=>have e:=x;show k a _ (.inl rfl) e|met f y=>have e:=x;show k a _ (.inl rfl) e|ext φ=>let#[p,#[o,e],st]:=x;show#[st _ _ p λo q=>k _ _ (.inl rfl) q,#[o,k _ _ (.inl rfl) e],st]
theorem cZ.lt(x:cZ P w H h)(e:H a=V o):a<h.objs.size:=(x a o e).lt
def cZ.fresh(x:cZ P w H h)(e:h.objs.size<=a):H a=Zg:=by cases q:H a with|none=>rfl|some u=>show absurd (ZL (x.lt q) e)<|iU _
theorem cZ.kept(x:cZ P w H h)(k:∀b u,h.get? b=V u->h'.get? b=V u):cZ P w H h':=λa o e=>
 (x a o e).eQ (λb u _ q=>k b u q) (λ_ q=>q) λ_ _ q=>q
theorem cZ.laid(x:cZ P w H h)(k:∀b u,h.get? b=V u->h'.get? b=V u)(hp:h.objs.size<=a)(new:JX P w (upd H a o) h' a o):cZ P w (upd H a o) h':=λb u e=>by
 have hn:=x.fresh hp;by_cases Z:b=a
 .subst Z;rw[J0]at e;cases e;show new
 .rw[Js Z]at e;show(x b u e).eQ (λc v _ q=>k c v q) (λc q=>by rw[Js<|QU q hn];show q) λc xs q=>by rw[Js<|QU q hn];show q
end
def Rd(H:Hp)(a:Z8)(u:HO):Prop:=H a=V u\/∃o,H a=V (.bw o u)
def Rd.ok(r:Rd H a u)(x:cZ P w H h):JX P w H h a u:=by
 rcases r with r|⟨o,r⟩
 .show x a u r
 .let#[_,q]:=x a _ r;show q
def oo:Option HO->Prop|some (.lst _)=>True|some (.dK _)=>True|some (.dT _)=>True|some (.set _ _)=>True|some (.ins _ _ _)=>True|some (.ext _)=>True|_=>False
section
variable{P:cz}{w:bL}{H:Hp}{h h':bc}{x e:Z8}{o':HO}
theorem cZ.write(ok:cZ P w H h)(C:oo<|H x)(G:e=x\/H e=V (.own x))(k:∀b u,b≠e->h.get? b=V u->h'.get? b=V u)(E:∃u,h'.get? e=V u)
  (new:JX P w (upd H x o') h' x o'):cZ P w (upd H x o') h':=λb u q=>by
 have j:∀c y,H c=V (.own y)->c≠x:=λc y r z=>by subst z;rw[r]at C;show C
 have B:∀c xs,H c=V (.tup xs)->c≠x:=λc xs r z=>by subst z;rw[r]at C;show C
 by_cases Z:b=x
 .subst Z;rw[J0]at q;cases q;show new
 .rw[Js Z]at q;by_cases m:b=e
  .have F:H b=V (.own x):=by
    rcases G with z|z
    .lia
    .rw[m];show z
   rw[q]at F;cases F;let#[v,I]:=E;show#[v,by rw[m];show I]
  .refine(ok b u q).eQ (λc v D r=>k c v ?_ r) (λc r=>by rw[Js<|j c b r];show r) λc xs r=>by rw[Js<|B c xs r];show r
   rcases D with rfl|D
   .show m
   .rintro rfl;rcases G with z|z
    .show j c b D z
    .simp_all
end
structure Un(fs ex:Ts)(H H':Hp)(h h':bc):Prop where
 keep:∀b o,h.get? b=V o->H b=Zg->b∉fs->b∉ex->h'.get? b=V o
 slot:∀b o,h.get? b=V o->H b=Zg->b∈fs->b∉ex->∃sl,h'.get? b=V {o with slots:=sl}
 free:∀b o,h.get? b=V o->H b=Zg->b∉ex->H' b=Zg
 there:∀b o,h.get? b=V o->b∉ex->∃o',h'.get? b=V o'
 cI:∀b xs,H b=V (.tup xs)->H' b=V (.tup xs)
 bf:∀b o u,H b=V (.bw o u)->H' b=V (.bw o u)
 cU:∀b ps,H b=V (.hY ps)->∃more,H' b=V (.hY<|ps++more)
section
variable{fs fs' ex ex':Ts}{H H1 H2:Hp}{h h1 J h':bc}{a x e:Z8}{o:HO}
def Un.any(u:Un fs ex H H1 h h1)(q:h.get? b=V ob)(n:H b=Zg)(j:b∉ex):∃sl,h1.get? b=V {ob with slots:=sl}:=by
 by_cases Z:b∈fs
 .show u.slot b ob q n Z j
 .show#[ob.slots,u.keep b ob q n Z j]
theorem Un.kept(k:∀b u,h.get? b=V u->h'.get? b=V u):Un fs ex H H h h':=#[λb ob q _ _ _=>k b ob q,λb ob q _ _ _=>#[ob.slots,k b ob q],λ_ _ _ n _=>n,λb ob q _=>#[ob,k b ob q],λ_ _ q=>q,λ_ _ _ q=>q,λ_ ps q=>#[#[],by rw[q];simp]]
theorem Un.refl:Un fs ex H H h h:=Un.kept λ_ _ q=>q
theorem Un.laid(k:∀b u,h.get? b=V u->h'.get? b=V u)(hp:h.objs.size<=a)(hn:H a=Zg):Un fs ex H (upd H a o) h h' where
 keep:=λb u q _ _ _=>k b u q
 slot:=λb u q _ _ _=>#[u.slots,k b u q]
 free:=λb u q n _=>by rw[Js<|Zv<|ZL (Z0 q) hp];show n
 there:=λb u q _=>#[u,k b u q]
 cI:=λb xs q=>by rw[Js<|QU q hn];show q
 bf:=λb u xs q=>by rw[Js<|QU q hn];show q
 cU:=λb ps q=>#[#[],by rw[Js<|QU q hn,q];simp]
def Un.write(m:oo<|H x)(D:e=x\/H e=V (.own x))(k:∀b u,b≠e->h.get? b=V u->h'.get? b=V u)(B:∃u,h'.get? e=V u):Un fs ex H (upd H x o) h h':=by
 have C:∀b,H b=Zg->b≠x:=λb n z=>by subst z;rw[n]at m;show m
 have Z:∀b,H b=Zg->b≠e:=λb n z=>by
  subst z;rcases D with r|r
  .show C b n r
  .rw[n]at r;cases r
 have hm:∀b u,H b=V u->¬oo (V u)->b≠x:=λb u q nm z=>by subst z;rw[q]at m;show nm m
 calc#[λb u q n _ _=>k b u (Z b n) q,λb u q n _ _=>#[u.slots,k b u (Z b n) q],λb u q n _=>by rw[Js<|C b n];show n,λb u q _=>?_,λb xs q=>by rw[Js<|hm b _ q λz=>z];show q,λb u xs q=>by rw[Js<|hm b _ q λz=>z];show q,λb ps q=>#[#[],by rw[Js<|hm b _ q λz=>z,q];simp]];by_cases j:b=e
 .subst j;show B
 .show#[u,k b u j q]
end
noncomputable def vq (h:bc)(H:Hp):Ts:=(ZM h.objs.size).filter λa=>(H a).isSome
def fA(h:bc)(H:Hp):bc:=W.hideAll h<|vq h H
theorem MM(h)(H):(fA h H).objs.size=h.objs.size:=W.hideAll_size _ _
theorem MN(e:h.get? b=V o)(n:H b=Zg):(fA h H).get? b=V o:=W.hideAll_get _ e λhm=>by have q:=(j9.mp hm).2;rw[n]at q;simp at q
def MO(e:(fA h H).get? b=V o):h.get? b=V o/\H b=Zg:=by have j:=W.of_hideAll (vq h H) e;calc#[j,?_];cases q:H b with|none=>rfl|some x=>have hm:b∈vq h H:=j9.mpr #[hU.mpr<|Z0 j,by simp[q]];have z:(fA h H).get? b=Zg:=W.hideAll_none (vq h H) hm;rw[z]at e;cases e
def Qt(A:cu)(H:Hp):Prop:=A.handled=Zg\/∃a oe u vs,A.handled=V (.ref a)/\H a=V (.bw oe u)/\oe.data=.fields vs/\vs[2]?=V .none
theorem Qt.mono(c:Qt A H)(f:∀b o u,H b=V (.bw o u)->H' b=V (.bw o u)):Qt A H':=c.imp id λ⟨a,j,u,D,C,B,m,k⟩=>#[a,j,u,D,C,f _ _ _ B,m,k]
theorem Qt.cw(c:Qt A H)(k:cZ P w H h):aK A h:=c.elim .calm λ⟨_,_,_,_,u,j,B,m⟩=>.warm u (k _ _ j).1 B m
structure Mod(K:W.Frag)(mg:Str->Tb)(base:bc):Prop where
 pj:K.In base
 glob:base.Ns Z2 mg
 blt:∃mb,base.Ns nR mb/\∀x:Str,x≠"__name__"->mb x=kd x
 nolimit:base.NoLimit
set_option genInjectivity false in
structure Cx where
 prog:cz
 w:bL
 K:W.Frag
 mg:Str->Tb
 base:bc
 A:cu
 N:Tj
 s₀:Z1
 H₀:Hp
 env:Env
 outer:Tk
 stack:Tk
 ex:Ts
 fn:Str->Bool
 calm:Bool
 pn:aZ
 xe:aQ
noncomputable def dQ (l:Tk):Ts:=l.filterMap (·.frame)
abbrev Cx.fs(X:Cx):Ts:=dQ X.outer
def pq(sc:eL)(x:Str):Prop:=sc.names.lookup x=V .local\/sc.names.lookup x=V .cell\/sc.names.lookup x=V .free
def Loc(sc:eL)(x:Str):Prop:=sc.names.lookup x=V .local\/sc.names.lookup x=V .cell
def Look(env:Env)(h:bc)(m:Str->Tb)(x:Str)(u:Zu):Prop:=(env.kindOf x=V .local/\m x=V u)\/((env.kindOf x=V .cell\/env.kindOf x=V .free)/\∃c,env.cells.lookup x=V c/\h.IsCell c (V u))
structure Cx.Ok(X:Cx):Prop where
 mod:Mod X.K X.mg X.base
 kind:X.env.scope.kind=.function
 glob:X.env.globals=Z2
 blt:X.env.builtins=nR
 above:X.s₀.heap.objs.size<=X.env.locals
 inj:∀x y c,X.env.cells.lookup x=V c->X.env.cells.lookup y=V c->x=y
 has:∀x,(X.env.kindOf x=V .cell\/X.env.kindOf x=V .free)->∃c,X.env.cells.lookup x=V c
 pv:∀x c,X.fn x=Zj->X.env.cells.lookup x=V c->X.s₀.heap.objs.size<=c
 hd:X.calm=Zj->Qt X.A X.H₀
 frames:X.A.frames=V X.stack
 qW:X.stack=X.outer\/(X.stack=X.env::X.outer/\X.env.frame=V X.env.locals)
 qX:∀b∈X.ex,b≠X.env.locals/\∀x c,X.env.cells.lookup x=V c->c≠b
 bs:∀b o,X.base.get? b=V o->X.s₀.heap.get? b=V o/\X.H₀ b=Zg
 kh:X.base.objs.size<=X.s₀.heap.objs.size
 jb:∀b o,X.base.get? b=V o->b∉X.ex
 h2:∀b∈X.ex,b∉X.fs
 dw:X.s₀.heap.FunFrames X.base X.outer
 l8:∀b∈X.fs,X.H₀ b=Zg
structure Inv(X:Cx)(O:aZ)(U:Wc)(H:Hp)(s:Z1):Prop where
 ok:X.Ok
 os:s.os=X.s₀.os
 bare:l5 s.gens
 base:Un X.fs X.ex X.H₀ H X.s₀.heap s.heap
 loc:∃m,s.heap.Ns X.env.locals m/\∀(i:Nat)(x:Str)(v:bA),X.N[i]?=V x->U[i]?=V (V v)->pq X.env.scope x->∃u,RelV v u/\Look X.env s.heap m x u
 cell:∀x c,X.env.cells.lookup x=V c->∃v,s.heap.IsCell c v
 free:H X.env.locals=Zg
 bY:∀x c,X.env.cells.lookup x=V c->H c=Zg
 pin:∀p∈X.pn++O,s.heap.get? p.1=V p.2/\H p.1=Zg/\p.1≠X.env.locals/\p.1∉X.fs/\∀v,p.2.data≠.cell v
 az:cZ X.prog X.w H s.heap
 len:U.length=X.N.length
section
variable{X:Cx}{O:aZ}{U:Wc}{H H':Hp}{s:Z1}{h':bc}
theorem Cx.Ok.zm(ok:X.Ok)(e:X.base.get? b=V o):b∉X.fs:=λZ=>by have:=(ok.dw.mem Z).1;rw[e]at this;cases this
theorem Inv.bs(I:Inv X O U H s):∀b o,X.base.get? b=V o->s.heap.get? b=V o/\H b=Zg:=λb o e=>
 #[I.base.keep b o (I.ok.bs b o e).1 (I.ok.bs b o e).2 (I.ok.zm e) (I.ok.jb b o e),I.base.free b o (I.ok.bs b o e).1 (I.ok.bs b o e).2 (I.ok.jb b o e)]
theorem Inv.bk(I:Inv X O U H s):∀b o,X.base.get? b=V o->s.heap.get? b=V o:=λb o e=>(I.bs b o e).1
theorem Inv.cS(I:Inv X O U H s)(j:X.calm=Zj):Qt X.A H:=(I.ok.hd j).mono I.base.bf
theorem Inv.cw(I:Inv X O U H s)(j:X.calm=Zj):aK X.A s.heap:=(I.cS j).cw I.az
theorem Inv.mod(I:Inv X O U H s):Mod X.K X.mg X.base:=I.ok.mod
theorem Inv.cN(I:Inv X O U H s):X.K.In s.heap:=I.ok.mod.pj.keeps I.bk
theorem Inv.lt(I:Inv X O U H s):X.env.locals<s.heap.objs.size:=let ⟨_,hn,_⟩:=I.loc;hn.lt
theorem Inv.sz(I:Inv X O U H s):X.s₀.heap.objs.size<=s.heap.objs.size:=Zb I.ok.above<|Z3 I.lt
theorem Inv.zo(I:Inv X O U H s)(h:s.heap.objs.size<=a):a∉X.fs:=λZ=>by let#[_,o,ho,_]:=I.ok.dw.mem Z;show absurd (ZL (Z0 ho)<|Zb I.sz h)<|iU _
theorem Inv.kG(I:Inv X O U H s):∀x c,X.env.cells.lookup x=V c->c≠X.env.locals:=λx c e z=>by let#[v,o,ho,hd]:=I.cell x c e;let#[m,#[C,u,B,k,j,_],_]:=I.loc;rw[z,k]at ho;cases ho;rw[j]at hd;cases hd
def Inv.dw(I:Inv X O U H s):s.heap.FunFrames X.base X.outer:=by
 have all:∀(l:Tk),(∀b∈dQ l,b∈X.fs)->X.s₀.heap.FunFrames X.base l->s.heap.FunFrames X.base l:=by
  intro l;induction l with|nil=>intro _ _;trivial|cons env r D=>
   intro m B;let#[u,#[L,o,k,hn,ho,hd],C]:=B;have j:=m L<|by unfold dQ;rw[yq,k];show ZD
   let#[E,e]:=I.base.slot L o ho (I.ok.l8 L j) j λz=>I.ok.h2 L z j
   show#[u,#[L,_,k,hn,e,hd],D (λb Z=>m b<|by unfold dQ;rw[yq,k];show Zt _ Z) C]
 show all X.outer (λ_ Z=>Z) I.ok.dw
def Inv.stack(I:Inv X O U H s):s.heap.FunFrames X.base X.stack:=by
 rcases I.ok.qW with e|⟨e,hf⟩
 .rw[e];show I.dw
 .rw[e];let#[m,hn,_]:=I.loc;calc .cons (by rw[I.ok.kind];decide) hf hn ?_ I.dw;show uR<|Zb I.ok.kh I.ok.above
theorem Inv.jc(I:Inv X O U H s):∀b∈dQ X.stack,b∈X.env.locals::X.fs:=λb Z=>by
 rcases I.ok.qW with e|⟨e,hf⟩
 .simp_all
 .rw[e]at Z;unfold dQ at Z;rw[yq,hf]at Z;show Z
theorem Inv.dE(I:Inv X O U H s):∀b∈dQ X.stack,H b=Zg:=λb Z=>by
 rcases ZC.mp (I.jc b Z)with e|Z
 .rw[e];show I.free
 .let#[_,o,ho,_]:=I.ok.dw.mem Z;show I.base.free b o ho (I.ok.l8 b Z) λz=>I.ok.h2 b z Z
def Inv.step{ch:Ts}(I:Inv X O U H s)
  (C:∀b∈ch,(b∈X.ex\/X.s₀.heap.objs.size<=b)/\b≠X.env.locals/\(∀x c,X.env.cells.lookup x=V c->c≠b)/\∀p∈X.pn++O,p.1≠b)
  (keep:∀b o,b≠X.env.locals->b∉X.fs->b∉ch->s.heap.get? b=V o->H b=Zg->h'.get? b=V o)
  (slot:∀b o,b≠X.env.locals->b∈X.fs->b∉ch->s.heap.get? b=V o->H b=Zg->∃sl,h'.get? b=V {o with slots:=sl})(free:∀b o,b∉ch->s.heap.get? b=V o->H b=Zg->H' b=Zg)
  (there:∀b o,b∉ch->s.heap.get? b=V o->∃o',h'.get? b=V o')
  (cI:∀b xs,H b=V (.tup xs)->H' b=V (.tup xs))(bf:∀b o u,H b=V (.bw o u)->H' b=V (.bw o u))(cU:∀b ps,H b=V (.hY ps)->∃more,H' b=V (.hY<|ps++more))
  (ns:∀m,s.heap.Ns X.env.locals m->h'.Ns X.env.locals m)(az:cZ X.prog X.w H' h')(Y:l5 g'):
  Inv X O U H' {s with heap:=h',gens:=g',drawn:=d',toks:=t'}:=by
 have G:∀b o,X.s₀.heap.get? b=V o->b≠X.env.locals:=λb o e=>Zv<|ZL (Z0 e) I.ok.above
 have E:∀b o,X.s₀.heap.get? b=V o->b∉X.ex->b∉ch:=λb o e j Z=>by
  rcases(C b Z).1 with z|z
  .show j z
  .show absurd (ZL (Z0 e) z)<|iU _
 have B:∀x c,X.env.cells.lookup x=V c->∀v,s.heap.IsCell c v->h'.IsCell c v:=λx c e v ⟨o,ho,hd⟩=>by
  have D:=λz=>(C c z).2.2.1 x c e rfl
  by_cases P:c∈X.fs
  .let#[sl,q]:=slot c o (I.kG x c e) P D ho<|I.bY x c e;show#[_,q,hd]
  .show#[o,keep c o (I.kG x c e) P D ho<|I.bY x c e,hd]
 refine#[I.ok,I.os,Y,#[λb o e n Z j=>?_,λb o e n Z j=>?_,λb o e n j=>?_,λb o e j=>?_,λb xs e=>cI b xs<|I.base.cI b xs e,λb o xs e=>bf b o xs<|I.base.bf b o xs e,λb ps e=>?_],?_,λx c e=>?_,?_,λx c e=>?_,λp Q=>?_,az,I.len]
 .show keep b o (G b o e) Z (E b o e j) (I.base.keep b o e n Z j)<|I.base.free b o e n j
 .let#[sl,F]:=I.base.slot b o e n Z j;let#[L,J]:=slot b _ (G b o e) Z (E b o e j) F<|I.base.free b o e n j;show#[L,J]
 .let#[o',F]:=I.base.there b o e j;show free b o' (E b o e j) F<|I.base.free b o e n j
 .let#[o',F]:=I.base.there b o e j;show there b o' (E b o e j) F
 .let#[m1,F]:=I.base.cU b ps e;let#[R,J]:=cU b _ F;show#[m1++R,by rw[J,Array.append_assoc]]
 .let#[m,hn,W]:=I.loc;calc#[m,ns m hn,λi x v F J S=>?_];let#[u,r,l]:=W i x v F J S;calc#[u,r,?_];rcases l with l|⟨k,c,e,z⟩
  .show .inl l
  .show .inr #[k,c,e,B x c e _ z]
 .let#[v,z]:=I.cell x c e;show#[v,B x c e v z]
 .let#[m,#[o,_,_,ho,_],_]:=I.loc;show free _ o (λz=>(C _ z).2.1 rfl) ho I.free
 .let#[v,o,ho,hd]:=I.cell x c e;show free c o (λz=>(C c z).2.2.1 x c e rfl) ho<|I.bY x c e
 .let#[e,n,ne,M,d]:=I.pin p Q;have D:=λz=>(C p.1 z).2.2.2 p Q rfl
  show#[keep p.1 p.2 ne M D e n,free p.1 p.2 D e n,ne,M,d]
def Inv.un(I:Inv X O U H s)(u:Un X.fs [] H H' s.heap h')(az:cZ X.prog X.w H' h'):Inv X O U H' {s with heap:=h',toks:=t'}:=by let#[m,#[o,E,F,ho,r],_]:=id I.loc;let#[J,D]:=u.any ho I.free 03;show I.step (ch:=[]) (λ_ z=>nomatch z) (λb o _ Z _ e n=>u.keep b o e n Z 03) (λb o _ Z _ e n=>u.slot b o e n Z 03) (λb o _ e n=>u.free b o e n 03) (λb o _ e=>u.there b o e 03) u.cI u.bf u.cU (λG hm=>by let#[L,k,B,j,C]:=hm;rw[ho]at j;cases j;show#[_,k,B,D,C]) az I.bare
def Inv.call(I:Inv X O U H s)(u:Un (dQ X.stack) ch H H' s.heap h')(az:cZ X.prog X.w H' h')(F:l5 g') (B:∀b∈ch,(b∈X.ex\/X.s₀.heap.objs.size<=b)/\b≠X.env.locals/\(∀x c,X.env.cells.lookup x=V c->c≠b)/\∀p∈X.pn++O,p.1≠b):Inv X O U H' {s with heap:=h',gens:=g',drawn:=d',toks:=t'}:=by
 let#[m,#[o,J,L,ho,r],_]:=id I.loc;let#[P,E]:=u.any ho I.free λz=>(B _ z).2.1 rfl
 show I.step B (λb o E Z j e n=>u.keep b o e n (λz=>(ZC.mp<|I.jc b z).elim E Z) j) (λb o _ _ j e n=>u.any e n j) (λb o j e n=>u.free b o e n j) (λb o j e=>u.there b o e j) u.cI u.bf u.cU (λM hm=>by let#[Q,C,D,k,G]:=hm;rw[ho]at k;cases k;show#[_,C,D,E,G]) az F
def Inv.turned(I:Inv X O U H s)(k:∀b o,b≠it->s.heap.get? b=V o->h'.get? b=V o)(hn:H it=Zg)(C:it≠X.env.locals)
  (h1:it∈X.ex\/X.s₀.heap.objs.size<=it)(J:∀x c,X.env.cells.lookup x=V c->c≠it)(h3:∀p∈X.pn++O,p.1≠it):Inv X O U H {s with heap:=h',toks:=t'}:=by
 have B:∀b u,H b=V u->b≠it:=λb u e z=>by rw[z,hn]at e;cases e
 refine I.step (ch:=[it]) (λb Z=>?_) (λb o _ _ j e _=>k b o (λz=>j<|by simp[z]) e) (λb o _ _ j e _=>#[o.slots,k b o (λz=>j<|by simp[z]) e]) (λ_ _ _ _ n=>n)
  (λb o j e=>#[o,k b o (λz=>j<|by simp[z]) e]) (λ_ _ e=>e) (λ_ _ _ e=>e) (λb ps e=>#[#[],by rw[e];simp]) (λm hm=>?_) (λb u e=>?_) I.bare
 .have e:b=it:=by simpa using Z
  subst e;show#[h1,C,J,h3]
 .let#[o,D,E,ho,r]:=hm;show#[o,D,E,k _ o (bI C) ho,r]
 .refine(I.az b u e).eQ (λc v j q=>k c v ?_ q) (λ_ q=>q) λ_ _ q=>q
  rcases j with z|z
  .rw[z];show B b u e
  .show B c _ z
theorem Inv.tok(I:Inv X O U H s)(t):Inv X O U H {s with toks:=t}:=I.un Un.refl I.az
theorem Inv.kept(I:Inv X O U H s)(k:∀b u,s.heap.get? b=V u->h'.get? b=V u):Inv X O U H {s with heap:=h',toks:=t'}:=I.un (Un.kept k)<|I.az.kept k
theorem Inv.laid(I:Inv X O U H s)(k:∀b u,s.heap.get? b=V u->h'.get? b=V u)(hp:s.heap.objs.size<=a)(new:JX X.prog X.w (upd H a o) h' a o):Inv X O U (upd H a o) {s with heap:=h',toks:=t'}:=I.un (Un.laid k hp<|I.az.fresh hp)<|I.az.laid k hp new
theorem Inv.write(I:Inv X O U H s)(m:oo<|H x)(B:e=x\/H e=V (.own x))(k:∀b u,b≠e->s.heap.get? b=V u->h'.get? b=V u)(j:∃u,h'.get? e=V u) (new:JX X.prog X.w (upd H x o) h' x o):Inv X O U (upd H x o) {s with heap:=h',toks:=t'}:=I.un (Un.write m B k j)<|I.az.write m B k j new
theorem Inv.jB(I:Inv X O U H s)(h:∀p∈pj',s.heap.get? p.1=V p.2/\H p.1=Zg/\p.1≠X.env.locals/\p.1∉X.fs/\∀v,p.2.data≠.cell v):Inv X pj' U H s:=#[I.ok,I.os,I.bare,I.base,I.loc,I.cell,I.free,I.bY,λp j=>(ZY.mp j).elim (λz=>I.pin p<|iJ _ z)<|h p,I.az,I.len]
def zq{N:Tj}(k:N.Nodup){i j:Nat}(a:N[i]?=V x)(b:N[j]?=V x):i=j:=by let#[B,u]:=Zs.mp a;let#[J,m]:=Zs.mp b;show(ur k).mp<|u.trans m.symm
def MP(I:Inv X O U H s)(hN:X.N.Nodup)(hi:X.N[i]?=V x)(G:Loc X.env.scope x)(r:RelV v u)
  (h:∀s',Inv X O (U.set i<|V v) H s'->(∃a,mJ a s.heap s'.heap/\(a=X.env.locals\/X.env.cells.lookup x=V a))->Q () s')(hf:X.fn x=Zj\/X.env.scope.names.lookup x=V .local:=by assumption):Zz M A (storeName X.env x u) Q E s:=by
 let#[m,hn,hl]:=id I.loc;have hcls:(X.env.scope.kind==.class||(X.env.scope.kind==.module&&X.env.locals != X.env.globals))=Zn:=by rw[I.ok.kind];rfl
 have hiU:i<U.length:=by rw[I.len];show(Zs.mp hi).1
 have kG:=I.kG;have D:∀{a:Z8}{S:bc},(∃o,s.heap.get? a=V o/\H a=Zg)->mJ a s.heap S->cZ X.prog X.w H S:=λ{a S} ha B b ob e=>by
  let#[_,_,L]:=ha;refine(I.az b ob e).eQ (λc w' F q=>(B.2 c ?_).trans q) (λ_ q=>q) λ_ _ q=>q
  rintro rfl;rcases F with rfl|F
  .rw[L]at e;cases e
  .lia
 rcases G with hk|hk
 .calc wpAny_storeName_local hk hn (λS hn' B=>?_) hcls;let#[oL,_,_,hoL,_]:=id hn;refine h _ #[I.ok,I.os,I.bare,#[λb o e n Z G=>?_,λb o e n Z G=>?_,I.base.free,λb o e G=>?_,I.base.cI,I.base.bf,I.base.cU],#[_,hn',λj y v' C J e3=>?_],λy c e=>?_,I.free,I.bY,λp hp=>?_,D #[oL,hoL,I.free] B,by simpa using I.len] #[_,B,.inl rfl]
  .show(B.2 b<|Zv<|ZL (Z0 e) I.ok.above).trans<|I.base.keep b o e n Z G
  .let#[sl,C]:=I.base.slot b o e n Z G;show#[sl,(B.2 b<|Zv<|ZL (Z0 e) I.ok.above).trans C]
  .let#[o',C]:=I.base.there b o e G;show#[o',(B.2 b<|Zv<|ZL (Z0 e) I.ok.above).trans C]
  .by_cases P:j=i
   .subst P;rw[hi]at C;cases C;rw[iV hiU]at J;cases J;show#[u,r,.inl #[hk,03]]
   .rw[hL<|bI P]at J;let#[u',r',q]:=hl j y v' C J e3;calc#[u',r',?_];rcases q with⟨k,e⟩|⟨k,c,e,z⟩
    .calc .inl #[k,?_];have:y≠x:=λe=>P<|zq hN C<|e▸hi
     simp[this,e]
    .show .inr #[k,c,e,z.sameBut B<|kG y c e]
  .let#[w',z]:=I.cell y c e;show#[w',z.sameBut B<|kG y c e]
  .let#[e,n,ne,nf,d]:=I.pin p hp;show#[(B.2 p.1 ne).trans e,n,ne,nf,d]
 .have R:X.fn x=Zj:=by
   rcases hf with z|z
   .show z
   .rw[z]at hk;cases hk
  let#[c,F]:=I.ok.has x<|.inl hk;let#[w',z]:=I.cell x c F;refine wpAny_storeName_cell I.ok.kind hk F z λS Y B=>?_
  let#[oc,hoc,W]:=id z;refine h {s with heap:=S} #[I.ok,I.os,I.bare,#[λb o e n Z G=>?_,λb o e n Z G=>?_,I.base.free,λb o e G=>?_,I.base.cI,I.base.bf,I.base.cU],#[m,hn.sameBut B<|bI<|kG x c F,λj y v' C J e3=>?_],λy c' e=>?_,I.free,I.bY,λp hp=>?_,D #[oc,hoc,I.bY x c F] B,by simpa using I.len] #[c,B,.inr F]
  .show(B.2 b<|Zv<|ZL (Z0 e)<|I.ok.pv x c R F).trans<|I.base.keep b o e n Z G
  .let#[sl,C]:=I.base.slot b o e n Z G;show#[sl,(B.2 b<|Zv<|ZL (Z0 e)<|I.ok.pv x c R F).trans C]
  .let#[o',C]:=I.base.there b o e G;show#[o',(B.2 b<|Zv<|ZL (Z0 e)<|I.ok.pv x c R F).trans C]
  .by_cases P:j=i
   .subst P;rw[hi]at C;cases C;rw[iV hiU]at J;cases J;show#[u,r,.inr #[.inl hk,c,F,Y]]
   .rw[hL<|bI P]at J;let#[u',r',q]:=hl j y v' C J e3;calc#[u',r',?_];rcases q with q|⟨k,c',e,z'⟩
    .show .inl q
    .calc .inr #[k,c',e,z'.sameBut B ?_];rintro rfl;show P<|zq hN C<|I.ok.inj _ _ _ e F▸hi
  .by_cases hcc:c'=c
   .subst hcc;show#[_,Y]
   .let#[w2,z2]:=I.cell y c' e;show#[w2,z2.sameBut B hcc]
  .let#[e,n,ne,nf,d]:=I.pin p hp;calc#[(B.2 p.1 ?_).trans e,n,ne,nf,d];intro q;rw[q,hoc]at e;have q':=hV e;show d w'<|by rw[<-q'];show W
theorem YK(I:Inv X O U H s)(m:X.N.Nodup)(hi:X.N[i]?=V x)(B:Loc X.env.scope x)(r:RelV v u) (h:∀s',Inv X O (U.set i<|V v) H s'->Q () s')(k:X.fn x=Zj\/X.env.scope.names.lookup x=V .local:=by assumption):Zz M A (storeName X.env x u) Q E s:=MP I m hi B r (λs' j _=>h s' j) k
def Inv.sG(I:Inv X O U H s)(ho:s'.os=s.os)(u:Un (dQ X.stack) ch H H' s.heap s'.heap)(az:cZ X.prog X.w H' s'.heap)(k:l5 s'.gens) (j:∀b∈ch,(b∈X.ex\/X.s₀.heap.objs.size<=b)/\b≠X.env.locals/\(∀x c,X.env.cells.lookup x=V c->c≠b)/\∀p∈X.pn++O,p.1≠b):Inv X O U H' s':=by let#[C,m,E,B,D]:=s';have e:=ho;subst e;show I.call u az k j
end
abbrev XK:=Zu->Tc->Hp->Prop
abbrev St:=Wc
abbrev VK:=bA->Hp->Prop
abbrev TE:=St->Hp->VK->Prop
structure Ends where
 nx:St->Hp->Prop
 rt:VK
 bk:St->Hp->Prop:=λ_ _=>False
 ct:St->Hp->Prop:=λ_ _=>False
abbrev TS:=Ends->St->Hp->Prop
def EP(X:Cx)(O:aZ)(U:St)(Q:VK)(u:Zu)(s':Z1):Prop:=∃v H',Inv X O U H' s'/\RelV v u/\Q v H'
def TP(X:Cx)(O:aZ)(U:St)(Q:Bool->Hp->Prop)(b:Bool)(s':Z1):Prop:=∃H',Inv X O U H' s'/\Q b H'
def SP(X:Cx)(O:aZ)(D:Ends)(f:Flow)(s':Z1):Prop:=match f with|.next=>∃U' H',Inv X O U' H' s'/\D.nx U' H'|.brk=>∃U' H',Inv X O U' H' s'/\D.bk U' H'|.cont=>∃U' H',Inv X O U' H' s'/\D.ct U' H'|.ret u=>∃v U' H',Inv X O U' H' s'/\RelV v u/\D.rt v H'
def PE(X:Cx)(e:Expr)(t:TE):Prop:=∀(O:aZ)(s:Z1)(U:St)(H:Hp)(Q:VK),Inv X O U H s->t U H Q->Zz (Z5 X.prog X.w) X.A (bp e X.env) (EP X O U Q) X.xe s
def MQ(X:Cx)(st:Tl)(t:TS):Prop:=∀(O:aZ)(s:Z1)(U:St)(H:Hp)(D:Ends),Inv X O U H s->t D U H->Zz (Z5 X.prog X.w) X.A (execs st X.env) (SP X O D) X.xe s
theorem qY(h:Zz M A t Q E s)(j:∀a s,Q a s->Q' a s):Zz M A t Q' E s:=dm h j λ_ _ x=>x
section
variable{X:Cx}
def zr(i:Nat):TE:=λU H Q=>∃v,U[i]?=V (V v)/\Q v H
def tC(v:bA):TE:=λ_ H Q=>Q v H
def MR(C:X.N[i]?=V x)(B:pq X.env.scope x)(hd:(x==("__debug__":Str))=Zn:=by decide)(k:(x==("__classdict__":Str))=Zn:=by decide):PE X (.Name x pos) (zr i):=by
 intro O s U H Q I h;let#[v,e,h]:=h;let#[m,hn,D]:=I.loc;let#[u,r,l]:=D i x v C e B;have fin:EP X O U Q u s:=#[v,H,I,r,h];rcases l with⟨j,hm⟩|⟨j,c,hc,hcell⟩
 .show wpAny_Name (wpAny_loadName_local I.ok.kind j hn hm fin) hd
 .rcases j with j|j
  .show wpAny_Name (wpAny_loadName_cell I.ok.kind j hc hcell fin) hd
  .show wpAny_Name (wpAny_loadName_free I.ok.kind j hc hcell fin k) hd
theorem MS{i j pos}:PE X (.Constant (.int i) j pos) (tC<|.int i):=λ_ _ _ H _ I h=>wpAny_Constant_int #[.int i,H,I.tok _,#[_,rfl],h]
theorem MT{b j pos}:PE X (.Constant (.bool b) j pos) (tC<|.bl b):=λ_ _ _ H _ I h=>Constant_bool #[.bl b,H,I,rfl,h]
theorem MU{j pos}:PE X (.Constant .none j pos) (tC .af):=λ_ _ _ H _ I h=>Constant_none #[.af,H,I,rfl,h]
theorem MV{x j pos}:PE X (.Constant (.str x) j pos) (tC<|.str x):=λ_ _ _ H _ I h=>Calls.Constant_str #[.str x,H,I.tok _,#[_,rfl],h]
def Gl(X:Cx)(x:Str):Prop:=X.env.kindOf x=V .globalImplicit
theorem V7(I:Inv X O U H s)(j:Gl X x)(hm:X.mg x=V u)(h:Q u s) (hd:(x==("__debug__":Str))=Zn:=by decide):Zz (Z5 X.prog X.w) X.A (bp (.Name x pos) X.env) Q E s:=EG I.ok.kind j (Calls.loadGlobal_global (by rw[I.ok.glob];show I.mod.glob.keeps I.bk) hm h) hd
def Q3(I:Inv X O U H s)(k:Gl X x)(hm:X.mg x=Zg)(j:kd x=V u)(h:Q u s) (hn:x≠"__name__":=by decide)(hd:(x==("__debug__":Str))=Zn:=by decide):Zz (Z5 X.prog X.w) X.A (bp (.Name x pos) X.env) Q E s:=by let#[mb,m,J]:=I.mod.blt;show EG I.ok.kind k (Calls.loadGlobal_builtin (by rw[I.ok.glob];show I.mod.glob.keeps I.bk) hm (by rw[I.ok.blt];show m.keeps I.bk) ((J x hn).trans j) h) hd
theorem MW(j:Gl X x)(hm:X.mg x=V u)(r:RelV v u)(hd:(x==("__debug__":Str))=Zn:=by decide):PE X (.Name x pos) (tC v):=λ_ _ _ H _ I h=>V7 I j hm #[v,H,I,r,h] hd
variable{a b:Expr}{ta tb:TE}{pos:Pos}
variable{tA tB':TT}{rest:Td}
end
def cf(K:W.Frag)(H:Hp)(a:Z8)(xs:Ua):Prop:=Rd H a (.lst xs) \/ ∃(o:Obj) (its:Th) (n:Nat),K.lookup a=V o/\o.cls=.type "list"/\o.dict=Zg/\o.data=.seq its n/\its.size<=sizeLine/\Vals xs its.toList
def eu(K:W.Frag)(H:Hp)(a:Z8)(xs:Ua):Prop:=Rd H a (.tup xs) \/ ∃(o:Obj) (its:Th) (n:Nat),K.lookup a=V o/\o.cls=.type "tuple"/\o.data=.seq its n/\its.size<=sizeLine/\Vals xs its.toList
noncomputable def zt:Zu->Ti|.none=>V .af|.bool b=>V<|.bl b|.int i _=>V<|.int i|.str x _=>V<|.str x|.bytes b _=>V<|.iO b|.float b _=>V<|.vo b|.ref a=>V<|.ref a|.type n=>V<|.ty n|_=>Zg
def RelV.abs(r:RelV x u):zt u=V x:=by cases x with|af=>cases r;rfl|bl _=>cases r;rfl|int _=>let#[t,rfl]:=r;rfl|str _=>let#[t,rfl]:=r;rfl|iO _=>let#[t,rfl]:=r;rfl|vo _=>let#[t,rfl]:=r;rfl|ref _=>cases r;rfl|ty _=>cases r;rfl
theorem RelV.inj(r:RelV x u)(q:RelV y u):x=y:=hV<|r.abs.symm.trans q.abs
theorem Vals.inj:∀{xs ys:Ua}{us:Tt},Vals xs us->Vals ys us->xs=ys|_,_,_,.nil,.nil=>rfl|_,_,_,.cons r t,.cons r' t'=>by rw[r.inj r',Vals.inj t t']
section
variable{X:Cx}{O:aZ}{U:St}{H:Hp}{s:Z1}{a:Z8}{xs ys:Ua}
theorem cf.of{K:W.Frag}(h:H a=V (.lst xs)):cf K H a xs:=.inl<|.inl h
theorem eu.of{K:W.Frag}(h:H a=V (.tup xs)):eu K H a xs:=.inl<|.inl h
def Inv.list(I:Inv X O U H s)(h:cf X.K H a xs):∃its:Tt,Vals xs its/\PlainL s.heap a its.toArray/\xs.length<=sizeLine:=by
 rcases h with h|⟨o,its,n,hk,hc,hd,hs,hz,r⟩
 .let#[z,its,n,r,e]:=h.ok I.az;show#[its,r,#[_,n,e,rfl,rfl,rfl],z]
 .calc#[its.toList,r,#[o,n,I.cN a o hk,hc,hd,by simpa using hs],?_];have e:=r.length;simp at e;show Zb (Zi e) hz
def Inv.tuple(I:Inv X O U H s)(h:eu X.K H a xs):∃its:Tt,Vals xs its/\IsTup s.heap a its.toArray/\xs.length<=sizeLine:=by
 rcases h with h|⟨o,its,n,hk,hc,hs,hz,r⟩
 .let#[z,its,r,p]:=h.ok I.az;show#[its,r,p,z]
 .calc#[its.toList,r,#[o,I.cN a o hk,hc,n,by simpa using hs],?_];have e:=r.length;simp at e;show Zb (Zi e) hz
def Inv.ia(I:Inv X O U H s)(h:cf X.K H a xs)(h':cf X.K H a ys):xs=ys:=by
 let#[k,r,#[o,n,e,_,_,d],_]:=I.list h;let#[j,B,#[C,D,m,_,_,u],_]:=I.list h';rw[e]at m;cases m;rw[d]at u;injection u with d1 _
 have:k=j:=by simpa using congrArg Array.toList d1
 subst this;show r.inj B
def Inv.fS(I:Inv X O U H s)(h:eu X.K H a xs)(h':eu X.K H a ys):xs=ys:=by
 let#[k,r,#[o,e,_,n,d],_]:=I.tuple h;let#[j,B,#[C,m,_,D,u],_]:=I.tuple h';rw[e]at m;cases m;rw[d]at u;injection u with d1 _
 have:k=j:=by simpa using congrArg Array.toList d1
 subst this;show r.inj B
end
noncomputable abbrev Cx.bq (X:Cx)(E:aQ):Cx:={X with xe:=E}
abbrev Cx.MX(X:Cx):Cx:=X.bq λ_ _=>False
theorem Cx.Ok.bq{X:Cx}(ok:X.Ok)(E):(X.bq E).Ok:=#[ok.mod,ok.kind,ok.glob,ok.blt,ok.above,ok.inj,ok.has,ok.pv,ok.hd,ok.frames,ok.qW,ok.qX,ok.bs,ok.kh,ok.jb,ok.h2,ok.dw,ok.l8]
theorem Cx.Ok.bx{X:Cx}(ok:(X.bq E).Ok):X.Ok:=#[ok.mod,ok.kind,ok.glob,ok.blt,ok.above,ok.inj,ok.has,ok.pv,ok.hd,ok.frames,ok.qW,ok.qX,ok.bs,ok.kh,ok.jb,ok.h2,ok.dw,ok.l8]
section
variable{X:Cx}{O:aZ}{U:St}{H:Hp}{s:Z1}{E:aQ}
theorem Inv.bq(I:Inv X O U H s)(E):Inv (X.bq E) O U H s:=#[I.ok.bq E,I.os,I.bare,I.base,I.loc,I.cell,I.free,I.bY,I.pin,I.az,I.len]
theorem Inv.bx(I:Inv (X.bq E) O U H s):Inv X O U H s:=#[I.ok.bx,I.os,I.bare,I.base,I.loc,I.cell,I.free,I.bY,I.pin,I.az,I.len]
end
section
variable{X:Cx}{st:eI}{rest:Tl}{t u:TS}{e:Expr}{te:TE}{pos:Pos}
def Inv.quiet(I:Inv X O U H s):interactive X.env=Zn:=by simp[interactive,I.ok.kind]
end
abbrev zw:=bA->bA->bA->Hp->(Hp->Prop)->Prop
def zx(X:Cx)(t:zw):Prop:=∀(O:aZ)(s:Z1)(U:St)(H:Hp)(o i v:bA)(ov iv u:Zu)(Q:Hp->Prop),Inv X O U H s->RelV o ov->RelV i iv->RelV v u->t o i v H Q ->Zz (Z5 X.prog X.w) X.A (setItem ov iv u) (λ_ s'=>∃H',Inv X O U H' s'/\Q H') X.xe s
structure It where
 go:Nat->Hp->Prop
 zy:Nat->Hp->bA->Hp->Prop
 stop:Nat->Hp->Prop
def aF(X:Cx)(O:aZ)(H:Hp)(b:Z8):Prop:=H b=Zg/\b≠X.env.locals/\b∉X.fs/\(b∈X.ex\/X.s₀.heap.objs.size<=b)/\(∀x c,X.env.cells.lookup x=V c->c≠b)/\∀p∈X.pn++O,p.1≠b
def Inv.c8(I:Inv X O U H s)(Z:s.heap.objs.size<=b)(hn:H' b=Zg):aF X O H' b:=by
 refine#[hn,dC<|ZL I.lt Z,I.zo Z,.inr<|Zb I.sz Z,λx c e z=>?_,λp j z=>?_]
 .let#[v,q]:=I.cell x c e;show absurd (ZL q.lt<|by rw[z];show Z)<|iU _
 .show absurd (ZL (Z0 (I.pin p j).1)<|by rw[z];show Z)<|iU _
structure Turn(P:cz)(w:bL)(K:W.Frag)(tg:Expr)(bB:It)(fp:Ts)(it:Z8)(tn:Nat->bc->Prop):Prop where
 mem:it∈fp
 obj:∀i h,tn i h->∀b∈fp,∃o,h.get? b=V o/\∀v,o.data≠.cell v
 keep:∀i h h',tn i h->(∀b∈fp,∀o,h.get? b=V o->h'.get? b=V o)->tn i h'
 item:∀(X:Cx),X.prog=P->X.w=w->X.K=K->X.calm=Zj->∀(i:Nat)(O:aZ)(s:Z1)(U:St)(H:Hp)(E:aQ),Inv X O U H s->(∀b∈fp,aF X O H b)->tn i s.heap->bB.go i H ->Zz (Z5 P w) X.A (fR<|.ref it) (λr s1=>∃u,r=V u /\ Zz (Z5 P w) X.A (uE tg (.ref it) u) (λ_ s2=>∃x H',Inv X O U H' s2/\RelV x u/\bB.zy i H x H'/\tn (i+1) s2.heap/\∀b∈fp,H' b=Zg) E s1) E s
 done:∀(X:Cx),X.prog=P->X.w=w->X.K=K->X.calm=Zj->∀(i:Nat)(O:aZ)(s:Z1)(U:St)(H:Hp)(E:aQ),Inv X O U H s->(∀b∈fp,aF X O H b)->tn i s.heap->bB.stop i H ->Zz (Z5 P w) X.A (fR<|.ref it) (λr s1=>r=Zg/\Inv X O U H s1) E s
 self:∀(A:cu)(i:Nat)(s:Z1)(Q:aQ)(E:aQ),tn i s.heap->Q (.ref it) s->Zz (Z5 P w) A (kz<|.ref it) Q E s
def MY(X:Cx)(O:aZ)(U:St)(tg:Expr)(R:It->Hp->Prop)(itv:Zu)(s2:Z1):Prop:=∃(it:Z8)(fp:Ts)(tn:Nat->bc->Prop)(bB:It)(H':Hp),itv=.ref it/\Inv X O U H' s2/\Turn X.prog X.w X.K tg bB fp it tn/\tn 0 s2.heap/\(∀b∈fp,aF X O H' b)/\R bB H'
def vr{M:Model}{A:cu}{E:aQ}{s:Z1}{tg:Expr}{it:Z8}{u:Zu}{o:Obj}{n:String}{vs:Th}{Q:Unit->Z1->Prop}(ho:s.heap.get? it=V o)(k:o.cls=.type n)(hd:o.data=.fields vs)
  (hn:["enumerate","zip","dict_itemiterator","dict_reverseitemiterator","odict_iterator","itertools.zip_longest","itertools.pairwise"].contains n=Zn)(j:Q () s):Zz M A (uE tg (.ref it) u) Q E s:=by
 cases tg<;>first
  |show Zp j
  | (cases u<;>first
    |show Zp j
    | (refine Ze (wpAny_load ho ?_)
       rw[k,hd];change Zz M A (if (["enumerate","zip","dict_itemiterator","dict_reverseitemiterator","odict_iterator","itertools.zip_longest","itertools.pairwise"].contains n&&vs[0]?==V (dU _))=Zj then _ else _) Q E s;rw[if_neg 05];show Zp j))
def sI(K:W.Frag)(a:Z8):It:=#[λi H=>∃xs x,cf K H a xs/\xs[i]?=V x,λi H x H'=>H'=H/\∀xs,cf K H a xs->xs[i]?=V x,λi H=>∃xs,cf K H a xs/\xs.length<=i]
def zz(K:W.Frag)(a:Z8):It:=#[λi H=>∃xs x,eu K H a xs/\xs[i]?=V x,λi H x H'=>H'=H/\∀xs,eu K H a xs->xs[i]?=V x,λi H=>∃xs,eu K H a xs/\xs.length<=i]
def vt(lo:Int)(n:Nat):It:=#[λi _=>i<n,λi H x H'=>H'=H/\x=.int (lo+i),λi _=>n<=i]
theorem ER{P:cz}{w:bL}{K:W.Frag}{tg:Expr}(a it:Z8):Turn P w K tg (sI K a) [it] it (λi h=>h.IsListIter it a i) where
 mem:=03
 obj:=λi h st b Z=>by
  have e:b=it:=by simpa using Z
  subst e;let#[o,e,c,d]:=st;show#[o,e,λv z=>by rw[d]at z;cases z]
 keep:=λi h m st k=>st.at λo e=>k it 03 o e
 item:=by
  intro X Y F J hc i O s U H E I D st Q;subst Y F J;let#[xs,x,B,C]:=Q;let#[M,R,p,hz]:=I.list B;let#[u,hu,ru]:=R.get C;let#[f0,f1,f2,S,G,L]:=D it 03;refine yE st p.isList (x:=u) (by simpa using hu) λm j sb=>?_
  have I1:Inv X O U H {s with heap:=m}:=I.turned (t':=s.toks) (λb o Z e=>(sb.2 b Z).trans e) f0 f1 S G L;let#[o,e,c,d]:=id j;show#[u,rfl,vr (s:={s with heap:=m}) e c d 01 #[x,H,I1,ru,#[rfl,λys hy=>by rw[I.ia hy B];show C],j,λb Z=>(D b Z).1]]
 done:=by intro X Y F J hc i O s U H E I D st Q;subst Y F J;let#[xs,B,C]:=Q;let#[M,R,p,hz]:=I.list B;let#[f0,f1,f2,S,G,L]:=D it 03;have hl:=R.length;show zi (I.cw hc) st p.isList (by simp;show Zb (Zi hl.symm) C) λm eb=>#[rfl,I.turned (t':=s.toks) (λb o Z e=>eb b o Z e) f0 f1 S G L]
 self:=λ_ _ _ _ _ st h=>En st h
theorem MZ{P:cz}{w:bL}{K:W.Frag}{tg:Expr}(a it:Z8):Turn P w K tg (zz K a) [it] it (λi h=>h.IsTupleIter it a i) where
 mem:=03
 obj:=λi h st b Z=>by
  have e:b=it:=by simpa using Z
  subst e;let#[o,e,c,d]:=st;show#[o,e,λv z=>by rw[d]at z;cases z]
 keep:=λi h B st k=>st.at λo e=>k it 03 o e
 item:=by
  intro X Y G L hc i O s U H E I F st Q;subst Y G L;let#[xs,x,C,D]:=Q;let#[j,R,p,hz]:=I.tuple C;let#[u,hu,ru]:=R.get D;let#[f0,f1,f2,S,J,M]:=F it 03;refine Ek st (show s.heap.IsTuple a j.toArray from p) (x:=u) (by simpa using hu) λB m sb=>?_
  have I1:Inv X O U H {s with heap:=B}:=I.turned (t':=s.toks) (λb o Z e=>(sb.2 b Z).trans e) f0 f1 S J M;let#[o,e,c,d]:=id m;show#[u,rfl,vr (s:={s with heap:=B}) e c d 01 #[x,H,I1,ru,#[rfl,λys hy=>by rw[I.fS hy C];show D],m,λb Z=>(F b Z).1]]
 done:=by intro X Y G L hc i O s U H E I F st Q;subst Y G L;let#[xs,C,D]:=Q;let#[j,R,p,hz]:=I.tuple C;let#[f0,f1,f2,S,J,M]:=F it 03;have hl:=R.length;show zj (I.cw hc) st (show s.heap.IsTuple a j.toArray from p) (by simp;show Zb (Zi hl.symm) D) λB eb=>#[rfl,I.turned (t':=s.toks) (λb o Z e=>eb b o Z e) f0 f1 S J M]
 self:=λ_ _ _ _ _ st h=>El st h
theorem M0{P:cz}{w:bL}{K:W.Frag}{tg:Expr}(it:Z8)(lo:Int)(n:Nat):Turn P w K tg (vt lo n) [it] it (λi h=>IsRangeIter h it (lo+(i:Nat)*1) ((n:Int)-(i:Nat)) 1) where
 mem:=03
 obj:=λi h st b Z=>by
  have e:b=it:=by simpa using Z
  subst e;show#[_,st,λv z=>by have z':Data.fields _=sC v:=z;cases z']
 keep:=λi h m st k=>k it 03 _ st
 item:=by
  intro X M B F D i O s U H E I u st J;subst M B F;let#[R,Q,Y,L,C,G]:=u it 03;have W:=Mw (prog:=X.prog) (w:=X.w) (A:=X.A) it lo 1 n;refine W.item i s _ _ J #[st,I.cw D] λv m S hv ⟨j,_⟩ kk=>?_
  let#[t,rfl]:=hv;have I1:Inv X O U H {s with heap:=m,toks:=S}:=I.turned (λb o Z e=>kk b o (by simpa using Z) e) R Q L C G;calc#[_,rfl,vr (s:={s with heap:=m,toks:=S}) (n:="range_iterator") j rfl rfl 01 #[.int<|lo+i,H,I1,#[t,?_],#[rfl,rfl],j,λb Z=>(u b Z).1]];rw[Int.mul_one]
 done:=by intro X M B F D i O s U H E I u st J;subst M B F;let#[R,Q,Y,L,C,G]:=u it 03;show EL (I.cw D) st (by have:n<=i:=J;lia) λm eb=>#[rfl,I.turned (t':=s.toks) (λb o Z e=>eb b o Z e) R Q L C G]
 self:=λ_ _ _ _ _ st h=>Em st h
section
variable{X:Cx}{tg:Expr}
def M3{lo hi:Int}(I:Inv X O U H s)(h1: -(2^62)<=lo)(J:lo<2^62)(h3: -(2^62)<=hi)(j:hi<2^62)
  (q:R (vt lo (hi-lo).toNat) H):Zz (Z5 X.prog X.w) X.A (kz<|.ref s.heap.objs.size) (MY X O U tg R) E {s with heap:=s.heap.push {cls:=.type "range",data:=.fields (bS [.int lo t,.int hi u,.int 1 v])},toks:=tk}:=by
 calc wpAny_pyIter_range (IsRange.new ..) (small_one h1 J h3 j) ?_;have I1:Inv X O U H {s with heap:=s.heap.push {cls:=.type "range",data:=.fields (bS [.int lo t,.int hi u,.int 1 v])},toks:=tk}:=I.kept λb o e=>Zh _ e
 refine#[(s.heap.push {cls:=.type "range",data:=.fields (bS [.int lo t,.int hi u,.int 1 v])}).objs.size,[(s.heap.push {cls:=.type "range",data:=.fields (bS [.int lo t,.int hi u,.int 1 v])}).objs.size],_,_,H,rfl,
  I1.kept (t':=tk) λb o e=>Zh _ e,M0 _ lo (hi-lo).toNat,?_,λb Z=>?_,q]
 .have m:lo+((0:Nat):Int)*1=lo:=03;have k:(((hi-lo).toNat:Nat):Int)-((0:Nat):Int)=EI lo hi 1:=by rw[rangeSize_one];split<;>lia
  rw[m,k];show Zw _ rfl
 .have e:b=(s.heap.push {cls:=.type "range",data:=.fields (bS [.int lo t,.int hi u,.int 1 v])}).objs.size:=by simpa using Z
  subst e;show I1.c8 (Zl _)<|I1.az.fresh<|Zl _
def QV(fp:Ts)(h:bc):aZ:=fp.filterMap λb=>(h.get? b).map λo=>(b,o)
theorem Y7(Z:b∈fp)(e:h.get? b=V o):(b,o)∈QV fp h:=List.mem_filterMap.mpr #[b,Z,by rw[e];rfl]
def M4(hp:p∈QV fp h):p.1∈fp/\h.get? p.1=V p.2:=by let#[b,Z,e]:=List.mem_filterMap.mp hp;cases q:h.get? b with|none=>rw[q]at e;cases e|some o=>rw[q]at e;have j:=hV e;subst j;show#[Z,q]
theorem Inv.pinned(I:Inv X O U H s)(k:∀b∈fp,aF X O H b)(ho:∀b∈fp,∃o,s.heap.get? b=V o/\∀v,o.data≠.cell v):Inv X (O++QV fp s.heap) U H s:=I.jB λp u=>(ZY.mp u).elim (λz=>I.pin p<|Zo _ z) λz=>by let#[Z,e]:=M4 z;let#[B,m,C,_]:=k p.1 Z;let#[o,j,d]:=ho p.1 Z;rw[e]at j;cases j;show#[e,B,m,C,d]
theorem Inv.ib(I:Inv X (O++pl) U H s):Inv X O U H s:=I.jB λp j=>I.pin p<|Zo _<|iJ _ j
end
abbrev R2:=bA->bA->Hp->VK->Prop
def fm(X:Cx)(f:Zu->Zu->Sem Zu)(r:R2):Prop:=∀(O:aZ)(s:Z1)(U:St)(H:Hp)(x y:bA)(v u:Zu)(Q:VK),Inv X O U H s->RelV x v->RelV y u->r x y H Q ->Zz (Z5 X.prog X.w) X.A (f v u) (EP X O U Q) X.xe s
def zA(X:Cx)(f:Zu->Sem Zu)(r:bA->Hp->VK->Prop):Prop:=∀(O:aZ)(s:Z1)(U:St)(H:Hp)(x:bA)(v:Zu)(Q:VK),Inv X O U H s->RelV x v->r x H Q ->Zz (Z5 X.prog X.w) X.A (f v) (EP X O U Q) X.xe s
def VF(X:Cx)(f:Zu)(r:Ua->Hp->VK->Prop):Prop:=∀(O:aZ)(s:Z1)(U:St)(H:Hp)(xs:Ua)(us:Tt)(Q:VK),Inv X O U H s->Vals xs us->r xs H Q ->Zz (Z5 X.prog X.w) X.A (call f us) (EP X O U Q) X.xe s
def sJ(X:Cx)(r:bA->Hp->(Bool->Hp->Prop)->Prop):Prop:=∀(O:aZ)(s:Z1)(U:St)(H:Hp)(x:bA)(v:Zu)(Q:Bool->Hp->Prop),Inv X O U H s->RelV x v->r x H Q ->Zz (Z5 X.prog X.w) X.A (truthy v) (TP X O U Q) X.xe s
def rI(C:Int->Int->Prop)(g:Int->Int->bA):R2:=λx y H Q=>∃i j,x=.int i/\y=.int j/\C i j/\Q (g i j) H
def oq(g:Int->Int->bA):R2:=λx y H Q=>∃i j,x=.int i/\y=.int j/\Q (g i j) H
def rU(g:Int->bA):bA->Hp->VK->Prop:=λx H Q=>∃i,x=.int i/\Q (g i) H
section
variable{X:Cx}{a b c:Expr}{ta tb tc:TE}{pos:Pos}
def vv{g:Int->Int->Int} (k:∀(i j:Int)(t u:Tok)(s:Z1)(Q E:aQ),C i j->Q (.int (g i j) s.toks) {s with toks:=s.toks+1}->Zz (Z5 X.prog X.w) X.A (f (.int i t)<|.int j u) Q E s):fm X f (rI C λi j=>.int<|g i j):=by intro O s U H x y v u Q I F D h;let#[i,j,rfl,rfl,B,q]:=h;let#[t,rfl]:=F;let#[m,rfl]:=D;show k i j t m s _ _ B #[.int<|g i j,H,I.tok _,#[_,rfl],q]
def sL{g:Int->Int->Int} (k:∀(i j:Int)(t u:Tok)(s:Z1)(Q E:aQ),Q (.int (g i j) s.toks) {s with toks:=s.toks+1}->Zz (Z5 X.prog X.w) X.A (f (.int i t)<|.int j u) Q E s):fm X f (oq λi j=>.int<|g i j):=by intro O s U H x y v u Q I C B h;let#[i,j,rfl,rfl,q]:=h;let#[t,rfl]:=C;let#[m,rfl]:=B;show k i j t m s _ _ #[.int<|g i j,H,I.tok _,#[_,rfl],q]
def mR{g:Int->Int->Bool} (k:∀(i j:Int)(t u:Tok)(s:Z1)(Q E:aQ),Q (.bool<|g i j) s->Zz (Z5 X.prog X.w) X.A (f (.int i t)<|.int j u) Q E s):fm X f (oq λi j=>.bl<|g i j):=by intro O s U H x y v u Q I C B h;let#[i,j,rfl,rfl,q]:=h;let#[t,rfl]:=C;let#[m,rfl]:=B;show k i j t m s _ _ #[.bl<|g i j,H,I,rfl,q]
def zB(i j:Int):Prop:=0<=j/\j<=1000000/\i.natAbs<2^64
theorem M5:fm X (fy .Add) (oq λi j=>.int<|i+j):=sL λ_ _ _ _ _ _ _ q=>add_int q
theorem M7:fm X (fy .Sub) (oq λi j=>.int<|i-j):=sL λ_ _ _ _ _ _ _ q=>sub_int q
theorem M8:fm X (fy .Mod) (rI (λ_ j=>0<j) λi j=>.int<|i%j):=vv λi j _ _ _ _ _ m q=>by have k:=m;show mod_int' (gQ k)<|by rw[Int.fmod_eq_emod_of_nonneg i<|ZG k];show q
theorem M9:fm X (fy .Pow) (rI zB λi j=>.int<|i^j.toNat):=vv λ_ _ _ _ _ _ _ k q=>pow_int_small k.1 k.2.1 k.2.2 q
def vw{g:Int->Int} (j:∀(i:Int)(t:Tok)(s:Z1)(Q E:aQ),Q (.int (g i) s.toks) {s with toks:=s.toks+1}->Zz (Z5 X.prog X.w) X.A (f<|.int i t) Q E s):zA X f (rU λi=>.int<|g i):=by intro O s U H x v Q I k h;let#[i,rfl,q]:=h;let#[t,rfl]:=k;show j i t s _ _ #[.int<|g i,H,I.tok _,#[_,rfl],q]
theorem Nb:zA X (unaryOp .USub) (rU λi=>.int (-i)):=vw λ_ _ _ _ _ q=>neg_int q
end
noncomputable def pw:bA->bA->Bool|.af,.af=>Zj|.af,.int _=>Zj|.int _,.af=>Zj|.af,.bl _=>Zj|.bl _,.af=>Zj|.af,.str _=>Zj|.str _,.af=>Zj|.int _,.int _=>Zj|.bl _,.bl _=>Zj|.str _,.str _=>Zj|.iO _,.iO _=>Zj|.int _,.str _=>Zj|.str _,.int _=>Zj|.bl _,.str _=>Zj|.str _,.bl _=>Zj|_,_=>Zn
def Nc:R2:=λx y H Q=>pw x y=Zj/\Q (.bl<|decide (x=y)) H
def Nd:R2:=λx y H Q=>pw x y=Zj/\Q (.bl (!decide (x=y))) H
def ES:decide (bA.int i=bA.int j)=(i==j):=by rw[se];simp
def ET:decide (bA.bl i=bA.bl j)=(i==j):=by rw[se];simp
def EU:decide (bA.str i=bA.str j)=(i==j):=by rw[se];simp
def EV:decide (bA.iO i=bA.iO j)=(i.toList==j.toList):=by rw[se];cases i;cases j;simp
section
variable{X:Cx}{a b c:Expr}{ta tb tc:TE}{pos:Pos}
def JG(I:Inv X O U H s)(q:Q (.bl k) H)(e:k=k'):EP X O U Q (.bool k') s:=by subst e;show#[.bl k,H,I,rfl,q]
def Nf:fm X (d6 .Eq) Nc:=by
 intro O s U H x y v u Q I C k h;let#[B,q]:=h;cases x with
 |af=>cases C;cases y with|af=>cases k;show PySem.EqNone.eq_none_none<|JG I q 03|bl j=>cases k;show PySem.EqNone.eq_none_bool<|JG I q 03|int j=>let#[m,rfl]:=k;show PySem.EqNone.eq_none_int<|JG I q 03|str j=>let#[m,rfl]:=k;show PySem.EqNone.eq_none_str<|JG I q 03|_=>show absurd (show Zn=Zj from B) Zx
 |bl i=>cases C;cases y with|af=>cases k;show PySem.EqNone.eq_bool_none<|JG I q 03|bl j=>cases k;show eq_bool<|JG I q ET|str j=>let#[m,rfl]:=k;show PySem.EqMixed.eq_bool_str<|JG I q 03|_=>show absurd (show Zn=Zj from B) Zx
 |int i=>let#[t,rfl]:=C;cases y with|af=>cases k;show PySem.EqNone.eq_int_none<|JG I q 03|int j=>let#[m,rfl]:=k;show eq_int<|JG I q ES|str j=>let#[m,rfl]:=k;show PySem.EqMixed.eq_int_str<|JG I q 03|_=>show absurd (show Zn=Zj from B) Zx
 |str i=>let#[t,rfl]:=C;cases y with|af=>cases k;show PySem.EqNone.eq_str_none<|JG I q 03|bl j=>cases k;show PySem.EqMixed.eq_str_bool<|JG I q 03|int j=>let#[m,rfl]:=k;show PySem.EqMixed.eq_str_int<|JG I q 03|str j=>let#[m,rfl]:=k;show eq_str<|JG I q EU|_=>show absurd (show Zn=Zj from B) Zx
 |iO i=>let#[t,rfl]:=C;cases y with|iO j=>let#[m,rfl]:=k;show W.eq_bytes<|JG I q EV|_=>show absurd (show Zn=Zj from B) Zx
 |_=>cases y<;>show absurd (show Zn=Zj from B) Zx
def Ng:fm X (d6 .NotEq) Nd:=by
 intro O s U H x y v u Q I C k h;let#[B,q]:=h;cases x with
 |af=>cases C;cases y with|af=>cases k;show PySem.EqNone.ne_none_none<|JG I q 03|bl j=>cases k;show PySem.EqNone.ne_none_bool<|JG I q 03|int j=>let#[m,rfl]:=k;show PySem.EqNone.ne_none_int<|JG I q 03|str j=>let#[m,rfl]:=k;show PySem.EqNone.ne_none_str<|JG I q 03|_=>show absurd (show Zn=Zj from B) Zx
 |bl i=>cases C;cases y with|af=>cases k;show PySem.EqNone.ne_bool_none<|JG I q 03|bl j=>cases k;show ne_bool<|JG I q<|congrArg not ET|str j=>let#[m,rfl]:=k;show PySem.EqMixed.ne_bool_str<|JG I q 03|_=>show absurd (show Zn=Zj from B) Zx
 |int i=>let#[t,rfl]:=C;cases y with|af=>cases k;show PySem.EqNone.ne_int_none<|JG I q 03|int j=>let#[m,rfl]:=k;show ne_int<|JG I q<|congrArg not ES|str j=>let#[m,rfl]:=k;show PySem.EqMixed.ne_int_str<|JG I q 03|_=>show absurd (show Zn=Zj from B) Zx
 |str i=>let#[t,rfl]:=C;cases y with|af=>cases k;show PySem.EqNone.ne_str_none<|JG I q 03|bl j=>cases k;show PySem.EqMixed.ne_str_bool<|JG I q 03|int j=>let#[m,rfl]:=k;show PySem.EqMixed.ne_str_int<|JG I q 03|str j=>let#[m,rfl]:=k;show ne_str<|JG I q<|congrArg not EU|_=>show absurd (show Zn=Zj from B) Zx
 |iO i=>let#[t,rfl]:=C;cases y with|iO j=>let#[m,rfl]:=k;show W.ne_bytes<|JG I q<|congrArg not EV|_=>show absurd (show Zn=Zj from B) Zx
 |_=>cases y<;>show absurd (show Zn=Zj from B) Zx
theorem Nh:fm X (d6 .Lt) (oq λi j=>.bl<|decide (i<j)):=mR λ_ _ _ _ _ _ _ q=>lt_int q
theorem Ni:fm X (d6 .LtE) (oq λi j=>.bl<|decide (i<=j)):=mR λ_ _ _ _ _ _ _ q=>le_int q
theorem Nj:fm X (d6 .Gt) (oq λi j=>.bl<|decide (j<i)):=mR λ_ _ _ _ _ _ _ q=>gt_int q
theorem Nk:fm X (d6 .GtE) (oq λi j=>.bl<|decide (j<=i)):=mR λ_ _ _ _ _ _ _ q=>ge_int q
def Nl:fm X (d6 .Lt) (λx y H Q=>∃i j,x=.str i/\y=.str j/\Q (.bl<|decide (i.cps.toList<j.cps.toList)) H):=by intro O s U H x y v u Q I m k h;let#[i,j,rfl,rfl,q]:=h;let#[t,rfl]:=m;let#[B,rfl]:=k;show lt_str<|JG I q rfl
def zC(K:W.Frag)(x:bA)(H:Hp)(k:Bool):Prop:=match x with|.af=>k=Zn|.bl b=>k=b|.int i=>k=(i != 0)|.str y=>y.length<=sizeLine/\k=((y.length:Int) != 0)|.iO y=>y.size<=sizeLine/\k=((y.size:Int) != 0)|.ref p=>(∃xs,cf K H p xs/\k=!xs.isEmpty)\/(∃xs,eu K H p xs/\k=!xs.isEmpty)\/∃kvs,H p=V (.dK kvs)/\k=!kvs.isEmpty|_=>False
def Nm(r:KV kvs vs):(!vs.isEmpty)=!kvs.isEmpty:=by cases r<;>rfl
def EW(r:Vals xs its):(!its.toArray.isEmpty)=!xs.isEmpty:=by cases r<;>simp
def Xl:(sizeLine:Nat)<2^63:=by rw[jN];decide
def VV:sJ X (λx H Q=>∃k,zC X.K x H k/\Q k H):=by
 intro O s U H x v Q I B h;let#[k,e,q]:=h;have L:=Xl;have M:=jN;cases x with
 |af=>cases B;have j:k=Zn:=e;subst j;show truthy_none #[H,I,q]
 |bl b=>cases B;have j:k=b:=e;subst j;show oS #[H,I,q]
 |int i=>let#[t,rfl]:=B;have j:k=(i != 0):=e;subst j;show PySem.P.truthy_int #[H,I,q]
 |str y=>let#[t,rfl]:=B;obtain⟨J,j⟩:y.length<=sizeLine/\k=((y.length:Int) != 0):=e;subst j;show PySem.P.truthy_str 05 #[H,I.tok _,q]
 |iO y=>let#[t,rfl]:=B;obtain⟨J,j⟩:y.size<=sizeLine/\k=((y.size:Int) != 0):=e;subst j;show W.truthy_bytes (mB 06) #[H,I.tok _,q]
 |ref p=>
  cases B;have j:=e;rcases j with⟨xs,C,j⟩|⟨xs,C,j⟩|⟨kvs,C,j⟩
  .subst j;let#[D,r,pl,F]:=I.list C;have u:=r.length;show wpAny_truthy_list pl.isList (by simp![ZT];lia) #[H,I.tok _,by rw[EW r];show q]
  .subst j;let#[D,r,pl,F]:=I.tuple C;have u:=r.length;show truthy_tuple pl (by simp![ZT];lia) #[H,I.tok _,by rw[EW r];show q]
  .subst j;obtain⟨F,G,E,r,m⟩:kvs.length<=sizeLine/\(p==nQ)=Zn/\∃E,KV kvs E/\s.heap.DictOf (Vw X.prog X.w) p E:=I.az p _ C;have u:=zg r;show wpAny_truthy_dict G m 05 #[H,I.tok _,by rw[Nm r];show q]
 |_=>show Zf e
def Nn:fm X (fy .Add) (λx y H Q=>∃i j,x=.str i/\y=.str j/\i.length+j.length<=sizeLine/\Q (.str<|i++j) H):=by intro O s U H x y v u Q I C B h;let#[i,j,rfl,rfl,m,q]:=h;let#[t,rfl]:=C;let#[k,rfl]:=B;show add_str (λk D=>#[.str<|i++j,H,I.tok _,#[_,rfl],q]) m
def Qr(r:Vals [x] us):∃u,us=[u]/\RelV x u:=by cases r with|cons j k=>cases k;show#[_,rfl,j]
def EX(r:Vals [x,y] us):∃u j,us=[u,j]/\RelV x u/\RelV y j:=by
 cases r with|cons C k=>cases k with|cons m B=>cases B;show#[_,_,rfl,C,m]
def Np(B:X.calm=Zj):VF X (.builtin "max") (λxs H Q=>∃i j,xs=[.int i,.int j]/\Q (.int (if j>i then j else i)) H):=by
 intro O s U H xs C Q I r h;let#[i,j,rfl,q]:=h;let#[u,F,rfl,#[t,rfl],#[D,rfl]]:=EX r;refine Mz (I.cw B) λE G k=>#[_,H,I.kept k,?_,q]
 by_cases m:j>i
 .rw[if_pos m,if_pos m];show#[_,rfl]
 .rw[if_neg m,if_neg m];show#[_,rfl]
def Nq(B:X.calm=Zj):VF X (.builtin "min") (λxs H Q=>∃i j,xs=[.int i,.int j]/\Q (.int (if j<i then j else i)) H):=by
 intro O s U H xs C Q I r h;let#[i,j,rfl,q]:=h;let#[u,F,rfl,#[t,rfl],#[D,rfl]]:=EX r;refine MA (I.cw B) λE G k=>#[_,H,I.kept k,?_,q]
 by_cases m:j<i
 .rw[if_pos m,if_pos m];show#[_,rfl]
 .rw[if_neg m,if_neg m];show#[_,rfl]
def EY:VF X (.type "int") (λxs H Q=>(∃i,xs=[.int i]/\Q (.int i) H)\/∃k,xs=[.bl k]/\Q (.int (if k then 1 else 0)) H):=by
 intro O s U H xs m Q I r h;rcases h with⟨i,rfl,q⟩|⟨k,rfl,q⟩
 .let#[u,rfl,t,rfl]:=Qr r;show call_int_int #[.int i,H,I,#[_,rfl],q]
 .let#[u,rfl,j]:=Qr r;cases j;show call_int_bool #[.int (if k then 1 else 0),H,I.tok _,#[_,rfl],q]
def Nr:VF X (.type "str") (λxs H Q=>∃i,xs=[.int i]/\i.natAbs.log2<1920/\Q (.str<|toString i) H):=by intro O s U H xs k Q I r h;let#[i,rfl,j,q]:=h;let#[u,rfl,t,rfl]:=Qr r;show PySem.P.str_of_int j #[.str _,H,I.tok _,#[_,rfl],q]
def zD(K:W.Frag)(x:bA)(H:Hp)(n:Nat):Prop:=match x with|.str y=>y.length<=sizeLine/\n=y.length|.iO y=>y.size<=sizeLine/\n=y.size|.ref p=>(∃xs,cf K H p xs/\n=xs.length)\/∃xs,eu K H p xs/\n=xs.length|_=>False
def vy:VF X (.builtin "len") (λxs H Q=>∃x n,xs=[x]/\zD X.K x H n/\Q (.int n) H):=by
 intro O s U H xs G Q I r h;let#[x,n,rfl,e,q]:=h;let#[u,rfl,C]:=Qr r;have J:=Xl;have L:=jN;cases x with
 |str y=>let#[t,rfl]:=C;obtain⟨F,k⟩:y.length<=sizeLine/\n=y.length:=e;subst k;show len_str 05 #[.int _,H,I.tok _,#[_,rfl],q]
 |iO y=>let#[t,rfl]:=C;obtain⟨F,k⟩:y.size<=sizeLine/\n=y.size:=e;subst k;show W.len_bytes (mB 06) #[.int _,H,I.tok _,#[_,rfl],q]
 |ref p=>
  cases C;have k:=e;rcases k with⟨xs,B,k⟩|⟨xs,B,k⟩
  .subst k;let#[D,m,pl,E]:=I.list B;have j:=m.length;show Calls.call_len_list pl.isList (by simp;lia) #[.int xs.length,H,I.tok _,#[_,by simp![ZT];rw[j]],q]
  .subst k;let#[D,m,pl,E]:=I.tuple B;have j:=m.length;show len_tuple pl (by simp;lia) #[.int xs.length,H,I.tok _,#[_,by simp![ZT];rw[j]],q]
 |_=>show Zf e
end
structure jd(h:bc)(x dx C:Z8)(mA:Str->Tb):Prop where
 obj:h.get? x=V (W.instObj C dx)
 ns:h.Ns1 dx mA
 ne:dx≠x
def Nt{h:bc}(n:h.Ns1 dx mA):∃od,h.get? dx=V od/\∀name,W.lookIn name od=V (mA name):=by
 let#[o,k,C,ho,hd,u,_,hm]:=n;calc#[o,ho,λname=>?_];have e:=hm name;unfold nsFind findBy at e;rw[<-yW]at e;unfold W.lookIn;rw[hd];dsimp only;split
 .simp_all
 .rename_i q;rw[q]at e;have a:k.toList.any (·.refKey)=Zn:=by rw[yy];intro y B;let#[z,t,j]:=u y<|Array.mem_toList_iff.mp B;simp[DictEntry.refKey,j]
  have m:¬k.toList.any (·.refKey)=Zj:=by rw[a];show Zx
  rw[if_neg m];show congrArg V e
theorem jd.look(I:jd h x dx C mA):∃od,W.InstAt h x (W.instObj C dx) C (V od)/\∀name,W.lookIn name od=V (mA name):=
 let ⟨od,ho,j⟩:=Nt I.ns
 #[od,#[I.obj,rfl,rfl,ho],j]
section
variable{prog:cz}{w:bL}{A:cu}{E:aQ}{s:Z1}{K:W.Frag}{x dx C f:Z8}{mA:Str->Tb}{name:Str}{v:Zu}
def Nu(X:K.In s.heap)(I:jd s.heap x dx C mA)(B:W.plainGet K C name=Zj)(m:W.hasDictIn K C=Zj) (ha:W.findIn K (.ref C) name=V Zg)(k:mA name=V v)(j:W.handedIn v=Zj)(h:Q v {s with toks:=s.toks+1}):Zz (Z5 prog w) A (getAttr (.ref x) name expr) Q E s:=by let#[F,u,D]:=I.look;show W.get_value X u (W.plainGet_of B).1 (W.findObj_own m ha rfl (by rw[D,k])) j h
def Nv(X:K.In s.heap)(I:jd s.heap x dx C mA)(j:W.plainGet K C name=Zj) (B:W.findIn K (.ref C) name=V (V<|.ref f))(m:W.isFn K (.ref f)=Zj)(k:mA name=Zg)(h:Q (.ref f,[.ref x]) s):Zz (Z5 prog w) A (oZ (.ref x) name pl) Q E s:=by let#[F,D,u]:=I.look;show W.method_fn X D (W.plainGet_of j).1 (W.plainGet_of j).2 B (beq_iff_eq.mp m) (by change(W.lookIn name F).map (·.isSome)=V Zn;rw[u,k];rfl) h
def Nw(X:K.In s.heap)(I:jd s.heap x dx C mA) (hs:W.findIn K (.ref C) "__setattr__"=V (V<|.builtin "object.__setattr__"))(hp:W.plainOver K C=Zj)(L:W.takerIn K C name=V Zg)(G:W.hasDictIn K C=Zj) (H:yK mA ns)(hsz:ns.length<=sizeLine) (h:∀h',jd h' x dx C (λy=>if y=name then V v else mA y)->mJ dx s.heap h'->Q () {s with heap:=h',toks:=s.toks+2}):Zz (Z5 prog w) A (setAttr (.ref x) name v) Q E s:=by
 let#[S,F,R]:=I.look;refine W.set_plain X F hs<|W.osa_open (r:=Zg) X F hp L λb=>?_
 let#[cd,O,u]:=W.any_some G;have P:=I.obj;calc Ze<|Zp<|Ze<|Ze<|yI P<|Ze<|W.Looks.here (W.looks_clsIn X O) ?_;rw[u];calc Zp (a:=V dx)<|Ze<|Zp<|Ze ?_;refine wpAny_nsSet1 I.ns λh' k j=>?_
 let#[U,M,J,B,D,m]:=k.count<|PySem.Within.cons name v H;calc Ze (wpAny_lookBehind B (by rw[D];show pastItsLine_dict<|Zb m<|by rw[jJ];show lG 06) ?_);show Zp<|h _ #[(j.2 _<|bI I.ne).trans I.obj,k,I.ne] j
def Nx(X:K.In s.heap)(hm:W.makesIn K C=Zj) (hi:W.findIn K (.ref C) "__init__"=V (V<|.ref f))(j:W.typeIn K (.ref f)=V (.type "function")) (h:iK (Z5 prog w) (A.under<|.builtin "type.__call__" #[.ref C::vs,kw]) (.call (.ref f) #[.ref (s.heap.objs.size+1)::vs,kw]) (W.InitBack (s.heap.objs.size+1) R) {s with heap:=(s.heap.push W.emptyDict).push (W.instObj C s.heap.objs.size)}):iK (Z5 prog w) A (.call (.ref C) #[vs,kw]) R s:=by let#[k,g,d,t,os]:=s;show W.make_core (W.makes_of X hm) (W.looks_findIn X hi) (λself=>W.bind_fn X self j) (.inl rfl) h
end
noncomputable def cQ (f:Str)(v:bA):Wu->Wu|[]=>[(f,v)]|(g,x)::r=>if g=f then(g,v)::r else(g,x)::cQ f v r
theorem EZ(f g)(v):∀fs:Wu,(cQ f v fs).lookup g=if g=f then V v else fs.lookup g
 |[]=>by
  change qt g [(f,v)]=_;by_cases h:g=f
  .simp_all
  .simp_all
 |(k,x)::r=>by
  have m:=EZ f g v r;rw[show cQ f v ((k,x)::r)=(if k=f then(k,v)::r else(k,x)::cQ f v r)from rfl];by_cases j:k=f
  .rw[if_pos j];by_cases h:g=k
   .simp_all
   .have Z:(g==k)=Zn:=beq_eq_false_iff_ne.mpr h;simp![qt,Z,if_neg λe:g=f=>h<|e.trans j.symm]
  .rw[if_neg j];by_cases h:g=k
   .simp_all
   .have Z:(g==k)=Zn:=beq_eq_false_iff_ne.mpr h;simp![qt,Z];show m
theorem zE(f)(v):∀fs:Wu,f∈(cQ f v fs).map (·.1)/\∀g,g∈fs.map (·.1)->g∈(cQ f v fs).map (·.1)
 |[]=>#[by simp[cQ],λg h=>by simp at h]
 |(k,x)::r=>by
  let#[u,j]:=zE f v r;rw[show cQ f v ((k,x)::r)=(if k=f then(k,v)::r else(k,x)::cQ f v r)from rfl];by_cases m:k=f
  .simp_all
  .rw[if_neg m];refine#[?_,λg h=>?_]
   .simp_all
   .rw[ZN]at h ⊢;rcases ZC.mp h with e|e
    .show ZC.mpr<|.inl e
    .show Zt _<|j g e
theorem E0(f)(v):∀fs:Wu,(cQ f v fs).length<=fs.length+1
 |[]=>by simp[cQ]
 |(k,x)::r=>by
  have j:=E0 f v r;rw[show cQ f v ((k,x)::r)=(if k=f then(k,v)::r else(k,x)::cQ f v r)from rfl];by_cases m:k=f
  .simp_all
  .simp_all
def dt.some_of(r:dt (V v) o):∃u,o=V u/\RelV v u:=by
 cases o with
 |none=>show(r).elim
 |some u=>show#[u,rfl,r]
def dt.none_of(r:dt Zg o):o=Zg:=by cases o with|none=>rfl|some u=>show(r).elim
def Ny(r:RelV v u):W.handedIn u=Zj:=by cases v with|af=>cases (r);rfl|bl b=>cases (r);rfl|int i=>let#[t,e]:=(r);cases e;rfl|str x=>let#[t,e]:=(r);cases e;rfl|iO b=>let#[t,e]:=(r);cases e;rfl|vo b=>let#[t,e]:=(r);cases e;rfl|ref a=>cases (r);rfl|ty n=>cases (r);rfl
section
variable{P:cz}{w:bL}{H H':Hp}{h h':bc}{a C dx:Z8}{fs fs':Wu}
def vz(az:cZ P w H h)(e:H a=V (.ins C dx fs)):∃mA,jd h a dx C mA/\(∀f,dt (fs.lookup f)<|mA f)/\yK mA (fs.map (·.1))/\fs.length<=1000/\H dx=V (.own a):=by let#[d,z,ne,ob,mA,n,r,q]:=(az a _ e);show#[mA,#[ob,n,ne],r,q,z,d]
end
structure l9(K:W.Frag)(C:Z8):Prop where
 pg:W.plainGet K C iM=Zj
 hd:W.hasDictIn K C=Zj
 po:W.plainOver K C=Zj
 sa:W.findIn K (.ref C) "__setattr__"=V (V<|.builtin "object.__setattr__")
theorem l9.get{K:W.Frag}(c:l9 K C)(f):W.plainGet K C f=Zj:=c.pg
def Vr(K:W.Frag)(C:Z8)(f:Str):Prop:=W.findIn K (.ref C) f=V Zg
def Vr.sM{K:W.Frag}(n:Vr K C f):W.takerIn K C f=V Zg:=by unfold W.takerIn;rw[show W.findIn K (.ref C) f=V Zg from n];rfl
structure Meth(K:W.Frag)(C:Z8)(m:Str)(f:Z8):Prop where
 at_:W.findIn K (.ref C) m=V (V<|.ref f)
 fn:W.isFn K (.ref f)=Zj
 kp:W.keepIn K (.ref f)=Zj
section
variable{X:Cx}{O:aZ}{U:St}{H:Hp}{s:Z1}{a C dx:Z8}{fs:Wu}{f:Str}{v:bA}{A:cu}{E:aQ}
def E2(I:Inv X O U H s)(e:H a=V (.ins C dx fs))(c:l9 X.K C)(n:Vr X.K C f)(l:fs.lookup f=V v) (h:∀u s',Inv X O U H s'->RelV v u->Q u s'):Zz (Z5 X.prog X.w) A (getAttr (.ref a) f b) Q E s:=by
 let#[B,k,r,_,_,_]:=vz I.az e;let#[u,m,j]:=dt.some_of<|by rw[<-l];show r f
 show Nu I.cN k (c.get f) c.hd n m (Ny j)<|h u _ (I.tok _) j
def E3(I:Inv X O U H s)(e:H a=V (.ins C dx fs))(c:l9 X.K C)(k:Meth X.K C m g)(l:fs.lookup m=Zg) (h:Q (.ref g,[.ref a]) s):Zz (Z5 X.prog X.w) A (oZ (.ref a) m pl) Q E s:=by
 let#[u,j,r,_,_,_]:=vz I.az e;have hn:=dt.none_of<|by rw[<-l];show r m
 show Nv I.cN j (c.get m) k.at_ k.fn hn h
def E4(I:Inv X O U H s)(e:H a=V (.ins C dx fs))(c:l9 X.K C)(n:Vr X.K C f)(J:fs.length<1000)(P:RelV y u) (h:∀s',Inv X O U (upd H a<|.ins C dx<|cQ f y fs) s'->Q () s'):Zz (Z5 X.prog X.w) A (setAttr (.ref a) f u) Q E s:=by
 let#[B,j,r,m,_,ho]:=vz I.az e;have D:(fs.map (·.1)).length<=sizeLine:=by rw[Zm,jN];show mB 06
 refine Nw I.cN j c.sa c.po n.sM c.hd m D λF k M=>h _ ?_
 have hd:∃o,F.get? dx=V o:=let ⟨o,_,_,L,_⟩:=k.ns;#[o,L];calc I.write (by rw[e];show eP) (.inr ho) (λb q Z z=>(M.2 b Z).trans z) hd ?_;refine#[by rw[Js j.ne];show ho,?_,j.ne,k.obj,_,k.ns,λg=>?_,λg G=>?_]
 .have:=E0 f y fs;show Zb this J
 .change dt ((cQ f y fs).lookup g) (if g=f then V u else B g);rw[EZ];by_cases q:g=f
  .rw[if_pos q,if_pos q];show P
  .simp_all
 .by_cases q:g=f
  .rw[q];show(zE f y fs).1
  .calc(zE f y fs).2 g (m g λz=>G ?_);change(if g=f then V u else B g)=Zg;rw[if_neg q];show z
def Inv.made(I:Inv X O U H s):Inv X O U (upd (upd H s.heap.objs.size<|.own<|s.heap.objs.size+1) (s.heap.objs.size+1)<|.ins C s.heap.objs.size []) {s with heap:=(s.heap.push W.emptyDict).push (W.instObj C s.heap.objs.size)}:=by
 have j:(s.heap.push W.emptyDict).get? s.heap.objs.size=V W.emptyDict:=Zw s.heap rfl;have D:((s.heap.push W.emptyDict).push<|W.instObj C s.heap.objs.size).get? (s.heap.objs.size+1)=V (W.instObj C s.heap.objs.size):=by have:=Zw (s.heap.push W.emptyDict) (o:=W.instObj C s.heap.objs.size) rfl;rwa [nY]at this
 have m:(s.heap.push W.emptyDict).Ns s.heap.objs.size (λ_=>Zg):=#[W.emptyDict,#[],_,j,rfl,(λe k=>absurd k 03),λ_=>rfl];have I1:=I.laid (o:=.own<|s.heap.objs.size+1) (t':=s.toks) (λb u q=>Zh _ q) (Zl _) #[_,j];calc I1.laid (λb u q=>Zh _ q) (Zi<|nY _ _) ?_;have ne:s.heap.objs.size≠s.heap.objs.size+1:=Zv<|ZS _;calc#[by rw[Js ne,J0],ZW _,ne,D,λ_=>Zg,(Heap.Ns1.of_empty m).at λo q=>Zh _ q,λ_=>eP,λy B=>absurd rfl B]
theorem E5(Z:qC e f env (bp e env)=bp e env) (h:Zz (Z5 prog w) A (bp e env) (λo s₁=>Zz (Z5 prog w) A (getAttr o f Zj) Q E s₁) E s):Zz (Z5 prog w) A (bp (.Attribute e f pos) env) Q E s:=Attribute_any_ h (by rw[arm_eval_Attribute,Z])
end
structure bu(κ:Bool)(k:Nat)(A:cu):Prop where
 hd:κ=Zj->A.handled=Zg
 dp:A.depth+3*k+5<recursionLimit
 un:A.units+16*k+200<kE
theorem bu.mono(r:bu κ k A)(h:j<=k):bu κ j A:=#[r.hd,by have:=r.dp;lia,by have:=r.un;lia]
theorem bu.deeper(r:bu κ (k+1) A)(env):bu κ k (A.deeper env):=#[r.hd,by have:=r.dp;change A.depth+1+3*k+5<_;lia,by have:=r.un;change A.units+3+16*k+200<_;lia]
theorem bu.in1(r:bu κ (k+1) A):bu κ k A.in1:=#[r.hd,by have:=r.dp;change A.depth+3*k+5<_;lia,by have:=r.un;change A.units+1+16*k+200<_;lia]
theorem Nz{A:cu}:(A.under<|.builtin "type.__call__" #[.ref C::us,kw]).depth=A.depth+1:=rfl
def NA{A:cu}:(A.under<|.builtin "type.__call__" #[.ref C::us,kw]).units=A.units+1:=by first|rfl|simp
theorem bu.make(r:bu κ (k+1) A)(C)(us)(kw):bu κ k (A.under<|.builtin "type.__call__" #[.ref C::us,kw]):=#[r.hd,by have:=r.dp;rw[Nz];lia,by have:=r.un;rw[NA];lia]
def bu.depth(r:bu κ k A):A.depth<recursionLimit:=by have:=r.dp;show Zb (Zk _ 5)<|Zb (Zc (Zc (Zk _ _) 1) 5) this
def bu.units(r:bu κ k A):A.units+64<kE:=by have:=r.un;show Zb (Zk _ 136)<|Zb (Zc (Zc (Zk _ _) 65) 136) this
abbrev Sp:=Ua->Hp->VK->XK->Prop
abbrev sN:=Tk->Hp->Z1->XK->aQ
structure je(P:cz)(w:bL)(K:W.Frag)(mg:Str->Tb)(base:bc)(A:cu)(outer:Tk)(s:Z1)(H:Hp):Prop where
 frames:A.frames=V outer
 mod:Mod K mg base
 bs:∀b o,base.get? b=V o->s.heap.get? b=V o/\H b=Zg
 kh:base.objs.size<=s.heap.objs.size
 dw:s.heap.FunFrames base outer
 l8:∀b∈dQ outer,H b=Zg
 az:cZ P w H s.heap
 bare:l5 s.gens
 cw:Qt A H
def CE(outer:Tk)(P:cz)(w:bL)(H:Hp)(s:Z1)(Q:VK)(u:Zu)(s':Z1):Prop:=∃v H',s'.os=s.os/\l5 s'.gens/\Un (dQ outer) [] H H' s.heap s'.heap/\cZ P w H' s'.heap/\RelV v u/\Q v H'
def CR(CX:sN)(outer:Tk)(P:cz)(w:bL)(H:Hp)(s:Z1)(Q:VK)(E:XK)(r:qM)(s':Z1):Prop:=match r with|.ok (.ret u)=>CE outer P w H s Q u s'|.ok _=>False|.error e=>CX outer H s E e s'
structure bM(P:cz)(w:bL)(K:W.Frag)(mg:Str->Tb)(base:bc)(CX:sN)(κ:Bool)(k:Nat)(f:Z8)(fd:i6)(ps:Tj)(sp:Sp):Prop where
 len:∀vs H Q E,sp vs H Q E->vs.length=ps.length
 run:∀(A:cu)(outer:Tk)(s:Z1)(H:Hp)(args:Args)(us:Tt)(vs:Ua)(Q:VK)(E:XK),bu κ k A->je P w K mg base A outer s H->qK s fd args (ps.zip us)->Vals vs us->sp vs H Q E ->iK (Z5 P w) A (.call (.ref f) args) (CR CX outer P w H s Q E) s
theorem bM.imp{K:W.Frag}(F:bM P w K mg base CX κ k f fd ps sp) (h:∀vs H Q E,sp' vs H Q E->sp vs H Q E):bM P w K mg base CX κ k f fd ps sp':=#[λvs H Q E q=>F.len vs H Q E<|h _ _ _ _ q,λA outer s H j m vs Q E C B Z u D=>F.run A outer s H j m vs Q E C B Z u<|h _ _ _ _ D]
theorem je.make{K:W.Frag}(e:je P w K mg base A outer s H)(C)(us)(kw):je P w K mg base (A.under<|.builtin "type.__call__" #[.ref C::us,kw]) outer s H:=#[by first|show e.frames|(simpa[Around.under,Code.envs,Code.isFrame,pushEnvs]using e.frames),e.mod,e.bs,e.kh,e.dw,e.l8,e.az,e.bare,e.cw]
section
variable{X:Cx}{O:aZ}{U:St}{H:Hp}{s s':Z1}
theorem Inv.px(I:Inv X O U H s)(j:Qt X.A H):je X.prog X.w X.K X.mg X.base X.A X.stack s H:=#[I.ok.frames,I.ok.mod,I.bs,Zb I.ok.kh I.sz,I.stack,I.dE,I.az,I.bare,j]
def Inv.after(I:Inv X O U H s)(h:CE X.stack X.prog X.w H s Q u s'):EP X O U Q u s':=by let#[v,k,os,bare,un,az,r,q]:=h;let#[m,g,d,t,j]:=s';obtain rfl:j=s.os:=os;show#[v,k,I.call un az bare λb z=>absurd z 03,r,q]
end
def Qa(K:W.Frag)(fd:i6)(ps:Tj)(ds:Tt):Prop:=∀(s:Z1)(us:Tt),K.In s.heap->(us++ds).length=ps.length->qK s fd #[us,[]] (ps.zip<|us++ds)
theorem Qa.all{K:W.Frag}(h:∀us:Tt,us.length=ps.length->r7 fd #[us,[]]=pure (ps.zip us)):Qa K fd ps []:=λs us _ j=>by rw[jK]at j ⊢;show .of_eq<|h us j
section
variable{X:Cx}{CX:sN}{k:Nat}{f C:Z8}{fd:i6}{ps:Tj}{sp:Sp}{aU:Ua}{ds:Tt}{E:XK}{x m:Str}{p pos apos:Pos}{e o:Expr}{es:Td}{ta:TE}{t:TA}
structure Mk(K:W.Frag)(C f:Z8):Prop where
 makes:W.makesIn K C=Zj
 init:W.findIn K (.ref C) "__init__"=V (V<|.ref f)
 fn:W.isFn K (.ref f)=Zj
 kp:W.keepIn K (.ref C)=Zj
end
structure dF(N P:Tj)(sc:eL):Prop where
 kind:sc.kind=.function
 co:sc.isCoroutine=Zn
 gen:sc.isGenerator=Zn
 nd:N.Nodup
 pre:N.take P.length=P
 par:∀x∈P,sc.names.lookup x=V .local\/sc.names.lookup x=V .cell
 pz:∀y∈sc.names,y.2≠.free
theorem E6{kindOf:Str->Wy}:∀{binds:Wn}{m:Str->Tb},(∀v,(x,v)∉binds)->bindL kindOf binds m x=m x
 |[],_,_=>rfl
 |(n,v)::r,m,h=>by
  unfold bindL;rw[E6 λw j=>h w<|Zt _ j];split
  .have:x≠n:=by rintro rfl;show h v ZD
   simp[this]
  .rfl
theorem E7{kindOf:Str->Wy}:∀{binds:Wn}{m:Str->Tb},(∀v,(x,v)∉binds)->bindC kindOf binds m x=m x
 |[],_,_=>rfl
 |(n,v)::r,m,h=>by
  unfold bindC;rw[E7 λw j=>h w<|Zt _ j];split
  .rfl
  .have:x≠n:=by rintro rfl;show h v ZD
   simp[this]
theorem E8{kindOf:Str->Wy}:∀{P:Tj}{vs:Tt}{i:Nat}{m:Str->Tb},P.Nodup->P[i]?=V x->vs[i]?=V v->kindOf x=V .local ->bindL kindOf (P.zip vs) m x=V v
 |[],_,_,_,_,h,_,_=>by simp at h
 |_::_,[],_,_,_,_,h,_=>by simp at h
 |p::P,w::vs,0,m,nd,h1,J,hk=>by simp at h1 J;subst h1;subst J;change bindL kindOf ((p,w)::P.zip vs) m p=_;unfold bindL;rw[E6 λv j=>(rN.mp nd).1 (yC j).1,if_pos hk];simp
 |p::P,w::vs,i+1,m,nd,h1,J,hk=>by unfold bindL;show E8 (i:=i) (rN.mp nd).2 (by simpa using h1) (by simpa using J) hk
theorem E9{kindOf:Str->Wy}:∀{P:Tj}{vs:Tt}{i:Nat}{m:Str->Tb},P.Nodup->P[i]?=V x->vs[i]?=V v->kindOf x≠V .local ->bindC kindOf (P.zip vs) m x=V v|[],_,_,_,_,h,_,_=>by simp at h|_::_,[],_,_,_,_,h,_=>by simp at h|p::P,w::vs,0,m,nd,h1,J,hk=>by simp at h1 J;subst h1;subst J;change bindC kindOf ((p,w)::P.zip vs) m p=_;unfold bindC;rw[E7 λv j=>(rN.mp nd).1 (yC j).1,if_neg hk];simp|p::P,w::vs,i+1,m,nd,h1,J,hk=>by unfold bindC;show E9 (i:=i) (rN.mp nd).2 (by simpa using h1) (by simpa using J) hk
noncomputable def start (N:Tj)(vs:Ua):St:=vs.map V++fw (N.length-vs.length) Zg
noncomputable def jQ (CX:sN)(P:cz)(w:bL)(K:W.Frag)(mg:Str->Tb)(base:bc)(N:Tj)(qual:Str)(scope:eL)(f:Z8)(cd:Zu)(A:cu)(outer:Tk)(s:Z1)(H:Hp)(E:XK):Cx where
 prog:=P
 w:=w
 K:=K
 mg:=mg
 base:=base
 A:=A.deeper<|mP qual scope s.heap.objs.size f cd
 N:=N
 s₀:=s
 H₀:=H
 env:=mP qual scope s.heap.objs.size f cd
 outer:=outer
 stack:=mP qual scope s.heap.objs.size f cd::outer
 ex:=[]
 calm:=Zj
 fn:=λ_=>Zj
 pn:=[]
 xe:=λe s'=>Zz (Z5 P w) (A.deeper<|mP qual scope s.heap.objs.size f cd) (leaving (mP qual scope s.heap.objs.size f cd) e) (λ_ s''=>CX outer H s E e s'') (λe' s''=>CX outer H s E e' s'') s'
def Fb{sc:eL}(h:sc.names.lookup x=V .cell):∃c,(cellsFrom n sc.names []).lookup x=V c:=by have q:=W.cellsFrom_some sc.names n []<|.inl h;show qf.mp q
def NB{K:W.Frag} (S:dF N ps scope)(j:je P w K mg base A outer s H)(O:vs.length=ps.length)(r:Vals vs us) (x:InCallC s s.heap.objs.size (bindL (mP qual scope s.heap.objs.size f cd).kindOf (ps.zip us) λ_=>Zg) (cellsFrom (s.heap.objs.size+1) scope.names []) (bindC (mP qual scope s.heap.objs.size f cd).kindOf (ps.zip us) λ_=>Zg) s1):Inv (jQ CX P w K mg base N qual scope f cd A outer s H E) [] (start N vs) H s1:=by
 have G:ps.length<=N.length:=by have:=congrArg List.length S.pre;rw[e9]at this;show Zb (Zi this.symm)<|jI _ _
 let#[F,R,rfl,I]:=x.done;have ic:∀b:Z8,b∉(jQ CX P w K mg base N qual scope f cd A outer s H E).ex:=λb z=>absurd (show b∈([]:Ts)from z) 03
 refine#[#[j.mod,S.kind,rfl,rfl,Zl _,λy z c F J=>?_,λy m=>?_,λy c _ h=>?_,λ_=>j.cw,Around.frames_deeper j.frames,.inr #[rfl,rfl],λb z=>absurd z<|ic b,j.bs,j.kh,λb _ _=>ic b,λb z=>absurd z<|ic b,j.dw,j.l8],rfl,j.bare,Un.kept I,#[_,x.toInCall.ns,λi y v F J Q=>?_],λy c h=>#[_,x.cell y c h],j.az.fresh<|Zl _,λy c h=>?_,λp B=>absurd (show p∈([]:aZ)from B) 03,j.az.kept I,?_]
 .show name_of_addr x.apart (jL F)<|jL J
 .have m:scope.names.lookup y=V .cell\/scope.names.lookup y=V .free:=m;rcases m with m|m
  .show Fb m
  .show absurd rfl (S.pz _<|jL m)
 .show Z3<|x.above y c<|jL h
 .have D:i<vs.length:=by
   unfold start at J;by_cases D:i<vs.length
   .show D
   .rw[ZU<|by simpa using D]at J;rw[uk]at J;split at J<;>cases J
  have ha:vs[i]?=V v:=by unfold start at J;rw[ZV (by simpa using D),ZK]at J;cases e:vs[i]? with|none=>rw[e]at J;cases J|some a=>rw[e]at J;cases J;rfl
  let#[u,L,M]:=r.get ha;have B:ps[i]?=V y:=by rw[<-S.pre,yn<|nD 06 06];show F
  have C:ps.Nodup:=by rw[<-S.pre];show S.nd.sublist<|List.take_sublist _ _
  calc#[u,M,?_];rcases S.par y (oP B)with k|k
  .show .inl #[k,E8 C B L k]
  .let#[c,e]:=Fb (n:=s.heap.objs.size+1) k;calc .inr #[.inl k,c,e,?_];have q:=x.cell y c e;rw[E9 C B L (by change scope.names.lookup y≠_;rw[k];decide)]at q;show q
 .show j.az.fresh<|Z3<|x.above y c<|jL h
 .unfold start;change _=N.length;rw[Z7,Zm,rG];show lE<|Zb (Zi O) G
def NC{K:W.Frag}{dV kV F pm j ct oc:Zu} (lk:K.lookup f=V #[oc,od,.func<|W.fnOf name qual params body scope dV kV F pm an j ct,osl])(R:W.codeIn K j qual=Zj)(S:dF N ps scope) (len:∀vs H Q E,sp vs H Q E->vs.length=ps.length) (hbody:∀(A:cu)(outer:Tk)(s:Z1)(H:Hp)(vs:Ua)(Q:VK)(E:XK),bu κ k (A.deeper<|mP qual scope s.heap.objs.size f j)->sp vs H Q E ->∃t,MQ (jQ CX P w K mg base N qual scope f j A outer s H E) body t/\t {nx:=λ_ H'=>Q .af H',rt:=Q} (start N vs) H):bM P w K mg base CX κ (k+1) f (W.fnOf name qual params body scope dV kV F pm an j ct) ps sp:=by
 calc#[len,λA outer s H args us vs Q E U G Z r D=>?_];have hl:=len _ _ _ _ D;have X:K.In s.heap:=G.mod.pj.keeps λb o e=>(G.bs b o e).1
 have L:s.heap.NoLimit:=G.mod.nolimit.keeps λb o e=>(G.bs b o e).1
 have B:∀y∈ps.zip us,scope.names.lookup y.1=V .local\/(scope.names.lookup y.1=V .cell/\((cellsFrom (s.heap.objs.size+1) scope.names []).lookup y.1).isSome=Zj):=λ⟨n,v⟩ hy=>by
  rcases S.par n (yC hy).1 with q|q
  .show .inl q
  .show .inr #[q,W.cellsFrom_some _ _ _<|.inl q]
 calc codeAny_call_function U.depth (X _ _ lk) rfl S.co S.gen rfl (W.codeRec_of X R) (Z _ _ _ _ ?_);refine wpAny_newFunctionEnv_cells S.kind B λenv he Y x=>?_
 subst he;calc#[L.keeps x.toInCall.keep,codeAny_func ?_];let#[t,ht,hq]:=hbody A outer s H vs Q E (U.deeper _) D;have I:Inv (jQ CX P w K mg base N qual scope f j A outer s H E) [] (start N vs) H Y:=NB S G hl r x;refine dm (ht [] Y (start N vs) H _ I hq) (λfl M C=>?_) λe M C=>C
 have fin:∀{J:St}{H':Hp}{v:bA}{u:Zu},Inv (jQ CX P w K mg base N qual scope f j A outer s H E) [] J H' M->RelV v u->Q v H'->CE outer P w H s Q u M:=λ{J H' v u} m O q=>#[v,H',m.os,m.bare,m.base,m.az,O,q];cases fl with|ret u=>let#[v,J,H',m,O,q]:=C;show fin m O q|next=>let#[J,H',m,q]:=C;show fin (v:=bA.af) (u:=dD) m rfl q|brk=>let#[_,_,_,q]:=C;show iN q|cont=>let#[_,_,_,q]:=C;show iN q
end L2
namespace HT
open PySem PyProof.Rows
section
variable{prog:cz}{w:bL}{A:cu}{E:aQ}{s:Z1}
def mS(L:IsTup s.heap t vs.toArray)(Z:IsTup s.heap b ws.toArray)(F:vs≠[])
  (h1:ws=[]->Q (.ref t) s)(J:ws≠[]->Q (.ref s.heap.objs.size) {s with heap:=s.heap.push {cls:=.type "tuple",data:=.seq (vs++ws).toArray} })
  (hsz:vs.length+ws.length<=sizeLine):Zz (Z5 prog w) A (fy .Add (.ref t)<|.ref b) Q E s:=by
 let#[#[cls,H,data,I],ho,M,n,hd]:=id L;let#[#[G,m,B,k],j,D,n2,C]:=id Z;subst M hd D C;have e:vs.toArray++ws.toArray=(vs++ws).toArray:=03;by_cases u:ws=[]
 .show concat_meets #[_,ho,rfl] #[_,j,rfl] noFill_tuple_add seq_tuple_add ED EB (EA _ _)
   (tuple_addW1 t b vs.toArray ws.toArray n n2 H m I k (by simpa using F)<|by simp[u]) #[ho,j,h1 u]
 .refine concat_meets #[_,ho,rfl] #[_,j,rfl] noFill_tuple_add seq_tuple_add ED EB (EA _ _)
   (tuple_addW2 t b vs.toArray ws.toArray n n2 H m I k (by simpa using F) (by simpa using u)<|by simp_all) #[ho,j,?_]
  rw[e];show J u
noncomputable def bT (n d:Nat):Wz->Nat|none=>d|some v=>if v<0 then(v+(n:Int)).toNat else min v.toNat n
theorem kH(n d):bT n d Zg=d:=rfl
theorem jC(n d k:Nat):bT n d (V (k:Int))=min k n:=rfl
def pA(n d)(hd:d<=n)(o):bT n d o<=n:=by
 cases o with|none=>show hd|some v=>
  change(if v<0 then(v+(n:Int)).toNat else min v.toNat n)<=n;by_cases j:v<0
  .rw[if_pos j];lia
  .rw[if_neg j];show jI _ _
def Fc(v)(n d:Nat):(if v<0 then max (v+(n:Int)) 0 else min v (n:Int))=((bT n d (V v):Nat):Int):=by
 change(if v<0 then max (v+(n:Int)) 0 else min v (n:Int))=(((if v<0 then(v+(n:Int)).toNat else min v.toNat n):Nat):Int);by_cases j:v<0
 .simp only[if_pos j];lia
 .simp only[if_neg j];lia
def ND(lo hi)(n:Nat):zb lo hi 1 (n:Int)=(((bT n 0 lo:Nat):Int),((bT n n hi:Nat):Int)):=by
 have j:¬((1:Int)<0):=01;unfold zb;simp![j,if_false];refine Prod.ext ?_ ?_
 .cases lo with|none=>rfl|some v=>show Fc v n 0
 .cases hi with|none=>rfl|some v=>show Fc v n n
def NF(i j:Nat):u7 (i:Int) (j:Int) 1=j-i:=by unfold u7;have k:(1:Int)>0:=ZJ _;simp![k,if_true,Int.ediv_one];split<;>lia
def Fd(p:ke v o)(h:Q o s):Zz (Z5 prog w) A (Builtin.Slice.slicePartIndex v) Q E s:=by cases p with|none=>show slicePart_none h|int i t=>show slicePart_int h
def dW{lo hi:Wz}{n:Nat}(hs:s.heap.IsSliceOf sl vl vu .none)(pl:ke vl lo)(m:ke vu hi) (h:Q (((bT n 0 lo:Nat):Int),1,bT n n hi-bT n 0 lo) s):Zz (Z5 prog w) A (EF (.ref sl)<|pure (n:Int)) Q E s:=by let#[os,k,u,j]:=id hs;unfold EF Builtin.Slice.sliceFields;calc Ze<|Ze<|fg k j (x:=vl) rfl (Ze<|fg k j (x:=vu) rfl (Ze<|fg k j (x:=.none) rfl (Zp ?_)));calc Ze<|slicePart_none ?_;change Zz _ _ (if ((1:Int)==0)=Zj then _ else _) _ _ s;rw[if_neg 01];calc Ze<|Fd pl<|Ze<|Fd m<|Ze<|Zp ?_;change Zz _ _ (match zb lo hi 1 (n:Int)with|(lo,hi)=>pure (lo,(1:Int),u7 lo hi 1)) _ _ s;rw[ND lo hi n];change Zz _ _ (pure (((bT n 0 lo:Nat):Int),(1:Int),u7 ((bT n 0 lo:Nat):Int) ((bT n n hi:Nat):Int) 1)) _ _ s;rw[NF];show Zp h
def kI(xs:Th)(i k:Nat):((ZM k).filterMap λ(m:Nat)=>xs[((i:Int)+(m:Int)*1).toNat]?).toArray=((xs.toList.drop i).take k).toArray:=by
 have e:(λ(m:Nat)=>xs[((i:Int)+(m:Int)*1).toNat]?)=λm=>xs[i+m]?:=by funext m;have:((i:Int)+(m:Int)*1).toNat=i+m:=(rE _ _ _).symm;rw[this]
 rw[e];have:=pick_run xs i k;rw[List.filterMap_map]at this;have j:((λx=>xs[x]?)∘λx=>i+x)=λm=>xs[i+m]?:=rfl
 rw[j]at this;rw[this]
end
end HT
namespace L2
open PySem PySem.Spec PyProof.Rows
section
variable{X:Cx}{e:Expr}{te:TE}{lo hi:Wv}{tl th:TO}{pos p2:Pos}
def Fe(X:Cx)(r:bA->Wz->Wz->Hp->VK->Prop):Prop:=∀(O:aZ)(s:Z1)(U:St)(H:Hp)(x:bA)(v vl vu:Zu)(lo hi:Wz)(sl:Z8)(Q:VK),Inv X O U H s->RelV x v->s.heap.IsSliceOf sl vl vu .none->ke vl lo->ke vu hi->r x lo hi H Q ->∃T id,typeLookup (.type T) "__getitem__"=pure (V<|.builtin id)/\s.TypeIs v T/\Zz (Z5 X.prog X.w) X.A (lQ v<|.ref sl) (EP X O U Q) X.xe s
def jR(xs:Ua)(lo hi:Wz):Ua:=(xs.drop<|HT.bT xs.length 0 lo).take<|HT.bT xs.length xs.length hi-HT.bT xs.length 0 lo
def Ff(xs)(lo hi):(jR xs lo hi).length<=xs.length:=by unfold jR;rw[e9,lJ];show Zb (jI _ _)<|nF _ _
def NG(K:W.Frag):R2:=λx y H Q=>∃a b xs ys,x=.ref a/\y=.ref b/\eu K H a xs/\eu K H b ys/\xs≠[]/\xs.length+ys.length<=sizeLine /\ (ys=[]->Q (.ref a) H)/\(ys≠[]->∀p,H p=Zg->Q (.ref p) (upd H p<|.tup<|xs++ys))
def Vals.f7(r:Vals xs us):us=[]↔xs=[]:=by cases r with|nil=>simp|cons _ _=>simp
def NH:fm X (fy .Add) (NG X.K):=by
 intro O s U H x y v u Q I G F h;let#[a,b,xs,L,rfl,rfl,ha,Z,D,m,q1,C]:=h;cases G;cases F;let#[E,k,p1,_]:=I.tuple ha;let#[B,j,J,_]:=I.tuple Z;refine HT.mS p1 J (λz=>D<|k.f7.mp z) (λz=>#[.ref a,H,I,rfl,q1<|j.f7.mp z]) (λz=>?_)<|by rw[<-k.length,<-j.length];show m
 calc#[.ref s.heap.objs.size,_,I.laid (λb ob q=>Zh _ q) (Zl _) ?_,rfl,C (λw=>z<|j.f7.mpr w) _<|I.az.fresh<|Zl _];show#[by rw[Z7];show m,_,k.append j,IsTup.new _ _]
end
noncomputable def jS (n:Nat)(i:Int):Ta:=if 0<=i then(if i<n then V i.toNat else Zg)else if -(n:Int)<=i then V (i+n).toNat else Zg
noncomputable def a7 {α:Type}(xs:List α)(i:Int):Option α:=(jS xs.length i).bind λj=>xs[j]?
def Fg(h:jS n i=V j):seqIndex? i n=V j/\j<n/\ -(n:Int)<=i/\i<n:=by
 unfold jS at h;by_cases m:0<=i
 .rw[if_pos m]at h;by_cases k:i<n
  .rw[if_pos k]at h;have e:=hV h;show#[by rw[uL m k,e],05,05,k]
  .lia
 .rw[if_neg m]at h;by_cases k: -(n:Int)<=i
  .rw[if_pos k]at h;have e:=hV h;show#[by rw[yL (d9.mp m) k,e],05,k,ZF (d9.mp m)<|iL _]
  .lia
def vA(h:a7 xs i=V v):∃j,seqIndex? i xs.length=V j/\xs[j]?=V v/\j<xs.length/\ -(xs.length:Int)<=i/\i<xs.length:=by unfold a7 at h;cases e:jS xs.length i with|none=>rw[e]at h;cases h|some j=>rw[e]at h;let#[m,J,u,k]:=Fg e;show#[j,m,h,J,u,k]
def Fh(b:Expr):Prop:=∀o i,uM b Zn o i=operate [o,i] (lQ o i)
def vB(X:Cx)(r:R2):Prop:=∀(value slice:Expr)(O:aZ)(s:Z1)(U:St)(H:Hp)(x y:bA)(v u:Zu)(Q:VK),Inv X O U H s->RelV x v->RelV y u->r x y H Q ->uM slice Zn v u=operate [v,u] (lQ v u)->Zz (Z5 X.prog X.w) X.A (yY value slice v u) (EP X O U Q) X.xe s
section
variable{X:Cx}{a b:Expr}{ta tb:TE}{pos:Pos}
def zF(K:W.Frag):R2:=λx y H Q=>∃p xs i v,x=.ref p/\y=.int i/\cf K H p xs/\a7 xs i=V v/\Q v H
def zG(K:W.Frag):R2:=λx y H Q=>∃p xs i v,x=.ref p/\y=.int i/\eu K H p xs/\a7 xs i=V v/\Q v H
def zH:R2:=λx y H Q=>∃z i c,x=.str z/\y=.int i/\z.length<=sizeLine/\a7 z.cps.toList i=V c/\Q (.str ⟨#[c]⟩) H
def Fi:vB X (zF X.K):=by
 intro D B O s U H x y v u Q I Y W h F;let#[p,xs,i,z,rfl,rfl,P,S,q]:=h;cases Y;let#[t,rfl]:=W;let#[C,r,pl,hz]:=I.list P;let#[j,m,J,h3,M,R]:=vA S;let#[w,Z,E]:=r.get J;have L:=r.length;have hn:=Xl;have fin:EP X O U Q w s:=#[z,H,I,E,q];by_cases k:0<=i
 .have G:i.toNat=j:=by rw[uL k R]at m;show hV m
  show item_listR pl.isList k 05 (by simp_all) fin F
 .have G:(i+(C.toArray.size:Int)).toNat=j:=by rw[yL (d9.mp k) M]at m;rw[ZT,<-L];show hV m
  show yX pl.isList.typeIs slot_list_getitem.lookup
   (wpAny_getItem_list_neg pl.isList (d9.mp k) (by simp_all) 05 (by simp_all) #[rfl,fin]) F
def NI:vB X (zG X.K):=by intro m k O s U H x y v u Q I L G h M;let#[p,xs,i,z,rfl,rfl,D,F,q]:=h;cases L;let#[t,rfl]:=G;let#[E,r,pl,S]:=I.tuple D;let#[j,W,J,Z,R,Y]:=vA F;let#[w,C,B]:=r.get J;have P:=r.length;have hn:=Xl;have fin:EP X O U Q w s:=#[z,H,I,B,q];show yX (x:=w) pl.typeIs slot_tuple_getitem.lookup (getItem_tuple (j:=j) pl 05 05 (by simp_all) (by simpa using C) #[rfl,fin]) M
def NJ:vB X zH:=by
 intro m k O s U H x y v u Q I B M h G;let#[z,i,c,rfl,rfl,S,L,q]:=h;let#[t,rfl]:=B;let#[W,rfl]:=M;let#[j,P,J,Y,D,E]:=vA L;have C:z.cps.toList.length=z.length:=by simp[sj]
 rw[C]at P D E;have hn:=Xl;show tail_any (typeIs_str s z t) slot_str_getitem.lookup (getItem_str (by have F:decide (i< -(2^63:Int))=Zn:=decide_eq_false 05;have R:decide (i ≥ 2^63)=Zn:=decide_eq_false 05;rw[F,R,Bool.or_false]) (by simp_all) #[.str ⟨#[c]⟩,H,I.tok _,#[_,rfl],q]) G
def NK(its:Tt)(n j)(u):fj (·.setIfInBounds j u) {cls:=.type "list",data:=.seq its.toArray n}={cls:=.type "list",data:=.seq (its.set j u).toArray n}:=by simp[fj]
def Inv.lst(I:Inv X O U H s)(h:H p=V (.lst xs)):∃(its:Tt) (n:Nat),Vals xs its/\s.heap.get? p=V {cls:=.type "list",data:=.seq its.toArray n}/\xs.length<=sizeLine:=by let#[z,its,n,r,e]:=I.az p _ h;show#[its,n,r,e,z]
def Inv.pB{its j:Tt}(I:Inv X O U H s)(h:H p=V (.lst xs)) (ho:s.heap.get? p=V {cls:=.type "list",data:=.seq its.toArray n})(k:f {cls:=.type "list",data:=.seq its.toArray n}={cls:=.type "list",data:=.seq j.toArray n'})(r:Vals ys j)(m:ys.length<=sizeLine)(t):Inv X O U (upd H p<|.lst ys) {s with heap:=s.heap.update p f,toks:=t}:=by
 have e:(s.heap.update p f).get? p=V {cls:=.type "list",data:=.seq j.toArray n'}:=by rw[lU f ho (by rw[k]<;>rfl),k]
 calc I.write (by rw[h];trivial) (.inl rfl) (λb u Z q=>(ZB _ _<|bI Z).trans q) #[_,e] ?_;show#[m,j,n',r,e]
def NL:bA->bA->bA->Hp->(Hp->Prop)->Prop:=λo i v H Q=>∃p xs k j,o=.ref p/\i=.int k/\H p=V (.lst xs)/\jS xs.length k=V j/\Q (upd H p<|.lst<|xs.set j v)
def NM:zx X NL:=by
 intro O s U H o i v Z iv u Q I R P Y h;let#[p,xs,k,j,rfl,rfl,E,G,q]:=h;cases R;let#[t,rfl]:=P;let#[m,n,r,ho,hz]:=I.lst E;let#[C,J,S,M]:=Fg G;have L:=r.length;have hn:=Xl;have F:Inv X O U (upd H p<|.lst<|xs.set j v) {s with heap:=s.heap.update p (fj (·.setIfInBounds j u))}:=
  I.pB E ho (NK m n j u) (r.set Y j) (by simp_all) s.toks
 by_cases B:0<=k
 .have D:k.toNat=j:=by rw[uL B M]at C;show hV C
  show W.ki_setAt ho B 05 (by simp_all)<|by rw[D];show#[_,F,q]
 .have D:(k+(m.toArray.size:Int)).toNat=j:=by rw[yL (d9.mp B) S]at C;rw[ZT,<-L];show hV C
  show W.ki_setBack ho (d9.mp B) (by simp_all) 05<|by rw[D];show#[_,F,q]
def NN(lo hi)(n):(oW lo hi Zg n).1=((HT.bT n 0 lo:Nat):Int)/\(oW lo hi Zg n).2.1=((HT.bT n n hi:Nat):Int)/\(oW lo hi Zg n).2.2=1:=by
 refine#[?_,?_,rfl]
 .cases lo with|none=>simp[oW,HT.bT]|some i=>simp![oW,HT.bT,Option.getD_none];show(if_pos 01).trans<|EK n i
 .cases hi with|none=>simp[oW,HT.bT]|some i=>simp![oW,HT.bT,Option.getD_none];show(if_pos 01).trans<|EK n i
def NO(its:Tt)(lo hi):slicePick its.toArray lo hi Zg=((its.drop<|HT.bT its.length 0 lo).take<|HT.bT its.length its.length hi-HT.bT its.length 0 lo).toArray:=by let#[j,J,k]:=NN lo hi its.toArray.size;unfold slicePick;rw[j,J,k];simp![sliceRange_one,pick_run]<;>rfl
def zI(K:W.Frag):bA->Wz->Wz->Hp->VK->Prop:=λx lo hi H Q=>∃a xs,x=.ref a/\cf K H a xs/\∀p,H p=Zg->Q (.ref p) (upd H p<|.lst<|jR xs lo hi)
def Fj:Fe X (zI X.K):=by
 intro O s U H x v J G lo m L Q I D E pl B h;let#[a,xs,rfl,C,q]:=h;cases D;let#[F,r,k,u]:=I.list C;have j:=r.length;calc#["list",_,slot_list_getitem.lookup,k.isList.typeIs,?_];refine wpAny_getItem_list_slice k.isList E pl B .none 03 ?_<|by simp_all
 rw[NO,<-j];calc#[.ref s.heap.objs.size,_,I.laid (λb ob q=>Zh _ q) (Zl _) ?_,rfl,q _<|I.az.fresh<|Zl _];show#[Zb (Ff xs lo m) u,_,0,(r.drop<|HT.bT xs.length 0 lo).take<|HT.bT xs.length xs.length m-HT.bT xs.length 0 lo,Zw _ rfl]
def zJ:VF X (.type "list") (λxs H Q=>∃p ys,xs=[.ref p]/\(cf X.K H p ys\/eu X.K H p ys)/\∀l,H l=Zg->Q (.ref l) (upd H l<|.lst ys)):=by
 intro O s U H xs L Q I r h;let#[p,ys,rfl,E,q]:=h;let#[u,rfl,J]:=Qr r;cases J;have fin:∀(j:Tt),Vals ys j->ys.length<=sizeLine->∀(m:bc)(B:Nat),(∀b G,s.heap.get? b=V G->m.get? b=V G) ->m.get? s.heap.objs.size=V {cls:=.type "list",dict:=Zg,data:=.seq j.toArray B,slots:=#[]}->EP X O U Q (.ref s.heap.objs.size) {s with heap:=m}:=λj C D m B kp e=>
  #[.ref s.heap.objs.size,_,I.laid kp (Zl _) (show JX X.prog X.w _ m _ (.lst ys)from#[D,j,B,C,e]),rfl,q _<|I.az.fresh<|Zl _]
 rcases E with E|E
 .let#[j,C,pl,D]:=I.list E;have k:=C.length;let#[o,ho,F,n,hd]:=pl.isList;show call_list_seq p (.inl rfl) ho F hd (λm B kp e=>fin j C D m B kp e)<|by simp<;>show Zb (Zi k.symm) D
 .let#[j,C,pl,D]:=I.tuple E;have k:=C.length;let#[o,ho,F,n,hd]:=pl;show call_list_seq p (.inr rfl) ho F hd (λm B kp e=>fin j C D m B kp e)<|by simp<;>show Zb (Zi k.symm) D
def Fl:VF X (.type "tuple") (λxs H Q=>∃p ys,xs=[.ref p]/\((cf X.K H p ys/\∀l,H l=Zg->Q (.ref l) (upd H l<|.tup ys))\/(eu X.K H p ys/\Q (.ref p) H))):=by
 intro O s U H xs G Q I r h;let#[p,ys,rfl,h]:=h;let#[u,rfl,F]:=Qr r;cases F;rcases h with⟨D,q⟩|⟨D,q⟩
 .let#[j,C,pl,m]:=I.list D;have k:=C.length;refine call_tuple_list pl.isList (λB kp=>?_)<|by simp<;>show Zb (Zi k.symm) m
  have I1:=I.kept (t':=s.toks) kp;have E:Inv X O U (upd H B.objs.size<|.tup ys) {s with heap:=B.push {cls:=.type "tuple",data:=.seq j.toArray} }:=
   I1.laid (λb o e=>Zh _ e) (Zl _) (#[m,j,C,IsTup.new _ _])
  show#[.ref B.objs.size,_,E,rfl,q _<|I1.az.fresh<|Zl _]
 .let#[j,C,pl,m]:=I.tuple D;show call_tuple_same pl #[.ref p,H,I,rfl,q]
def Fm(K:W.Frag)(T:String)(x:bA)(H:Hp):Prop:=match x with
 |.str _=>T="str"
 |.int _=>T="int"
 |.ref p=>(T="list"/\∃xs,cf K H p xs)\/(T="tuple"/\∃o,K.lookup p=V o/\o.cls=.type "tuple"/\o.dict=Zg) \/
   (T="dict"/\((∃kvs,H p=V (.dK kvs))\/∃kvs,H p=V (.dT kvs)))\/(T="set"/\∃S n,H p=V (.set S n))
 |_=>False
def Fo(I:Inv X O U H s)(r:RelV x v)(ty:Fm X.K T x H):s.TypeIs v T/\∀a,v=.ref a->∃ob,s.heap.get? a=V ob/\ob.dict=Zg:=by
 cases x with
 |str z=>let#[t,rfl]:=r;cases (ty);show#[typeIs_str s z t,λ_ e=>nomatch e]
 |int i=>let#[t,rfl]:=r;cases (ty);show#[typeIs_int s i t,λ_ e=>nomatch e]
 |ref p=>
  cases r;rcases ty with⟨rfl,xs,B⟩|⟨rfl,o,j,hc,hd⟩|⟨rfl,j⟩|⟨rfl,S,n,j⟩
  .let#[u,_,pl,_]:=I.list B;calc#[pl.isList.typeIs,λa e=>?_];cases e;let#[o,n,e,c,hd,_]:=pl;show#[o,e,hd]
  .calc#[#[o,I.cN p o j,hc],λa e=>?_];cases e;show#[o,I.cN _ o j,hd]
  .have z:∃o,s.heap.get? p=V o/\o.ExactDict:=by
    rcases j with⟨k,j⟩|⟨k,j⟩
    .let#[_,_,_,_,o,_,_,e,ex,_]:=I.az p _ j;show#[o,e,ex]
    .let#[_,_,_,_,o,_,_,e,ex,_]:=I.az p _ j;show#[o,e,ex]
   let#[o,e,ex]:=z;calc#[#[o,e,ex.1],λa m=>?_];cases m;show#[o,e,ex.2.1]
  .let#[o,_,_,_,e,ex,_]:=I.az p _ j;calc#[#[o,e,ex.1],λa m=>?_];cases m;show#[o,e,ex.2.1]
 |_=>show iN ty
variable{o e:Expr}{es:Td}{to:TE}{t:TA}{name:Str}{apos cpos:Pos}{T id:String}{r:bA->Ua->Hp->VK->Prop}
end
def vC(X:Cx)(id:String)(r:bA->Ua->Hp->VK->Prop):Prop:=∀(O:aZ)(s:Z1)(U:St)(H:Hp)(x:bA)(xs:Ua)(v:Zu)(us:Tt)(Q:VK),Inv X O U H s->RelV x v->Vals xs us->r x xs H Q ->Zz (Z5 X.prog X.w) X.A (call (.builtin id)<|v::us) (EP X O U Q) X.xe s
def Vals.one{x:bA}{us:Tt}(h:Vals [x] us):∃u,us=[u]/\RelV x u:=by cases h with|cons r e=>cases e;show#[_,rfl,r]
def Vals.two(h:Vals [x,y] us):∃u v,us=[u,v]/\RelV x u/\RelV y v:=by
 cases h with|cons r e=>cases e with|cons q e=>cases e;show#[_,_,rfl,r,q]
theorem Vals.zero:∀{us:Tt},Vals [] us->us=[]|_,.nil=>rfl
def Vals.dropLast(h:Vals xs us):Vals xs.dropLast us.dropLast:=by
 induction h with|nil=>show .nil|cons r t j=>cases t with|nil=>show .nil|cons q k=>show .cons r j
theorem Vals.eraseIdx:∀{xs:Ua}{us:Tt}(i:Nat),Vals xs us->Vals (xs.eraseIdx i) (us.eraseIdx i)|_,_,_,.nil=>.nil|_,_,0,.cons _ t=>t|_,_,i+1,.cons r t=>.cons r<|Vals.eraseIdx i t
def Vals.reverse(h:Vals xs us):Vals xs.reverse us.reverse:=by induction h with|nil=>show .nil|cons r t j=>rw[mF,mF];show Vals.append j<|.cons r .nil
theorem Vals.rep(h:Vals xs us):∀k:Nat,Vals (fw k xs).flatten (fw k us).flatten|0=>.nil|k+1=>by show Vals.append h<|Vals.rep h k
theorem Fp:∀(l:List α)(i:Nat),(l.eraseIdx i).length<=l.length|[],_=>Zl _|_::_,0=>fY _|_::r,i+1=>ud<|Fp r i
theorem Fq(its):∀(k:Nat)(acc:Tt),List.foldl (λx1 x2=>x1++x2) acc.toArray (fw k its.toArray)=(acc++(fw k its).flatten).toArray
 |0,acc=>03
 |k+1,acc=>by
  have e:acc.toArray++its.toArray=(acc++its).toArray:=03;have j:(acc++its)++(fw k its).flatten=acc++(fw (k+1) its).flatten:=by rw[List.replicate_succ,List.flatten_cons,iW]
  rw[<-j,<-Fq its k (acc++its),<-e,List.replicate_succ,List.foldl_cons]
section
variable{X:Cx}{O:aZ}{U:St}{H:Hp}{s:Z1}{l b:Z8}{xs ys zs:Ua}
def Inv.mT{its j:Tt}(I:Inv X O U H s)(D:H l=V (.lst xs)) (e:s.heap.get? l=V {cls:=.type "list",data:=.seq its.toArray n})(B:f its.toArray=j.toArray)(m:Vals ys j)(k:ys.length<=sizeLine):Inv X O U (upd H l<|.lst ys) {s with heap:=s.heap.update l<|fj f,toks:=t'}:=by have q:=PySem.IsL.update e f;rw[B]at q;calc I.write (by rw[D];show trivial) (.inl rfl) (λE u Z C=>(ZB s.heap (fj f)<|bI Z).trans C) #[_,q] ?_;show#[k,j,_,m,q]
theorem Inv.sO(I:Inv X O U H s)(k:Vals ys its)(j:ys.length<=sizeLine):Inv X O U (upd H s.heap.objs.size<|.lst ys) {s with heap:=s.heap.push {cls:=.type "list",data:=.seq its.toArray},toks:=t'}:=I.laid (λ_ _ q=>Zh _ q) (Zl _) #[j,its,0,k,Zw _ rfl]
theorem Inv.fresh(I:Inv X O U H s):H s.heap.objs.size=Zg:=I.az.fresh<|Zl _
def Inv.f9(I:Inv X O U H s)(j:H l=V (.lst xs)):xs.length<=sizeLine/\∃(its:Tt) (n:Nat),Vals xs its/\xs.length=its.length/\s.heap.get? l=V {cls:=.type "list",data:=.seq its.toArray n}:=by let#[z,its,n,r,e]:=I.az l _ j;show#[z,its,n,r,r.length,e]
def Fs(h:n<=sizeLine):zd n=Zn:=by show decide_eq_false<|ue 06
end
section
variable{X:Cx}
def NP:bA->Ua->Hp->VK->Prop:=λx vs H Q=>∃l xs y,x=.ref l/\vs=[y]/\H l=V (.lst xs)/\xs.length<sizeLine/\Q .af (upd H l<|.lst<|xs++[y])
def Ft:vC X "list.append" NP:=by intro O s U H x J v E Q I D C h;let#[l,xs,y,rfl,rfl,k,m,q]:=h;cases D;let#[u,rfl,B]:=C.one;let#[z,j,n,r,G,e]:=I.f9 k;calc qF F.slot_list_append #[_,e,rfl] F.entry_list_append (F.args_list_append_2 _ _) (PySem.list_append l j.toArray n u<|by simp_all) #[e,?_];calc#[.af,_,I.mT k e 03 (r.append<|.cons B .nil) ?_,rfl,q];rw[Z7,oO];show m
def NQ:bA->Ua->Hp->VK->Prop:=λx vs H Q=>∃l b xs zs,x=.ref l/\vs=[.ref b]/\H l=V (.lst xs)/\H b=V (.lst zs)/\xs.length+zs.length<=sizeLine/\Q .af (upd H l<|.lst<|xs++zs)
def NR:vC X "list.extend" NQ:=by
 intro O s U H x vs v S Q I D M h;let#[l,b,xs,Y,rfl,rfl,C,L,E,q]:=h;cases D;let#[u,rfl,J]:=M.one;cases J;let#[z,k,n,r,W,e]:=I.f9 C;let#[Z,j,n2,G,P,R]:=I.f9 L;have B:k.toArray.size+j.toArray.size<=sizeLine:=by rw[ZT,ZT];lia
 have m:¬(!k.toArray.isEmpty&&zd (k.toArray.size+j.toArray.size))=Zj:=by rw[Fs B,Bool.and_false];show Zx
 calc qF F.slot_list_extend #[_,e,rfl] F.entry_list_extend (F.args_list_extend_2 _ _) (AutoSeq1.list_extend_list_list_0 l k.toArray n b j.toArray n2 m (by rw[ZT];show Zb (Zk _ _) 06)<|oK 06) #[e,R,?_];calc#[.af,_,I.mT C e 03 (r.append G) ?_,rfl,q];rw[Z7];show E
def zK:bA->Ua->Hp->VK->Prop:=λx vs H Q=>∃l xs y,x=.ref l/\vs=[]/\H l=V (.lst xs)/\xs[xs.length-1]?=V y/\Q y (upd H l<|.lst xs.dropLast)
def NS:vC X "list.pop" zK:=by
 intro O s U H x P v M Q I L D h;let#[l,xs,y,rfl,rfl,B,J,q]:=h;cases L;have k:=D.zero;subst k;let#[z,j,n,r,E,e]:=I.f9 B;let#[u,G,C]:=r.get J;have m:j.toArray[j.toArray.size-1]?=V u:=by change j.toArray[j.length-1]?=V u;rw[<-Et,<-E];show G
 calc qF F.slot_list_pop #[_,e,rfl] F.entry_list_pop (F.args_list_pop_1 _) (MeetsSeq.list_pop_last l j.toArray n u m<|by simp_all) #[e,?_];refine#[y,_,I.mT B e ?_ r.dropLast ?_,C,q]
 .simp
 .rw[List.length_dropLast];show Zb (nF _ _) z
def zL:R2:=λx y H Q=>∃l b xs zs,x=.ref l/\y=.ref b/\H l=V (.lst xs)/\H b=V (.lst zs)/\xs.length+zs.length<=sizeLine/\∀p,H p=Zg->Q (.ref p) (upd H p<|.lst<|xs++zs)
def NT:fm X (fy .Add) zL:=by
 intro O s U H x y v u Q I G F h;let#[l,b,xs,M,rfl,rfl,D,C,R,q]:=h;cases G;cases F;let#[z,k,n,r,L,e]:=I.f9 D;let#[P,j,n2,B,E,J]:=I.f9 C;refine PySem.P.add_list e J ?_<|by simp_all
 have m:k.toArray++j.toArray=(k++j).toArray:=03;rw[m];show#[.ref _,_,I.sO (r.append B) (by simp_all),rfl,q _ I.fresh]
def zM:R2:=λx y H Q=>∃l k xs,x=.ref l/\y=.int k/\H l=V (.lst xs)/\ -(2^63)<=k/\k<2^63/\xs.length*k.toNat<=sizeLine /\ ∀p,H p=Zg->Q (.ref p) (upd H p<|.lst (fw k.toNat xs).flatten)
theorem NU(xs:List α)(k):(fw k xs).flatten.length=k*xs.length:=03
def NV:fm X (fy .Mult) zM:=by
 intro O s U H x y v u Q I L Z h;let#[l,k,xs,rfl,rfl,W,h1,J,R,q]:=h;cases L;let#[t,rfl]:=Z;let#[z,j,n,r,hl,e]:=I.f9 W;have D:j.toArray.size*k.toNat<=sizeLine:=by simp_all
 have G:¬j.toArray.size*k.toNat>(2^63-1)/8:=by have:(sizeLine:Nat)<=(2^63-1)/8:=01;lia
 have E:¬(!Builtin.List.listFitsIndex k)=Zj:=by rw[fitsIndex_both h1 J];show Zx
 have B:¬zd (j.toArray.size*k.toNat)=Zj:=by rw[Fs D];show Zx
 have C:List.foldl (λP S=>P++S) #[] (fw (if j.toArray.isEmpty=Zj then 0 else k.toNat) j.toArray)=(fw k.toNat j).flatten.toArray:=by
  have Y:=λm=>by have:=Fq j m [];rw[lK]at this;show this
  rw[Y];cases j with|nil=>simp|cons a r'=>rw[if_neg 03]
 calc wpAny_binaryOp_repeat_ref 01 #[_,e,rfl] (λM=>typeIs_int M k t) noFill_list_mul F.fills_int_mul F.slot_int_rmul repeat_list F.slot_int_index.lookup (qF F.slot_int_rmul (typeIs_int s k t) F.entry_int_rmul (F.args_int_rmul_2 _ _) (int___rmul___int_list k t l j.toArray n) #[e,rfl,#[_,e,rfl],qF F.slot_list_mul #[_,e,rfl] F.entry_list_mul (F.args_list_mul_2 _ _) (AutoListH.list___mul___list_int_3 l j.toArray n k t E G B) #[e,?_]]);rw[C];show#[.ref _,_,I.sO (r.rep k.toNat) (by rw[NU,Nat.mul_comm];show R),rfl,q _ I.fresh]
end
section
variable{κ:Type}[DecidableEq κ]
noncomputable def eR (kvs:List<|κ×bA)(k:κ):Ti:=(kvs.find? λkv=>decide (kv.1=k)).map (·.2)
noncomputable def putK (kvs:List<|κ×bA)(k:κ)(v:bA):List (κ×bA):=if (kvs.any λkv=>decide (kv.1=k))=Zj then kvs.map (λkv=>if kv.1=k then(kv.1,v)else kv)else kvs++[(k,v)]
def zN{k:κ}(e:p.1=k):eR (p::r) k=V p.2:=by simp[eR,e]
def zO{k:κ}(e:¬p.1=k):eR (p::r) k=eR r k:=by simp[eR,e]
theorem Fu(k):∀j:List<|κ×bA,(j.any λm=>decide (m.1=k))=(eR j k).isSome
 |[]=>rfl
 |p::r=>by
  rw[lL];by_cases e:p.1=k
  .simp only[zN e,decide_eq_true e,Bool.true_or,Option.isSome_some]
  .rw[zO e,decide_eq_false e];show Fu k r
def NW(kvs)(k:κ)(v):(putK kvs k v).length<=kvs.length+1:=by
 unfold putK;split
 .simp
 .simp
def dt.jT(r:dt o u):o.isSome=u.isSome:=by
 cases o with
 |none=>cases u with
  |none=>rfl
  |some _=>show(r).elim
 |some _=>cases u with
  |none=>show(r).elim
  |some _=>rfl
def KV.val(r:KV kvs vs)(k:κ):dt (eR kvs k) (qL vs k):=by
 induction r with|nil=>show eP|@cons p q ps m h t B=>
  let#[u,J]:=h;by_cases e:p.1=k
  .have j:q.1=k:=u.symm.trans e;have b:qL (q::m) k=V q.2:=by simp[qL,j]
   rw[zN e,b];show J
  .have j:¬q.1=k:=λz=>e<|u.trans z
   have b:qL (q::m) k=qL m k:=by simp[qL,j]
   rw[zO e,b];show B
def KV.any(r:KV kvs vs)(k:κ):(kvs.any λj=>decide (j.1=k))=vs.any λj=>decide (j.1=k):=by induction r with|nil=>rfl|cons h t m=>rw[lL,lL,m,h.1]
def KV.zP(r:KV kvs vs)(k:κ)(C:RelV y u):KV (kvs.map λj=>if j.1=k then(j.1,y)else j) (vs.map λj=>if j.1=k then(j.1,u)else j):=by
 induction r with|nil=>show .nil|@cons p q ps B h t m=>
  calc .cons ?_ m;let#[D,J]:=h;by_cases e:p.1=k
  .lia
  .lia
def KV.put(r:KV kvs vs)(k:κ)(j:RelV y u):KV (putK kvs k y) (stored vs k u):=by
 unfold putK stored;rw[r.any k];by_cases e:(vs.any λm=>decide (m.1=k))=Zj
 .rw[if_pos e,if_pos e];show r.zP k j
 .rw[if_neg e,if_neg e];show Paired.snoc r #[rfl,j]
theorem KV.length(r:KV kvs vs):kvs.length=vs.length:=zg r
end
def vD(r:RelV (kV k) u):(Vw P w).is k u=Zj:=by cases k with|inl i=>let#[t,e]:=(r);subst e;show MK P w i t|inr x=>let#[t,e]:=(r);subst e;show ML P w x t
section
variable{P:cz}{w:bL}{H:Hp}{h:bc}{a:Z8}
theorem NX(ok:cZ P w H h)(e:Rd H a u):JX P w H h a u:=e.ok ok
theorem NY(ok:cZ P w H h)(e:Rd H a<|.dK kvs):kvs.length<=sizeLine/\(a==nQ)=Zn/\∃vs,KV kvs vs/\h.DictOf (Vw P w) a vs:=show JX P w H h a (.dK kvs)from NX ok e
theorem vE(ok:cZ P w H h)(e:H a=V (.dK kvs)):kvs.length<=sizeLine/\(a==nQ)=Zn/\∃vs,KV kvs vs/\h.DictOf (Vw P w) a vs:=NY ok<|.inl e
end
section
variable{X:Cx}{O:aZ}{U:St}{H:Hp}{s:Z1}{a:Z8}{y v:bA}{u r:Zu}{o:Ti}{A:cu}{E:aQ}
def Inv.big(I:Inv X O U H s):nQ<s.heap.objs.size:=by have h:=(I.mod.glob.keeps I.bk).lt;show qk 01 h
theorem Fv(I:Inv X O U H s)(k:oo<|H a)(hs:mJ a s.heap h')(j:∃q,h'.get? a=V q)(new:JX X.prog X.w (upd H a ob) h' a ob):Inv X O U (upd H a ob) {s with heap:=h',toks:=t'}:=I.write k (.inl rfl) (λb q Z z=>(hs.2 b Z).trans z) j new
theorem Fw(z:kvs.length<=sizeLine)(hd:(a==nQ)=Zn)(rel:KV kvs vs)(dd:h'.DictOf (Vw P w) a vs):JX P w H' h' a (.dK kvs):=#[z,hd,vs,rel,dd]
end
theorem NZ(h:bc)(Z:nQ<h.objs.size):JX P w H (h.push {cls:=.type "dict",data:=.dict #[]}) h.objs.size (.dK []):=#[ZW _,beq_eq_false_iff_ne.mpr<|bI<|Zv Z,[],.nil,Heap.DictOf.new h]
end L2
namespace Att
open PySem PySem.W PySem.Calls PyProof.Rows
def Oa:∀(ns:To)(vs:Tt),WellAll P h vs (ns.map WData.int)->hX vs ns:=by
 intro ns;induction ns with|nil=>intro vs w;cases w;show .nil|cons n ns j=>intro vs w;cases w with|cons a b=>cases a;show .cons _ _<|j _ b
def Oc{l:OpenLaw}(hn:l.most=V n) (j:l.row.toRowW.claim.pre args=Zj)(C:WellAll P h vals args):∃a vs ns,vals=[gT a]/\args=[WData.list<|ns.map WData.int]/\h.get? a=V {cls:=.type "list",data:=.seq vs.toArray}/\hX vs ns/\ns.length<=n:=by
 have D:=(pre_splitW j).1;have G:l.pre.holds [] {args:=args}=Zj:=(pre_splitW j).2;let#[d,r,rfl,I,J]:=hasAllW_cons D;obtain rfl:=hasAllW_nil J;let#[xs,rfl,E]:=hasW_list I;let#[ns,rfl]:=items_int E;have m:ns.length<=n:=by
  have B:(WTm.not<|.lt (.lit<|.int (n:Int))<|.len<|.arg 0).holds [] {args:=[.list<|ns.map .int]}=Zj:=by have B:=(holds_andW G).1;rw[hn]at B;show B
  have u:=condW_of B<|w_not<|w_lt w_lit<|w_len_list<|w_arg rfl;refine ZI λq=>?_
  first
   | (rw[decide_eq_true q']at u;show absurd u 01)
   | (simp at u;show uf q u)
 cases C with|cons H F=>cases F;cases H with|list ho k=>show#[_,_,ns,rfl,rfl,ho,Oa ns _ k,m]
theorem Od(l:OpenLaw)(args):l.row.toRowW.claim.post args (.bool Zj) args=Zj:=postW_of (show WShape.has [] (.bool Zj) .bool=Zj by first|rfl|decide|simp) (w_eq_bool (w_res rfl) w_lit) rfl
def ig{l:OpenLaw} (hn:l.most=V n)(B:d.params.defaults=[]) (call:∀(w:bL)(s₀ s₁:Z1)(mg mb:Str->Tb)(fa:Z8)(o:Obj)(pm cd j:Zu)(a:Z8)(vs:Tt)(ns:To),Ground q loose [] XP w s₀ mg mb s₁.heap->YP w s₁.heap ->s₁.heap.get? fa=V o->o.data=.func (docDef d.name d.params d.body d.scope pm cd j)->s₁.heap.CodeRec cd d.name->mg d.name=V (.ref fa) ->s₁.heap.get? a=V {cls:=.type "list",data:=.seq vs.toArray}->hX vs ns->ns.length<=n->s₁.gens=#[] ->iK (Z5 l.prog w) o1 (.call (.ref fa) #[[.ref a],[]]) (λr s'=>r=.ok (.ret<|.bool Zj)/\OldK s₁.heap s'.heap/\s'.os=s₁.os/\l5 s'.gens) s₁):WalkO q loose XP YP l.row.toRowW d [] (λf vs=>PySem.call f vs):=by
 intro w s₀ s₁ mg mb G YY fa o pm cd j dV kV ho hd hcd hD hmg hg args vals as hpre hlay hrd hwl hlo;obtain rfl:dV=.none:=Dflts.none hD B;obtain rfl:kV=.none:=Dflts.noKw hD;let#[a,vs,ns,rfl,rfl,m,k,u]:=Oc hn hpre hwl;refine enter_call<|oU (call w s₀ s₁ mg mb fa o pm cd j a vs ns G YY ho (fd_plain hd) hcd hmg m k u hg) λr s' E=>?_
 let#[rfl,J,C,D]:=E;show#[.inl #[.bool Zj,.bool Zj,[],rfl,λ_=>rfl,.bool Zj,Od l _,λ_=>#[List.Pairwise.nil,λ_ hm=>(nomatch hm)]],J,C,D]
end Att
namespace L2
open PySem PySem.Spec PyProof.Rows
theorem Ya:∀{vs:Tt}{ns:To},hX vs ns->Vals (ns.map bA.int) vs|_,_,.nil=>.nil|_,_,.cons n t h=>.cons #[t,rfl]<|Ya h
noncomputable def JT (s:eI)(j:Nat):eI:=match s with|.ClassDef _ _ _ body _ _ _ _ _ _ _=>body.getD j<|.Pass #[0,0,0,0]|_=>.Pass #[0,0,0,0]
def VI(s:eI):uP:=match s with|.FunctionDef _ a _ _ _ _ _ _ _ _=>a|_=>{posonlyargs:=[],args:=[],vararg:=Zg,kwonlyargs:=[],kw_defaults:=[],kwarg:=Zg,defaults:=[]}
def Vd(s:eI):Tl:=match s with|.FunctionDef _ _ b _ _ _ _ _ _ _=>b|_=>[]
def Qo(s:eI):eL:=match s with|.FunctionDef _ _ _ _ _ _ sc _ _ _=>sc|_=>{kind:=.function,names:=[],isGenerator:=Zn,isCoroutine:=Zn}
end L2
set_option maxHeartbeats 4000000
namespace L3
open PySem PySem.Spec PyProof.Rows L2
inductive IV where|af|bl (b:Bool)|int (i:Int)|str (x:Str)|tup (xs:List IV)|cG (xs:List IV)|ref (i:Nat)
abbrev _root_.Wo:=List<|Str×IV
abbrev _root_.Wp:=List<|Key×IV
abbrev _root_.Te:=Option IV
abbrev _root_.Tu:=List IV
inductive IX where|lst (xs:Tu)|ins (c:Str) (fs:Wo)|a8 (kvs:Wp)|exc (c:Str) (fs:Wo)|tab (q:Str)|iP (c:Str) (fs:Wo)
abbrev IH:=List IX
abbrev aI:=List<|Te
inductive Res(α:Type) where|ok (a:α) (h:IH)|exc (n:Nat) (h:IH)|stuck
noncomputable def Res.bind {α β:Type}:Res α->(α->IH->Res β)->Res β|.ok a h,f=>f a h|.exc n h,_=>.exc n h|.stuck,_=>.stuck
inductive bU where|next (U:aI) (h:IH)|ret (v:IV) (h:IH)|brk (U:aI) (h:IH)|cont (U:aI) (h:IH)|exc (n:Nat) (U:aI) (h:IH)|stuck
def pE(K:W.Frag)(H:Hp)(a:Z8)(xs:Ua):Prop:=(∃o,H a=V (.bw o<|.lst xs)) \/ ∃(o:Obj) (its:Th) (n:Nat),K.lookup a=V o/\o.cls=.type "list"/\o.dict=Zg/\o.data=.seq its n/\its.size<=sizeLine/\Vals xs its.toList
def pE.sq{K:W.Frag}(h:pE K H a xs):cf K H a xs:=by
 rcases h with⟨o,h⟩|h
 .show .inl<|.inr #[o,h]
 .show .inr h
mutual
def RV(K:W.Frag)(Y:Ts)(H:Hp):IV->bA->Prop|.af,v=>v=.af|.bl b,v=>v=.bl b|.int i,v=>v=.int i|.str x,v=>v=.str x|.tup xs,v=>∃a vs,v=.ref a/\eu K H a vs/\aC K Y H xs vs|.cG xs,v=>∃a vs,v=.ref a/\pE K H a vs/\aC K Y H xs vs|.ref i,v=>∃a,v=.ref a/\Y[i]?=V a
def aC(K:W.Frag)(Y:Ts)(H:Hp):Tu->Ua->Prop|[],vs=>vs=[]|x::xs,vs=>∃v r,vs=v::r/\RV K Y H x v/\aC K Y H xs r
end
structure Ext(H H':Hp):Prop where
 cI:∀b xs,H b=V (.tup xs)->H' b=V (.tup xs)
 bf:∀b o u,H b=V (.bw o u)->H' b=V (.bw o u)
structure a9(Y:Ts)(H:Hp)(Y':Ts)(H':Hp):Prop where
 pre:∃m,Y'=Y++m
 ext:Ext H H'
theorem a9.refl:a9 Y H Y H:=#[#[[],03],#[λ_ _ h=>h,λ_ _ _ h=>h]]
def a9.trans(a:a9 Y H W1 H1)(b:a9 W1 H1 U2 H2):a9 Y H U2 H2:=by let#[#[m,e],x]:=a;let#[#[j,k],y]:=b;show#[#[m++j,by rw[k,e,iW]],#[λb xs h=>y.cI b xs<|x.cI b xs h,λb o u h=>y.bf b o u<|x.bf b o u h]]
def a9.at(n:a9 Y H Y' H'){i:Nat}(h:Y[i]?=V a):Y'[i]?=V a:=by let#[#[m,e],_]:=n;subst e;rw[ZV (Zs.mp h).1];show h
def Ext.rd(x:Ext H H')(h:Rd H a<|.tup xs):Rd H' a (.tup xs):=by
 rcases h with h|⟨o,h⟩
 .show .inl<|x.cI _ _ h
 .show .inr #[o,x.bf _ _ _ h]
def Ext.sP{K:W.Frag}(x:Ext H H')(h:eu K H a xs):eu K H' a xs:=by
 rcases h with h|h
 .show .inl<|x.rd h
 .show .inr h
def Ext.zQ{K:W.Frag}(x:Ext H H')(h:pE K H a xs):pE K H' a xs:=by
 rcases h with⟨o,h⟩|h
 .show .inl #[o,x.bf _ _ _ h]
 .show .inr h
mutual
theorem RV.mono{K:W.Frag}{Y Y':Ts}{H H':Hp}(n:a9 Y H Y' H'):∀(x:IV)(v:bA),RV K Y H x v->RV K Y' H' x v|.af,_,h=>h|.bl _,_,h=>h|.int _,_,h=>h|.str _,_,h=>h|.tup xs,_,h=>by let#[a,vs,e,q,r]:=h;show#[a,vs,e,n.ext.sP q,aC.mono n xs vs r]|.cG xs,_,h=>by let#[a,vs,e,q,r]:=h;show#[a,vs,e,n.ext.zQ q,aC.mono n xs vs r]|.ref i,_,h=>by let#[a,e,q]:=h;show#[a,e,n.at q]
theorem aC.mono{K:W.Frag}{Y Y':Ts}{H H':Hp}(n:a9 Y H Y' H'):∀(xs:Tu)(vs:Ua),aC K Y H xs vs->aC K Y' H' xs vs|[],_,h=>h|x::xs,_,h=>by let#[v,r,e,q,t]:=h;show#[v,r,e,RV.mono n x v q,aC.mono n xs r t]
end
theorem aC.length{K:W.Frag}:∀{xs:Tu}{vs:Ua},aC K Y H xs vs->vs.length=xs.length|[],_,h=>by have e:=h;subst e;rfl|x::xs,_,h=>by let#[v,r,e,_,t]:=h;subst e;simp[aC.length t]
theorem aC.get{K:W.Frag}:∀{xs:Tu}{vs:Ua}{i:Nat}{x:IV},aC K Y H xs vs->xs[i]?=V x->∃v,vs[i]?=V v/\RV K Y H x v
 |[],_,_,_,_,e=>by simp at e
 |x::xs,_,0,y,h,e=>by let#[v,r,j,q,t]:=h;subst j;simp at e;subst e;show#[v,rfl,q]
 |x::xs,_,i+1,y,h,e=>by
  let#[v,r,j,q,t]:=h;subst j;let#[u,k,J]:=aC.get t<|by simpa using e
  show#[u,by simpa using k,J]
def aC.get'{K:W.Frag}{i:Nat}(h:aC K Y H xs vs)(e:vs[i]?=V v):∃x,xs[i]?=V x/\RV K Y H x v:=by have m:=h.length;have B:=(Zs.mp e).1;have k:xs[i]?=V xs[i]:=Zd<|nD 06 06;let#[u,j,J]:=h.get k;rw[e]at j;cases j;show#[_,k,J]
theorem aC.append{K:W.Frag}:∀{xs ys:Tu}{vs us:Ua},aC K Y H xs vs->aC K Y H ys us->aC K Y H (xs++ys) (vs++us)|[],_,_,_,h,g=>by have e:=h;subst e;show g|x::xs,_,_,_,h,g=>by let#[v,r,e,q,t]:=h;subst e;show#[v,_,rfl,q,aC.append t g]
theorem aC.take{K:W.Frag}:∀{xs:Tu}{vs:Ua}(n:Nat),aC K Y H xs vs->aC K Y H (xs.take n) (vs.take n)|_,_,0,_=>by simp;show rfl|[],_,n+1,h=>by have e:=h;subst e;show rfl|x::xs,_,n+1,h=>by let#[v,r,e,q,t]:=h;subst e;show#[v,r.take n,rfl,q,aC.take n t]
theorem aC.drop{K:W.Frag}:∀{xs:Tu}{vs:Ua}(n:Nat),aC K Y H xs vs->aC K Y H (xs.drop n) (vs.drop n)|_,_,0,h=>h|[],_,n+1,h=>by have e:=h;subst e;show rfl|x::xs,_,n+1,h=>by let#[v,r,e,q,t]:=h;subst e;show aC.drop n t
theorem aC.set{K:W.Frag}(q:RV K Y H x v):∀{xs:Tu}{vs:Ua}(i:Nat),aC K Y H xs vs->aC K Y H (xs.set i x) (vs.set i v)|[],_,_,h=>by have e:=h;subst e;show rfl|y::xs,_,0,h=>by let#[u,r,e,_,t]:=h;subst e;show#[v,r,rfl,q,t]|y::xs,_,i+1,h=>by let#[u,r,e,p,t]:=h;subst e;show#[u,r.set i v,rfl,p,aC.set q i t]
theorem aC.one{K:W.Frag}(q:RV K Y H x v):aC K Y H [x] [v]:=#[v,[],rfl,q,rfl]
theorem aC.rev{K:W.Frag}:∀{xs:Tu}{vs:Ua},aC K Y H xs vs->aC K Y H xs.reverse vs.reverse|[],_,h=>by have e:=h;subst e;show rfl|x::xs,_,h=>by let#[v,r,e,q,t]:=h;subst e;rw[mF,mF];show aC.append (aC.rev t)<|aC.one q
theorem aC.ints{K:W.Frag}:∀(ns:To),aC K Y H (ns.map IV.int) (ns.map bA.int)|[]=>rfl|_::ns=>#[_,_,rfl,rfl,aC.ints ns]
def b9{κ:Type}(K:W.Frag)(Y:Ts)(H:Hp):List (κ×IV)->List (κ×bA)->Prop|[],vs=>vs=[]|x::xs,vs=>∃v r,vs=(x.1,v)::r/\RV K Y H x.2 v/\b9 K Y H xs r
theorem b9.mono{K:W.Frag}(n:a9 Y H Y' H'):∀(xs:List<|κ×IV)(vs:List<|κ×bA),b9 K Y H xs vs->b9 K Y' H' xs vs|[],_,h=>h|x::xs,_,h=>by let#[v,r,e,q,t]:=h;show#[v,r,e,RV.mono n _ v q,b9.mono n xs r t]
theorem b9.length{K:W.Frag}:∀{xs:List (κ×IV)}{vs:List (κ×bA)},b9 K Y H xs vs->vs.length=xs.length|[],_,h=>by have e:=h;subst e;rfl|x::xs,_,h=>by let#[v,r,e,_,t]:=h;subst e;simp[b9.length t]
theorem b9.lookup[BEq κ]{K:W.Frag}:∀{xs:List (κ×IV)}{vs:List (κ×bA)},b9 K Y H xs vs ->(∀x,xs.lookup f=V x->∃v,vs.lookup f=V v/\RV K Y H x v)/\(xs.lookup f=Zg->vs.lookup f=Zg)
 |[],_,h=>by have e:=h;subst e;show#[λx e=>by simp at e,λ_=>rfl]
 |(k,x)::xs,_,h=>by
  let#[v,r,e,q,t]:=h;subst e;have j:=b9.lookup (f:=f) t;simp![iX];cases Z:f==k with
  |true=>show#[λy e=>by cases e;show#[v,rfl,q],λe=>by cases e]
  |false=>show j
def QP(H:Hp)(q:Str)(cv:Zu):Prop:=∃c oc vs t,cv=.ref c/\H c=V (.bw oc<|.own 0)/\oc.data=.fields vs/\vs[1]?=V (.str (q++".<locals>."++"<lambda>") t)
def kK(K:W.Frag)(H:Hp)(q:Str)(a:Z8):Prop:=(∀cdv,W.codeIn K cdv q=Zj->∃c,cdv=.ref c/\W.codeHdIn K c a=Zj) /\ ∃ps,H a=V (.hY ps)/\TriplesOk ps.toList/\∀pos cv,qG pos ps.toList=V cv->QP H q cv
def kK.mono{K:W.Frag}(D:∀b o u,H b=V (.bw o u)->H' b=V (.bw o u))(k:∀u,H a=V u->H' a=V u)(h:kK K H q a):kK K H' q a:=by let#[m,ps,e,E,G]:=h;calc#[m,ps,k _ e,E,λj C q=>?_];let#[c,F,J,t,B,I,r]:=G j C q;show#[c,F,J,t,B,D _ _ _ I,r]
def cB(a C:Z8)(tv:Zu)(d:Tc):HO:=.ext λh=>∃oe vs,h.get? a=V oe/\oe.cls=.ref C/\oe.data=.fields vs/\vs[1]?=V tv/\vs[2]?=V .none/\oe.dict=d
def XV(Y:Ts):IV->Zu->Prop|.int i,u=>∃t,u=.int i t|.ref j,u=>∃b,u=.ref b/\Y[j]?=V b|_,_=>False
def gc(Y:Ts)(H:Hp)(d:Tc)(fs:Wo):Prop:=(fs=[]/\d=Zg)\/∃f v dx od u,fs=[(f,v)]/\d=V dx/\H dx=V (.bw od<|.own 0)/\W.lookIn f od=V (V u)/\XV Y v u
def gc.mono(j:∀b o u,H b=V (.bw o u)->H' b=V (.bw o u))(h:gc Y H d fs):gc Y H' d fs:=by
 rcases h with h|⟨f,i,dx,od,t,e,q,r,z⟩
 .show .inl h
 .show .inr #[f,i,dx,od,t,e,q,j _ _ _ r,z]
def gc.Fy(n:a9 Y H Y' H')(h:gc Y H d fs):gc Y' H' d fs:=by
 rcases h with h|⟨f,v,dx,od,t,e,q,r,z,x⟩
 .show .inl h
 .calc .inr #[f,v,dx,od,t,e,q,n.ext.bf _ _ _ r,z,?_];cases v with|ref j=>let#[b,e,q]:=x;let#[#[m,rfl],_]:=n;show#[b,e,by rw[ZV (Zs.mp q).1];show q]|_=>show x
def ij(H:Hp)(tv:Zu):Prop:=tv=.none\/∃T oT ts,tv=.ref T/\H T=V (.bw oT<|.own 0)/\oT.data=.fields ts/\ts[3]?=V .none
def ij.mono(j:∀b o u,H b=V (.bw o u)->H' b=V (.bw o u))(h:ij H tv):ij H' tv:=by
 rcases h with h|⟨T,oT,ts,e,q,r⟩
 .show .inl h
 .show .inr #[T,oT,ts,e,j _ _ _ q,r]
def RO(B:aM)(K:W.Frag)(Y:Ts)(H:Hp)(a:Z8):IX->Prop|.lst xs=>∃vs,H a=V (.lst vs)/\aC K Y H xs vs|.ins c fs=>∃C dx vs,B c=V C/\H a=V (.ins C dx vs)/\b9 K Y H fs vs|.a8 kvs=>∃vs,H a=V (.dK vs)/\b9 K Y H kvs vs|.exc c fs=>∃C tv d,gc Y H d fs/\W.nsIn K Z2 c=V (V<|.ref C)/\H a=V (cB a C tv d)/\ij H tv|.tab q=>kK K H q a|.iP c fs=>∃C oe u vs,gc Y H oe.dict fs/\W.nsIn K Z2 c=V (V<|.ref C)/\H a=V (.bw oe u)/\oe.cls=.ref C/\oe.data=.fields vs/\vs[2]?=V .none
def RO.some{B:aM}{K:W.Frag}{Y:Ts}{H:Hp}{a:Z8}{o:IX}(h:RO B K Y H a o):∃u,H a=V u:=by cases o with|lst xs=>let#[j,e,_]:=h;show#[_,e]|ins c fs=>let#[_,_,j,_,e,_]:=h;show#[_,e]|a8 k=>let#[j,e,_]:=h;show#[_,e]|exc c fs=>let#[C,m,d,_,_,e,_]:=h;show#[_,e]|tab q=>let#[_,ps,e,_]:=h;show#[_,e]|iP c fs=>let#[_,_,_,_,_,_,e,_]:=h;show#[_,e]
def RO.mono{K:W.Frag}(n:a9 Y H Y' H')(k:∀u,H a=V u->H' a=V u)(h:RO B K Y H a o):RO B K Y' H' a o:=by cases o with|lst xs=>let#[j,e,r]:=h;show#[j,k _ e,aC.mono n _ _ r]|ins c fs=>let#[C,G,j,m,e,r]:=h;show#[C,G,j,m,k _ e,b9.mono n _ _ r]|a8 E=>let#[j,e,r]:=h;show#[j,k _ e,b9.mono n _ _ r]|exc c fs=>let#[C,I,d,D,m,e,r]:=h;show#[C,I,d,D.Fy n,m,k _ e,r.mono n.ext.bf]|tab q=>show kK.mono n.ext.bf k h|iP c fs=>let#[C,F,u,j,D,m,e,r]:=h;show#[C,F,u,j,D.Fy n,m,k _ e,r]
structure Rel(B:aM)(K:W.Frag)(Y:Ts)(h:IH)(H:Hp):Prop where
 len:Y.length=h.length
 nd:Y.Nodup
 at_:∀(i:Nat)(o:IX),h[i]?=V o->∃a,Y[i]?=V a/\RO B K Y H a o
section
variable{B:aM}{K:W.Frag}{Y:Ts}{h:IH}{H:Hp}
def Rel.some(R:Rel B K Y h H){i:Nat}(e:Y[i]?=V a):∃u,H a=V u:=by
 have k:i<h.length:=by rw[<-R.len];show(Zs.mp e).1
 let#[b,j,r]:=R.at_ i _<|Zd k;rw[e]at j;cases j;show r.some
theorem Rel.ik(R:Rel B K Y h H)(e:H l=Zg):l∉Y:=λk=>by
 let#[i,m,q]:=ZX.mp k;let#[u,j]:=R.some (i:=i) (a:=l)<|by simp_all
 rw[e]at j;cases j
theorem Ext.gf(e:H l=Zg):Ext H (upd H l o):=#[λb xs q=>by rw[Js<|QU q e];show q,λb o u q=>by rw[Js<|QU q e];show q]
def Rel.grow(R:Rel B K Y h H)(e:H l=Zg):Rel B K Y h (upd H l o)/\a9 Y H Y (upd H l o):=by have n:a9 Y H Y (upd H l o):=#[#[[],03],Ext.gf e];calc#[#[R.len,R.nd,λi u q=>?_],n];let#[a,k,r]:=R.at_ i u q;show#[a,k,r.mono n λw j=>by rw[Js<|QU j e];show j]
def Rel.alloc(R:Rel B K Y h H)(e:H l=Zg)(r:RO B K (Y++[l]) (upd H l o) l io):Rel B K (Y++[l]) (h++[io]) (upd H l o)/\a9 Y H (Y++[l]) (upd H l o):=by
 have n:a9 Y H (Y++[l]) (upd H l o):=#[#[[l],rfl],Ext.gf e];refine#[#[by simp[R.len],?_,λi u q=>?_],n]
 .rw[List.nodup_append];calc#[R.nd,03,λa ha b Z=>?_];have:b=l:=by simpa using Z
  subst this;rintro rfl;show R.ik e ha
 .by_cases m:i<h.length
  .rw[ZV m]at q;let#[a,C,D]:=R.at_ i u q;show#[a,n.at C,D.mono n λw k=>by rw[Js<|QU k e];show k]
  .have j:i=h.length:=by have:=(Zs.mp q).1;simp at this;show ZQ (yh this)<|ZI m
   subst j;simp at q;subst q;calc#[l,?_,r];rw[<-R.len];simp
def Rel.inj(R:Rel B K Y h H){i j:Nat}(e1:Y[i]?=V a)(k:Y[j]?=V a):i=j:=by let#[u,q1]:=Zs.mp e1;let#[J,m]:=Zs.mp k;show(ur R.nd).mp<|q1.trans m.symm
def Ext.cH(e:H l=V u)(m:oo<|H l):Ext H (upd H l o):=by
 refine#[λb xs q=>?_,λb ob w q=>?_]
 .by_cases Z:b=l
  .subst Z;rw[q]at m;show(m).elim
  .rw[Js Z];show q
 .by_cases Z:b=l
  .subst Z;rw[q]at m;show(m).elim
  .rw[Js Z];show q
def Rel.write(R:Rel B K Y h H)(e:Y[i]?=V a)(ha:H a=V u)(m:oo<|H a)(r:RO B K Y (upd H a o) a io):Rel B K Y (h.set i io) (upd H a o)/\a9 Y H Y (upd H a o):=by
 have n:a9 Y H Y (upd H a o):=#[#[[],03],Ext.cH ha m];calc#[#[by simp[R.len],R.nd,λj w q=>?_],n];by_cases k:j=i
 .subst k;have E:j<h.length:=by have:=(Zs.mp q).1;simpa using this
  rw[iV E]at q;cases q;show#[a,e,r]
 .rw[hL<|bI k]at q;let#[b,C,F]:=R.at_ j w q;calc#[b,C,F.mono n λv D=>?_];have:b≠a:=by rintro rfl;show k<|R.inj C e
  rw[Js this];show D
end
structure jU(K:W.Frag)(Y:Ts)(H:Hp)(bE:aI)(U:L2.St):Prop where
 len:bE.length=U.length
 at_:∀(j:Nat)(v:IV),bE[j]?=V (V v)->∃u,U[j]?=V (V u)/\RV K Y H v u
theorem jU.mono{K:W.Frag}(n:a9 Y H Y' H')(r:jU K Y H bE U):jU K Y' H' bE U:=#[r.len,λj v e=>let ⟨u,k,q⟩:=r.at_ j v e;#[u,k,RV.mono n _ _ q]]
def jU.set{K:W.Frag}(r:jU K Y H bE U)(i)(q:RV K Y H x v):jU K Y H (bE.set i<|V x) (U.set i<|V v):=by
 calc#[by simp[r.len],λj w e=>?_];by_cases k:j=i
 .subst k;have m:j<bE.length:=by have:=(Zs.mp e).1;simpa using this
  rw[iV m]at e;cases e;show#[v,by rw[iV<|by rw[<-r.len];show m],q]
 .rw[hL<|bI k]at e;let#[u,B,q1]:=r.at_ j w e;show#[u,by rw[hL<|bI k];show B,q1]
structure aA(B:aM)(X:Cx)(O:aZ)(Y:Ts)(bE:aI)(h:IH)(U:L2.St)(H:Hp)(s:Z1):Prop where
 inv:Inv X O U H s
 rel:Rel B X.K Y h H
 st:jU X.K Y H bE U
def RU(K:W.Frag)(Y:Ts)(H:Hp)(v:IV)(u:Zu):Prop:=∃x,RelV x u/\RV K Y H v x
theorem RU.mono{K:W.Frag}(n:a9 Y H Y' H')(r:RU K Y H v u):RU K Y' H' v u:=let ⟨x,a,b⟩:=r;#[x,a,RV.mono n _ _ b]
def jf(K:W.Frag)(Y:Ts)(H:Hp)(vs:Tu)(us:Tt):Prop:=∃xs,Vals xs us/\aC K Y H vs xs
theorem jf.mono{K:W.Frag}(n:a9 Y H Y' H')(r:jf K Y H v u):jf K Y' H' v u:=let ⟨x,a,b⟩:=r;#[x,a,aC.mono n _ _ b]
abbrev pF(α β:Type):=W.Frag->Ts->Hp->α->β->Prop
def RB:pF Bool Bool:=λ_ _ _ b c=>c=b
section
variable{α β γ δ:Type}
def Kont(B:aM)(X:Cx)(R:pF α β)(O:aZ)(Y:Ts)(bE:aI)(U:L2.St)(H:Hp)(r:Res α)(Q:β->Z1->Prop)(E:aQ):Prop:=match r with|.ok v h'=>∀u s' H' Y',aA B X O Y' bE h' U H' s'->a9 Y H Y' H'->R X.K Y' H' v u->Q u s'|.exc n h'=>∀pl a s' H' Y',aA B X (O++pl) Y' bE h' U H' s'->a9 Y H Y' H'->Y'[n]?=V a->E (.ref a) s'|.stuck=>False
variable{B:aM}{X:Cx}{R:pF α β}{R':pF γ δ}{O:aZ}{Y Y':Ts}{bE:aI}{U:L2.St}{H H':Hp}
def Kont.mono(k:Kont B X R O Y bE U H r Q E)(n:a9 Y H Y' H'):Kont B X R O Y' bE U H' r Q E:=by cases r with|ok v F=>show λu D C j N n2 q=>k u D C j N (n.trans n2) q|exc m F=>show λpl a D C j N n2 q=>k pl a D C j N (n.trans n2) q|stuck=>show k
def PX(B:aM)(X:Cx)(R:pF α β)(t:Sem β)(m:aI->IH->Res α):Prop:=∀(O:aZ)(s:Z1)(U:L2.St)(H:Hp)(Y:Ts)(bE:aI)(h:IH)(Q:β->Z1->Prop)(E:aQ),aA B X O Y bE h U H s->Kont B X R O Y bE U H (m bE h) Q E ->Zz (Z5 X.prog X.w) X.A t Q E s
def PX.run(p:PX B X R t m)(N:aA B X O Y bE h U H s) (K:Kont B X R' O Y bE U H ((m bE h).bind g) Q E) (step:∀x h1 u s1 H1 j,aA B X O j bE h1 U H1 s1->a9 Y H j H1->R X.K j H1 x u->Kont B X R' O j bE U H1 (g x h1) Q E->Q1 u s1):Zz (Z5 X.prog X.w) X.A t Q1 E s:=by calc p O s U H Y bE h Q1 E N ?_;cases e:m bE h with|ok v k=>rw[e]at K;show λu G D I F C r=>step v k u G D I F C r<|Kont.mono K C|exc n k=>rw[e]at K;show K|stuck=>rw[e]at K;show K
end
abbrev ah(B:aM)(X:Cx)(e:Expr)(m:aI->IH->Res IV):Prop:=PX B X RU (bp e X.env) m
abbrev gh(B:aM)(X:Cx)(e:Expr)(m:aI->IH->Res Bool):Prop:=PX B X RB (isTrue e X.env<|bp e X.env) m
def mf(B:aM)(X:Cx)(e:Expr)(m:aI->IH->Res Bool):Prop:=∀whole:Sem Zu,PX B X RB (isTrue e X.env whole) m
def dX(B:aM)(X:Cx)(es:Td)(m:aI->IH->Res (Tu)):Prop:=∀pos:Pos,PX B X jf (spliced<|d8 pos<|ZR es X.env) m
abbrev E1:=aI->IH->Res IV
abbrev _root_.Tv:=List E1
abbrev T1:=aI->IH->Res Bool
abbrev A1:=aI->IH->Res (Tu)
noncomputable def Ja (i:Nat):E1:=λU h=>match U[i]? with|some (V v)=>.ok v h|_=>.stuck
noncomputable def eC (v:IV):E1:=λ_ h=>.ok v h
def Jc(f:IV->IV->IH->Res IV)(a b:E1):E1:=λU h=>(a U h).bind λx h1=>(b U h1).bind λy J=>f x y J
def jg(f:IV->IH->Res IV)(a:E1):E1:=λU h=>(a U h).bind λx h1=>f x h1
def dG(a b:E1)(tr:IV->IH->Res Bool):E1:=λU h=>(a U h).bind λx h1=>(tr x h1).bind λc J=>if c then b U J else .ok x J
def qZ(a b:E1)(tr:IV->IH->Res Bool):E1:=λU h=>(a U h).bind λx h1=>(tr x h1).bind λc J=>if c then .ok x J else b U J
def kM(t:T1)(a b:E1):E1:=λU h=>(t U h).bind λc h1=>if c then a U h1 else b U h1
def QM(a b:T1):T1:=λU h=>(a U h).bind λc h1=>if c then b U h1 else .ok Zn h1
def cJ(a b:T1):T1:=λU h=>(a U h).bind λc h1=>if c then .ok Zj h1 else b U h1
def J6(a:T1):T1:=λU h=>(a U h).bind λc h1=>.ok (!c) h1
def Ji(tr:IV->IH->Res Bool)(a:E1):T1:=λU h=>(a U h).bind λx h1=>tr x h1
noncomputable def Je:A1:=λ_ h=>.ok [] h
def Jb(a:E1)(r:A1):A1:=λU h=>(a U h).bind λx h1=>(r U h1).bind λxs J=>.ok (x::xs) J
def JK(f g:IV->IV->IH->Res IV)(a b c:E1):E1:=λU h=>(a U h).bind λx h1=>(b U h1).bind λy J=>(f x y J).bind λk h3=>match k with|.bl Zj=>(c U h3).bind λz h4=>g y z h4|.bl Zn=>.ok (.bl Zn) h3|_=>.stuck
section
variable{B:aM}{X:Cx}{a b c:Expr}{ma mb mc:E1}{pos:Pos}
def dz(B:aM)(X:Cx)(f:Zu->Zu->Sem Zu)(g:IV->IV->IH->Res IV):Prop:=∀(O:aZ)(s:Z1)(U:L2.St)(H:Hp)(Y:Ts)(bE:aI)(h:IH)(x y:IV)(v u:Zu)(Q:aQ)(E:aQ),aA B X O Y bE h U H s->RU X.K Y H x v->RU X.K Y H y u ->Kont B X RU O Y bE U H (g x y h) Q E->Zz (Z5 X.prog X.w) X.A (f v u) Q E s
def vF(B:aM)(X:Cx)(f:Zu->Sem Zu)(g:IV->IH->Res IV):Prop:=∀(O:aZ)(s:Z1)(U:L2.St)(H:Hp)(Y:Ts)(bE:aI)(h:IH)(x:IV)(v:Zu)(Q:aQ)(E:aQ),aA B X O Y bE h U H s->RU X.K Y H x v ->Kont B X RU O Y bE U H (g x h) Q E->Zz (Z5 X.prog X.w) X.A (f v) Q E s
def sQ(B:aM)(X:Cx)(g:IV->IH->Res Bool):Prop:=∀(O:aZ)(s:Z1)(U:L2.St)(H:Hp)(Y:Ts)(bE:aI)(h:IH)(x:IV)(v:Zu)(Q:Bool->Z1->Prop)(E:aQ),aA B X O Y bE h U H s->RU X.K Y H x v ->Kont B X RB O Y bE U H (g x h) Q E->Zz (Z5 X.prog X.w) X.A (truthy v) Q E s
def Qn(B:aM)(X:Cx)(f:Zu)(g:Tu->IH->Res IV):Prop:=∀(O:aZ)(s:Z1)(U:L2.St)(H:Hp)(Y:Ts)(bE:aI)(h:IH)(xs:Tu)(us:Tt)(Q:aQ)(E:aQ),aA B X O Y bE h U H s->jf X.K Y H xs us ->Kont B X RU O Y bE U H (g xs h) Q E->Zz (Z5 X.prog X.w) X.A (call f us) Q E s
theorem XZ(p:PE (X.bq E) e t)(I:Inv X O U H s) (k:t U H λz H'=>∀u s',Inv X O U H' s'->RelV z u->Q u s'):Zz (Z5 X.prog X.w) X.A (bp e X.env) Q E s:=dm (p O s U H _ (I.bq E) k) (λu s' ⟨_,_,j,r,q⟩=>q u s' j.bx r) λ_ _ z=>z
theorem Qk(p:fm (X.bq E) f r)(I:Inv X O U H s)(B:RelV x v)(m:RelV y u) (k:r x y H λz H'=>∀u s',Inv X O U H' s'->RelV z u->Q u s'):Zz (Z5 X.prog X.w) X.A (f v u) Q E s:=dm (p O s U H x y v u _ (I.bq E) B m k) (λu s' ⟨_,_,j,r,q⟩=>q u s' j.bx r) λ_ _ z=>z
theorem Oe(p:zA (X.bq E) f r)(I:Inv X O U H s)(m:RelV x v) (k:r x H λz H'=>∀u s',Inv X O U H' s'->RelV z u->Q u s'):Zz (Z5 X.prog X.w) X.A (f v) Q E s:=dm (p O s U H x v _ (I.bq E) m k) (λu s' ⟨_,_,j,r,q⟩=>q u s' j.bx r) λ_ _ z=>z
theorem VX(p:sJ (X.bq E) r)(I:Inv X O U H s)(m:RelV x v) (k:r x H λz H'=>∀s',Inv X O U H' s'->Q z s'):Zz (Z5 X.prog X.w) X.A (truthy v) Q E s:=dm (p O s U H x v _ (I.bq E) m k) (λ_ s' ⟨_,j,q⟩=>q s' j.bx) λ_ _ z=>z
theorem QF(p:VF (X.bq E) f r)(I:Inv X O U H s)(m:Vals xs us) (k:r xs H λz H'=>∀u s',Inv X O U H' s'->RelV z u->Q u s'):Zz (Z5 X.prog X.w) X.A (call f us) Q E s:=dm (p O s U H xs us _ (I.bq E) m k) (λu s' ⟨_,_,j,r,q⟩=>q u s' j.bx r) λ_ _ z=>z
def Of(i)(m:X.N[i]?=V x:=by rfl)(k:pq X.env.scope x:=by assumption)(hd:(x==("__debug__":Str))=Zn:=by decide) (j:(x==("__classdict__":Str))=Zn:=by decide):ah B X (.Name x pos) (Ja i):=by
 intro O s U H Y I h Q E N K;unfold Ja at K;cases e:I[i]? with|none=>rw[e]at K;show(K).elim|some o=>cases o with|none=>rw[e]at K;show(K).elim|some v=>rw[e]at K;let#[u,J,q]:=N.st.at_ i v e;show XZ (MR m k hd j) N.inv #[u,J,λC G D F=>K C G H Y #[D,N.rel,N.st] .refl #[u,F,q]]
theorem Fz{i j pos}:ah B X (.Constant (.int i) j pos) (eC<|.int i):=λ_ _ _ H Y _ _ _ E N K=>XZ (MS) N.inv λm C u k=>K m C H Y #[u,N.rel,N.st] .refl #[_,k,rfl]
theorem sS{i j pos}:ah B X (.Constant (.bool i) j pos) (eC<|.bl i):=λ_ _ _ H Y _ _ _ E N K=>XZ (MT) N.inv λm C u k=>K m C H Y #[u,N.rel,N.st] .refl #[_,k,rfl]
theorem FA{j pos}:ah B X (.Constant .none j pos) (eC .af):=λ_ _ _ H Y _ _ _ E N K=>XZ (MU) N.inv λm C u k=>K m C H Y #[u,N.rel,N.st] .refl #[_,k,rfl]
theorem FC{i j pos}:ah B X (.Constant (.str i) j pos) (eC<|.str i):=λ_ _ _ H Y _ _ _ E N K=>XZ (MV) N.inv λm C u k=>K m C H Y #[u,N.rel,N.st] .refl #[_,k,rfl]
theorem Og(k:Gl X x)(hm:X.mg x=V u)(r:RelV v u)(q:∀Y H,RV X.K Y H iv v)(hd:(x==("__debug__":Str))=Zn:=by decide):ah B X (.Name x pos) (eC iv):=λ_ _ _ H Y _ _ _ E N K=>XZ (MW k hm r hd) N.inv λm D C j=>K m D H Y #[C,N.rel,N.st] .refl #[_,j,q _ _]
theorem Oh(ho:dz B X (fy op) f)(ha:ah B X a ma)(Z:ah B X b mb):ah B X (.BinOp a op b pos) (Jc f ma mb):=λO s U H Y I h Q E N K=>wpAny_BinOp<|ha.run N K λx W u R P S L n1 M C=>Z.run L C λy J w F G D k n2 j m=>ho O F U G D I J x y u w Q E k (M.mono n2) j m
theorem zR(ho:vF B X (unaryOp op) f)(ha:ah B X a ma):ah B X (.UnaryOp op a pos) (jg f ma):=λO s U H Y C h Q E N K=>UnaryOp_<|ha.run N K λx G u m k D F n1 I j=>ho O m U k D C G x u Q E F I j
theorem Oi(ho:dz B X (d6 op) f)(ha:ah B X a ma)(Z:ah B X b mb)(hm:qD op b=Zn:=by assumption):ah B X (.Compare a [op] [b] pos) (Jc f ma mb):=λO s U H Y I h Q E N K=>wpAny_Compare1 (ha.run N K λx W u R P S L n1 M C=>Z.run L C λy J w F G D k n2 j m=>ho O F U G D I J x y u w Q E k (M.mono n2) j m) hm
noncomputable def aR:IV->IH->Res Bool|.bl b,h=>.ok b h|_,_=>.stuck
def Kont.aR{r:Res IV}(K:Kont B X RB O Y bE U H (r.bind aR) Q E):Kont B X RU O Y bE U H r (λv s=>Zz (Z5 X.prog X.w) X.A (truthy v) Q E s) E:=by
 cases r with|exc n h=>show K|stuck=>show K|ok v h=>intro u m j C N n q;let#[x,k,q]:=q;cases v with|bl b=>have e:x=.bl b:=q;subst e;cases k;show oS<|K b m j C N n rfl|_=>show Zf K
def Res.c6(r:Res α)(f)(g:β->IH->Res γ):(r.bind f).bind g=r.bind λx h=>(f x h).bind g:=by cases r<;>rfl
theorem Oj(ho:dz B X (d6 op) f)(ha:ah B X a ma)(Z:ah B X b mb)(hm:qD op b=Zn:=by assumption):gh B X (.Compare a [op] [b] pos) (Ji aR<|Jc f ma mb):=λO s U H Y j h Q E N K=>by
  have P:Kont B X RB O Y j U H ((ma j h).bind λx k=>(mb j k).bind λy J=>(f x y J).bind aR) Q E:=by unfold Ji Jc at K;simp![Res.c6]at K;show K
  show wpAny_isTrue_Compare1 (ha.run N P λx k u s1 S W D n1 R L=>Z.run D L λy J w m C M G n2 F I=>ho O m U C M j J x y u w _ E G (R.mono n2) F<|Kont.aR I) hm
theorem FD(C:sQ B X tr)(ha:ah B X a ma)(F:∀j,isTrue a X.env j=(do let v<-j;nX a.pos;jx [v] (truthy v)):=by intro _;rfl):gh B X a (Ji tr ma):=λO s U H Y G h Q E N K=>isTrue_plain (ha.run N K λx L u D m I J n1 M k=>C O D U m I G L x u Q E J M k)<|F _
variable{rest:Td}{ta tb:T1}
theorem Ol(ha:gh B X a ta):mf B X (.BoolOp .And [a] pos) ta:=λJ O s U H Y C h Q E N K=>by
 calc isTrue_and<|ha O s U H Y C h _ E N ?_;cases e:ta C h with
 |ok v G=>rw[e]at K;intro u k m D j F r;have I:=r;subst I;cases u with|true=>show isTrue_and_nil<|K Zj k m D j F rfl|false=>show K Zn k m D j F rfl
 |exc n G=>rw[e]at K;show K
 |stuck=>rw[e]at K;show K
theorem Om(ha:gh B X a ta):mf B X (.BoolOp .Or [a] pos) ta:=λJ O s U H Y C h Q E N K=>by
 calc isTrue_or<|ha O s U H Y C h _ E N ?_;cases e:ta C h with
 |ok v G=>rw[e]at K;intro u k m D j F r;have I:=r;subst I;cases u with|false=>show isTrue_or_nil<|K Zn k m D j F rfl|true=>show K Zj k m D j F rfl
 |exc n G=>rw[e]at K;show K
 |stuck=>rw[e]at K;show K
theorem Oo(ha:gh B X a ta)(Z:mf B X (.BoolOp .And (b::rest) pos) tb):mf B X (.BoolOp .And (a::b::rest) pos) (QM ta tb):=λF O s U H Y I h Q E N K=>
 isTrue_and (ha.run N K λc J u m k C D n1 L j=>by have G:=L;subst G;cases u with|true=>show Z F O m U k C I J Q E D j|false=>show j Zn m k C D .refl rfl)
theorem Oq(ha:gh B X a ta)(Z:mf B X (.BoolOp .Or (b::rest) pos) tb):mf B X (.BoolOp .Or (a::b::rest) pos) (cJ ta tb):=λF O s U H Y I h Q E N K=>
 isTrue_or (ha.run N K λc J u m k C D n1 L j=>by have G:=L;subst G;cases u with|false=>show Z F O m U k C I J Q E D j|true=>show j Zj m k C D .refl rfl)
theorem mf.t(h:mf B X a ta):gh B X a ta:=h _
theorem Ot(ha:gh B X a ta):gh B X (.UnaryOp .Not a pos) (J6 ta):=λO s U H Y I h Q E N K=>
 isTrue_not (ha.run N K λc J u C k D F n1 G j=>by have m:=G;subst m;show j (!u) C k D F .refl rfl)
theorem FE{op}(h:ah B X a ma):ah B X (.BoolOp op [a] pos) ma:=λO s U H Y k j Q E N K=>BoolOp_one<|h O s U H Y k j Q E N K
theorem Ou(ht:sQ B X tr)(ha:ah B X a ma)(Z:ah B X (.BoolOp .And (b::rest) pos) mb):ah B X (.BoolOp .And (a::b::rest) pos) (dG ma mb tr):=λO s U H Y C h Q E N K=>
 BoolOp_and (ha.run N K λx I u s1 M R S n1 L j=>by
  calc ht O s1 U M R C I x u _ E S L ?_;cases e:tr x I with
  |ok c J=>rw[e]at j;intro d k m G F n2 W;have P:=W;subst P;have D:=Kont.mono j n2;cases d with|true=>show Z O k U m G C J Q E F D|false=>show D u k m G F .refl<|L.mono n2
  |exc n h'=>rw[e]at j;show j
  |stuck=>rw[e]at j;show j)
theorem zS(ht:sQ B X tr)(ha:ah B X a ma)(Z:ah B X (.BoolOp .Or (b::rest) pos) mb):ah B X (.BoolOp .Or (a::b::rest) pos) (qZ ma mb tr):=λO s U H Y C h Q E N K=>
 BoolOp_or (ha.run N K λx I u s1 M R S n1 L j=>by
  calc ht O s1 U M R C I x u _ E S L ?_;cases e:tr x I with
  |ok c J=>rw[e]at j;intro d k m G F n2 W;have P:=W;subst P;have D:=Kont.mono j n2;cases d with|false=>show Z O k U m G C J Q E F D|true=>show D u k m G F .refl<|L.mono n2
  |exc n h'=>rw[e]at j;show j
  |stuck=>rw[e]at j;show j)
def YB(tr:IV->IH->Res Bool):IV->IH->Res IV:=λx h=>(tr x h).bind λc h1=>.ok (.bl (!c)) h1
theorem Ov(D:sQ B X tr):vF B X (unaryOp .Not) (YB tr):=λO s U H Y G h x v Q E N r K=>by calc not_of<|D O s U H Y G h x v _ E N r ?_;unfold YB at K;cases e:tr x h with|ok c J=>rw[e]at K;intro d u C m k n2 j;have F:=j;subst F;show K _ u C m k n2 #[.bl (!d),rfl,rfl]|exc n I=>rw[e]at K;show K|stuck=>rw[e]at K;show K
theorem Ow{C:T1}(J:gh B X t C)(ha:ah B X a ma)(Z:ah B X b mb):ah B X (.IfExp t a b pos) (kM C ma mb):=λO s U H Y D h Q E N K=>
 wpAny_IfExp (J.run N K λc I u m k F G n1 M j=>by have L:=M;subst L;cases u with|true=>show ha O m U k F D I Q E G j|false=>show Z O m U k F D I Q E G j)
theorem Ox(ho:dz B X (d6 op) f)(m:dz B X (d6 op') g)(ha:ah B X a ma)(Z:ah B X b mb)(R:ah B X c mc) (hm:qI [op,op'] [b,c]=Zn:=by with_unfolding_all rfl):ah B X (.Compare a [op,op'] [b,c] pos) (JK f g ma mb mc):=λO s U H Y D h Q E N K=>
 Compare_chain (ha.run N K λx h1 u s1 H1 W1 N1 n1 r1 K1=>chain_link (Z.run N1 K1 λy J w L M U2 N2 n2 G j=>by
  calc ho O L U M U2 D J x y u w _ E N2 (r1.mono n2) G ?_;cases e:f x y J with|exc n h'=>rw[e]at j;show j|stuck=>rw[e]at j;show j|ok k h3=>
   rw[e]at j;intro d s3 H3 U3 C I r3;let#[z,rz,q]:=r3;cases k with
   |bl k=>have e':=q;subst e';cases rz;calc oS ?_;have F:=Kont.mono j I;cases k with|false=>show ite_ff<|F _ s3 H3 U3 C .refl #[.bl Zn,rfl,rfl]|true=>show ite_tt<|chain_last<|R.run C F λz h4 w' s4 S U4 N4 W P K4=>m O s4 U S U4 D h4 y z w w' Q E N4 ((G.mono I).mono W) P K4
   |_=>show(j).elim)) hm
theorem Oy(ho:dz B X (d6 op) f)(F:dz B X (d6 op') g)(ha:ah B X a ma)(Z:ah B X b mb)(hc:ah B X c mc) (hm:qI [op,op'] [b,c]=Zn:=by with_unfolding_all rfl):gh B X (.Compare a [op,op'] [b,c] pos) (Ji aR<|JK f g ma mb mc):=λO s U H Y j h Q E N K=>by
 have K':Kont B X RB O Y j U H ((ma j h).bind λx W=>(mb j W).bind λy J=>(f x y J).bind λk D=>(match k with|.bl Zj=>(mc j D).bind λz m=>g y z m|.bl Zn=>.ok (.bl Zn) D|_=>.stuck:Res IV).bind aR) Q E:=by unfold Ji JK at K;simp![Res.c6]at K;show K
 calc isTrue_chain (ha.run N K' λx W u s1 H1 W1 N1 n1 r1 K1=>test_link<|Z.run N1 K1 λy J w s2 H2 U2 N2 n2 M C=>?_) hm;calc ho O s2 U H2 U2 j J x y u w _ E N2 (r1.mono n2) M ?_;cases e:f x y J with|exc n h'=>rw[e]at C;show C|stuck=>rw[e]at C;show C|ok k D=>
  rw[e]at C;intro d s3 P S I R r3;let#[z,rz,q]:=r3;cases k with
  |bl k=>
   have e':=q;subst e';cases rz;calc oS ?_;have L:=Kont.mono (r:=(match IV.bl k with|.bl Zj=>(mc j D).bind λz m=>g y z m|.bl Zn=>.ok (.bl Zn) D|_=>.stuck:Res IV).bind aR) C R;cases k with|false=>show ite_ff<|L _ s3 P S I .refl rfl|true=>
    have G:Kont B X RB O S j U P ((mc j D).bind λz m=>(g y z m).bind aR) Q E:=by have:=L;rw[Res.c6]at this;show this
    show ite_tt<|test_last<|hc.run I G λz m w' s4 H4 U4 N4 n4 r4 K4=>F O s4 U H4 U4 j m y z w w' _ E N4 ((M.mono R).mono n4) r4<|Kont.aR K4
  |_=>show(C).elim
variable{es:Td}{mr:A1}
theorem jf.nil{K:W.Frag}:jf K Y H [] []:=#[[],.nil,rfl]
theorem jf.cons{K:W.Frag}{Y:Ts}{H:Hp}{x:IV}{u:Zu}{xs:Tu}{us:Tt}(a:RU K Y H x u)(b:jf K Y H xs us):jf K Y H (x::xs) (u::us):=let ⟨v,r,q⟩:=a;let ⟨j,m,k⟩:=b;#[v::j,.cons r m,v,j,rfl,q,k]
theorem Vc:dX B X [] Je:=λ_ O s U H Y j h Q E N K=>Calls.spliced_nil<|K [] s H Y N .refl .nil
def Qy(ha:ah B X a ma)(C:dX B X es mr)(hs:ZR (a::es) X.env=(Zn,bp a X.env)::ZR es X.env:=by rfl):dX B X (a::es) (Jb ma mr):=by intro j O s U H Y W h Q E N K;rw[hs];show ze<|ha.run N K λx h1 u s1 S Z D n1 P L=>(C j).run D L λxs J R k m M G n2 F I=>I _ k m M G .refl<|.cons (P.mono n2) F
end
noncomputable def Jr:IV->IV->IH->Res IV
 |.int i,.int j,h=>.ok (.int<|i+j) h
 |.str x,.str y,h=>if x.length+y.length<=sizeLine then .ok (.str<|x++y) h else .stuck
 |.ref i,.ref j,h=>match h[i]?,h[j]? with
  |some (.lst xs),V (.lst ys)=>if xs.length+ys.length<=sizeLine then .ok (.ref h.length) (h++[.lst<|xs++ys])else .stuck
  |_,_=>.stuck
 |.tup xs,.tup ys,h=>if xs≠[]/\ys≠[]/\xs.length+ys.length<=sizeLine then .ok (.tup<|xs++ys) h else .stuck
 |_,_,_=>.stuck
noncomputable def Qh:IV->IV->IH->Res IV|.int i,.int j,h=>.ok (.int<|i-j) h|_,_,_=>.stuck
def Vq(i j:Int):Prop:=i.natAbs<2^64\/j.natAbs<2^64\/(i.natAbs.log2<1048576/\j.natAbs.log2<1048576)
instance (i j:Int):Decidable (Vq i j):=by unfold Vq;show inferInstance
noncomputable def XI:IV->IV->IH->Res IV
 |.int i,.int j,h=>if Vq i j then .ok (.int<|i*j) h else .stuck
 |.ref i,.int k,h=>match h[i]? with
  |some (.lst xs)=>if -(2^63)<=k/\k<2^63/\xs.length*k.toNat<=sizeLine then .ok (.ref h.length) (h++[.lst (fw k.toNat xs).flatten])else .stuck
  |_=>.stuck
 |_,_,_=>.stuck
noncomputable def JW:IV->IV->IH->Res IV|.int i,.int j,h=>if 0<j/\j.natAbs.log2<9000 then .ok (.int<|i/j) h else .stuck|_,_,_=>.stuck
noncomputable def JC:IV->IV->IH->Res IV|.int i,.int j,h=>if 0<j then .ok (.int<|i%j) h else .stuck|_,_,_=>.stuck
noncomputable def JQ:IV->IV->IH->Res IV|.int i,.int j,h=>if 0<=j/\j<=1000000/\i.natAbs<2^64 then .ok (.int<|i^j.toNat) h else .stuck|_,_,_=>.stuck
noncomputable def vG:IV->IH->Res IV|.int i,h=>.ok (.int (-i)) h|_,_=>.stuck
section
variable{B:aM}{X:Cx}
theorem aD(N:aA B X O Y bE h U H s)(K:Kont B X RU O Y bE U H (.ok v h) Q E) (q:RV X.K Y H v w):∀u s',Inv X O U H s'->RelV w u->Q u s':=λu s' I r=>K u s' H Y #[I,N.rel,N.st] .refl #[w,r,q]
theorem fB(N:aA B X O Y bE h U H s) (K:Kont B X RU O Y bE U H (.ok (.ref h.length)<|h++[io]) Q E)(l)(e:H l=Zg)(r:RO B X.K (Y++[l]) (upd H l o) l io):∀u s',Inv X O U (upd H l o) s'->RelV (.ref l) u->Q u s':=λu s' I j=>by let#[R,n]:=N.rel.alloc e r;calc K u s' _ _ #[I,R,N.st.mono n] n #[.ref l,j,l,rfl,?_];rw[<-N.rel.len];simp
theorem mU(N:aA B X O Y bE h U H s) (K:Kont B X RU O Y bE U H (.ok (.tup xs) h) Q E)(l)(e:H l=Zg)(r:aC X.K Y H xs vs):∀u s',Inv X O U (upd H l<|.tup vs) s'->RelV (.ref l) u->Q u s':=λu s' I j=>by let#[R,n]:=N.rel.grow e;show K u s' _ _ #[I,R,N.st.mono n] n #[.ref l,j,l,vs,rfl,eu.of J0,aC.mono n _ _ r]
theorem aC.new{K:W.Frag}(e:H l=Zg)(r:aC K Y H xs vs):aC K (Y++[l]) (upd H l o) xs vs:=aC.mono #[#[[l],rfl],Ext.gf e] _ _ r
def aA.at(N:aA B X O Y bE h U H s){i:Nat}(e:h[i]?=V o)(ha:Y[i]?=V a):RO B X.K Y H a o:=by let#[b,j,r]:=N.rel.at_ i o e;rw[ha]at j;cases j;show r
def Oz:dz B X (fy .Add) Jr:=by
 intro O s U H Y bE h x y v u Q E N D C K;let#[xv,D,G]:=D;let#[yv,C,R]:=C;cases x with
 |int i=>cases y with|int j=>have k:=G;have m:=R;subst k m;show Qk (M5) N.inv D C #[i,j,rfl,rfl,aD N K rfl]|_=>show(K).elim
 |str i=>
  cases y with
  |str j=>
   have k:=G;have m:=R;subst k m;dsimp only[Jr]at K;split at K
   .rename_i F;show Qk (Nn) N.inv D C #[i,j,rfl,rfl,F,aD N K rfl]
   .show(K).elim
  |_=>show(K).elim
 |tup xs=>
  cases y with
  |tup ys=>
   let#[a,L,k,sa,S]:=G;let#[b,I,m,sb,W]:=R;subst k m;dsimp only[Jr]at K;split at K
   .rename_i F;let#[h1,J,h3]:=F;have n1:L≠[]:=λz=>h1 (by have:=S.length;rw[z]at this;show ui this.symm)
    have n2:I≠[]:=λz=>J (by have:=W.length;rw[z]at this;show ui this.symm)
    show Qk (NH) N.inv D C #[a,b,L,I,rfl,rfl,sa,sb,n1,by rw[S.length,W.length];show h3,λz=>absurd z n2,λ_ p M=>mU N K p M<|S.append W]
   .show(K).elim
  |_=>show(K).elim
 |ref i=>
  cases y with
  |ref j=>
   let#[a,k,ha]:=G;let#[b,m,Z]:=R;subst k m;dsimp only[Jr]at K;cases P:h[i]? with|none=>rw[P]at K;show(K).elim|some oi=>
    cases hj:h[j]? with|none=>rw[P,hj]at K;cases oi<;>show(K).elim|some oj=>
     rw[P,hj]at K;cases oi with
     |lst xs=>
      cases oj with
      |lst ys=>
       dsimp only at K;split at K
       .rename_i F;let#[L,k,r1]:=N.at P ha;let#[I,m,r2]:=N.at hj Z;show Qk (NT) N.inv D C #[a,b,L,I,rfl,rfl,k,m,by rw[r1.length,r2.length];show F,λp M=>fB N K p M #[_,J0,aC.new M<|r1.append r2]]
       .show(K).elim
      |_=>show(K).elim
     |_=>show(K).elim
  |_=>show(K).elim
 |_=>cases y<;>show(K).elim
def OA:dz B X (fy .Sub) Qh:=by
 intro O s U H Y L h x y v u Q E N m k K;let#[I,m,C]:=m;let#[J,k,F]:=k;cases x with
 |int i=>cases y with|int j=>have D:=C;have G:=F;subst D G;show Qk (M7) N.inv m k #[i,j,rfl,rfl,aD N K rfl]|_=>show(K).elim
 |_=>cases y<;>show(K).elim
def Vq.ok(h:Vq i j):IntMulOk i j:=by
 rcases h with h|h|⟨h1,J⟩
 .show .of_left<|intBits_le_64 00 00
 .show .of_right<|intBits_le_64 00 00
 .refine .of_bits ?_ ?_
  .unfold Builtin.Int.intBits;split
   .show ZW _
   .assumption
  .unfold Builtin.Int.intBits;split
   .show ZW _
   .assumption
theorem OB:fm X (fy .Mult) (rI Vq λi j=>.int<|i*j):=vv λ_ _ _ _ _ _ _ k q=>mul_int q k.ok
def OC:dz B X (fy .Mult) XI:=by
 intro O s U H Y bE h x y v u Q E N F D K;let#[xv,F,J]:=F;let#[yv,D,P]:=D;cases x with
 |int i=>
  cases y with
  |int j=>
   have C:=J;have G:=P;subst C G;dsimp only[XI]at K;split at K
   .rename_i m;show Qk (OB) N.inv F D #[i,j,rfl,rfl,m,aD N K rfl]
   .show(K).elim
  |_=>show(K).elim
 |ref i=>
  cases y with
  |int k=>
   let#[a,C,ha]:=J;have G:=P;subst C G;dsimp only[XI]at K;cases I:h[i]? with|none=>rw[I]at K;show(K).elim|some W=>
    rw[I]at K;cases W with
    |lst xs=>
     dsimp only at K;split at K
     .rename_i m;let#[L,C,R]:=N.at I ha;have S:∀n:Nat,aC X.K Y H (fw n xs).flatten (fw n L).flatten:=λn=>by induction n with|zero=>show rfl|succ n Z=>show R.append Z
      show Qk (NV) N.inv F D #[a,k,L,rfl,rfl,C,m.1,m.2.1,by rw[R.length];show m.2.2,λp M=>fB N K p M #[_,J0,aC.new M<|S _]]
     .show(K).elim
    |_=>show(K).elim
  |_=>show(K).elim
 |_=>cases y<;>show(K).elim
theorem OD:fm X (fy .FloorDiv) (rI (λ_ j=>0<j/\j.natAbs.log2<9000) λi j=>.int<|i/j):=vv λi j _ _ _ _ _ k q=>by show floordiv_int (gQ k.1) (by rw[Int.fdiv_eq_ediv_of_nonneg i<|ZG k.1];show q)<|.inl<|PyProof.noPylong_of_log2 k.2
def OE:dz B X (fy .FloorDiv) JW:=by
 intro O s U H Y M h x y v u Q E N m k K;let#[J,m,D]:=m;let#[L,k,G]:=k;cases x with
 |int i=>
  cases y with
  |int j=>
   have F:=D;have I:=G;subst F I;dsimp only[JW]at K;split at K
   .rename_i C;show Qk (OD) N.inv m k #[i,j,rfl,rfl,C,aD N K rfl]
   .show(K).elim
  |_=>show(K).elim
 |_=>cases y<;>show(K).elim
def OF:dz B X (fy .Mod) JC:=by
 intro O s U H Y M h x y v u Q E N m k K;let#[J,m,D]:=m;let#[L,k,G]:=k;cases x with
 |int i=>
  cases y with
  |int j=>
   have F:=D;have I:=G;subst F I;dsimp only[JC]at K;split at K
   .rename_i C;show Qk (M8) N.inv m k #[i,j,rfl,rfl,C,aD N K rfl]
   .show(K).elim
  |_=>show(K).elim
 |_=>cases y<;>show(K).elim
def OG:dz B X (fy .Pow) JQ:=by
 intro O s U H Y M h x y v u Q E N m k K;let#[J,m,D]:=m;let#[L,k,G]:=k;cases x with
 |int i=>
  cases y with
  |int j=>
   have F:=D;have I:=G;subst F I;dsimp only[JQ]at K;split at K
   .rename_i C;show Qk (M9) N.inv m k #[i,j,rfl,rfl,C,aD N K rfl]
   .show(K).elim
  |_=>show(K).elim
 |_=>cases y<;>show(K).elim
def OH:vF B X (unaryOp .USub) vG:=by intro O s U H Y C h x v Q E N j K;let#[u,j,k]:=j;cases x with|int i=>have m:=k;subst m;show Oe (Nb) N.inv j #[i,rfl,aD N K rfl]|_=>show(K).elim
noncomputable def gi:IV->IV->IH->Res IV|.int i,.int j,h=>.ok (.bl<|decide (i<j)) h|.str x,.str y,h=>.ok (.bl<|decide (x.cps.toList<y.cps.toList)) h|_,_,_=>.stuck
noncomputable def c7:IV->IV->IH->Res IV|.int i,.int j,h=>.ok (.bl<|decide (i<=j)) h|.str x,.str y,h=>.ok (.bl (!decide (y.cps.toList<x.cps.toList))) h|_,_,_=>.stuck
noncomputable def fE:IV->IV->IH->Res IV|.int i,.int j,h=>.ok (.bl<|decide (j<i)) h|_,_,_=>.stuck
noncomputable def q7:IV->IV->IH->Res IV|.int i,.int j,h=>.ok (.bl<|decide (j<=i)) h|_,_,_=>.stuck
def zT:dz B X (d6 .Lt) gi:=by
 intro O s U H Y L h x y v u Q E N m k K;let#[I,m,F]:=m;let#[J,k,G]:=k;cases x with
 |int i=>cases y with|int j=>have C:=F;have D:=G;subst C D;show Qk (Nh) N.inv m k #[i,j,rfl,rfl,aD N K rfl]|_=>show Zf K
 |str i=>cases y with|str j=>have C:=F;have D:=G;subst C D;show Qk (Nl) N.inv m k #[i,j,rfl,rfl,aD N K rfl]|_=>show(K).elim
 |_=>cases y<;>show(K).elim
def zU:dz B X (d6 .LtE) c7:=by
 intro O s U H Y M h x y v u Q E N m k K;let#[J,m,F]:=m;let#[L,k,G]:=k;cases x with
 |int i=>cases y with|int j=>have C:=F;have D:=G;subst C D;show Qk (Ni) N.inv m k #[i,j,rfl,rfl,aD N K rfl]|_=>show(K).elim
 |str i=>cases y with|str j=>have C:=F;have D:=G;subst C D;let#[t,rfl]:=m;let#[I,rfl]:=k;show PySem.P.le_str<|aD N K rfl _ s N.inv rfl|_=>show(K).elim
 |_=>cases y<;>show(K).elim
def zV:dz B X (d6 .Gt) fE:=by
 intro O s U H Y L h x y v u Q E N m k K;let#[I,m,C]:=m;let#[J,k,F]:=k;cases x with
 |int i=>cases y with|int j=>have D:=C;have G:=F;subst D G;show Qk (Nj) N.inv m k #[i,j,rfl,rfl,aD N K rfl]|_=>show(K).elim
 |_=>cases y<;>show(K).elim
def zW:dz B X (d6 .GtE) q7:=by
 intro O s U H Y L h x y v u Q E N m k K;let#[I,m,C]:=m;let#[J,k,F]:=k;cases x with
 |int i=>cases y with|int j=>have D:=C;have G:=F;subst D G;show Qk (Nk) N.inv m k #[i,j,rfl,rfl,aD N K rfl]|_=>show(K).elim
 |_=>cases y<;>show(K).elim
noncomputable def bG:IV->IH->Res Bool|.af,h=>.ok Zn h|.bl b,h=>.ok b h|.int i,h=>.ok (i != 0) h|.str x,h=>if x.length<=sizeLine then .ok ((x.length:Int) != 0) h else .stuck|.tup xs,h=>.ok (!xs.isEmpty) h|.cG xs,h=>.ok (!xs.isEmpty) h|.ref i,h=>match h[i]? with|some (.lst xs)=>.ok (!xs.isEmpty) h|some (.a8 kvs)=>.ok (!kvs.isEmpty) h|_=>.stuck
def aC.empty{K:W.Frag}(r:aC K Y H xs vs):vs.isEmpty=xs.isEmpty:=by have:=r.length;cases xs<;>cases vs<;>simp_all
def b9.empty{K:W.Frag}(r:b9 K Y H xs vs):vs.isEmpty=xs.isEmpty:=by have:=r.length;cases xs<;>cases vs<;>simp_all
theorem il(N:aA B X O Y bE h U H s)(K:Kont B X RB O Y bE U H (.ok c h) Q E):∀s',Inv X O U H s'->Q c s':=λs' I=>K c s' H Y #[I,N.rel,N.st] .refl rfl
def YN:sQ B X bG:=by
 intro O s U H Y M h x v Q E N k K;let#[L,k,m]:=k;cases x with
 |af=>have j:=m;subst j;show VX (VV) N.inv k #[_,rfl,il N K]
 |bl b=>have j:=m;subst j;show VX (VV) N.inv k #[_,rfl,il N K]
 |int i=>have j:=m;subst j;show VX (VV) N.inv k #[_,rfl,il N K]
 |str y=>
  have j:=m;subst j;dsimp only[bG]at K;split at K
  .rename_i I;show VX (VV) N.inv k #[_,#[I,rfl],il N K]
  .show(K).elim
 |tup xs=>let#[a,u,j,sa,D]:=m;subst j;show VX (VV) N.inv k #[!xs.isEmpty,.inr (.inl #[u,sa,by rw[D.empty]]),il N K]
 |cG xs=>let#[a,u,j,sa,D]:=m;subst j;show VX (VV) N.inv k #[!xs.isEmpty,.inl #[u,sa.sq,by rw[D.empty]],il N K]
 |ref i=>
  let#[a,j,ha]:=m;subst j;dsimp only[bG]at K;cases C:h[i]? with|none=>rw[C]at K;show(K).elim|some J=>rw[C]at K;cases J with|lst xs=>let#[u,j,G]:=N.at C ha;show VX (VV) N.inv k #[!xs.isEmpty,.inl #[u,cf.of j,by rw[G.empty]],il N K]|a8 F=>let#[u,j,G]:=N.at C ha;show VX (VV) N.inv k #[!F.isEmpty,.inr (.inr #[u,j,by rw[G.empty]]),il N K]|_=>show(K).elim
def bN(a:A1):E1:=λU h=>(a U h).bind λxs h1=>if xs.length<=sizeLine then .ok (.tup xs) h1 else .stuck
def J9(a:A1):E1:=λU h=>(a U h).bind λxs h1=>if xs.length<=sizeLine then .ok (.ref h1.length) (h1++[.lst xs])else .stuck
variable{es:Td}{mr:A1}{pos:Pos}
theorem OI{x1}(J:dX B X es mr):ah B X (.Tuple es x1 pos) (bN mr):=λO s U H Y S h Q E N K=>by
 refine wpAny_Tuple_spliced<|(J pos).run N K λxs Z G L R W k n1 P C=>?_
 split at C
 .rename_i m;let#[vs,D,F]:=P;have I:=D.length;have j:=F.length;have M:=k.inv.az.fresh<|Zl _;calc#[by rw[<-I,j];show m,?_];show mU k C L.heap.objs.size M F _ _ (k.inv.laid (λb u e=>Zh _ e) (Zl _) #[by rw[j];show m,G,D,#[_,Zw _ rfl,rfl,_,rfl]]) rfl
 .trivial
theorem OJ(L:dX B X es mr):ah B X (.List es pos) (J9 mr):=λO s U H Y S h Q E N K=>by
 refine wpAny_List_spliced<|(L pos).run N K λxs Z I M R W k n1 P C=>?_
 split at C
 .rename_i m;let#[vs,D,F]:=P;have J:=D.length;have j:=F.length;have G:=k.inv.az.fresh<|Zl _;calc#[by rw[<-J,j];show m,?_];show fB k C M.heap.objs.size G #[_,J0,aC.new G F] _ _ (k.inv.laid (λb u e=>Zh _ e) (Zl _) #[by rw[j];show m,I,0,D,Zw _ rfl]) rfl
 .trivial
end
section
variable{prog:cz}{w:bL}{A:cu}{E:aQ}{s:Z1}
theorem FF(k:t≠it):∀(n i:Nat)(s:Z1)(Q:Tt->Z1->Prop),s.heap.IsListIter it t i->s.heap.IsList t items->i+n<=items.size ->(∀h',h'.IsListIter it t (i+n)->mJ it s.heap h'->Q ((items.toList.drop i).take n) {s with heap:=h'})->Zz (Z5 prog w) A (draw (.ref it) n) Q E s
 |0,i,s,Q,j,_,_,hQ=>by show Zp<|by simpa using hQ s.heap j<|Heap.SameBut.refl ..
 |n+1,i,s,Q,j,ht,hle,hQ=>by
  have m:i<items.size:=kr (Zk _ _) 06;refine Ze<|yE j ht (x:=items[i]) 03 λh₁ hit₁ hs₁=>?_
  refine Ze<|eF<|FF k n (i+1) _ _ hit₁ (ht.extBut hs₁.extBut k) 05 λh₂ hit₂ hs₂=>Zp ?_
  have hd:items.toList.drop i=items[i]::items.toList.drop (i+1):=by simp[oN,m]
  have:=hQ h₂ 05<|hs₁.trans hs₂;rw[hd]at this;show this
def OL(u:aK A s.heap)(m:s.heap.IsList t items)
  (B:∀h',f6 s.heap.objs.size s.heap h'->Q items.toList {s with heap:=h'}):Zz (Z5 prog w) A (uK (.ref t) items.size Zg) Q E s:=by
 have j:t≠s.heap.objs.size:=by let#[o,ho,_]:=m;show Zv<|Z0 ho
 unfold uK;refine Ze ?_
 .unfold notIterableAtAll;calc Ze<|wpAny_specialOf m.typeIs slot_list_iter.lookup ?_;calc Zp ?_;simp![lV,if_false];calc Ze<|eF<|nM m ?_;calc Ze (eF<|FF j items.size 0 _ _ #[_,Zw _ rfl,rfl,rfl] (m.push _) (by(rw[nE];show Zl _)) λh₁ hit₁ hs₁=>?_);have k:List.take items.size (List.drop 0 items.toList)=items.toList:=by rw[List.drop_zero];show mC 03
  rw[k];rw[if_neg 03];have ht₁:h₁.IsList t items:=(m.push _).extBut hs₁.extBut j;refine Ze<|eF<|zi ((u.mono λb o e=>Zh _ e).but hs₁.extBut (Zw _ rfl) rfl 03) hit₁ ht₁ 03 λh₂ he₂=>?_
  simp![Option.isSome_none,lV,if_false];calc Zp<|B h₂ λb o Z e=>he₂ b o Z<|hs₁.extBut b o Z<|Zh _ e
def OM{x1}(j:aK A s.heap)(k:s.heap.IsList t items) (hn:(fQ elts env).length=items.size)(hstar:(fQ elts env).findIdx? (·.1)=Zg) (h:∀h',f6 s.heap.objs.size s.heap h'->Zz (Z5 prog w) A (uH ((fQ elts env).map (·.2)) items.toList) Q E {s with heap:=h'}):Zz (Z5 prog w) A (lR (.Tuple elts x1 pos) env<|.ref t) Q E s:=by rw[assign_Tuple];calc Ze<|jM ?_;unfold unpack;rw[hn,hstar];show Ze<|eF<|OL j k h
end
abbrev S1:=aI->IH->bU
structure eA(L:Z8)(fs:Ts)(e:Z8)(h h3:bc):Prop where
 ex:∃oe vs T ts,h.get? e=V oe/\oe.data=.fields vs/\1<vs.size/\h3.get? e=V (gU (·.setIfInBounds 1 (.ref T)) oe)/\T≠e/\h.get? T=Zg/\h3.get? T=V {cls:=.type "traceback",dict:=Zg,data:=.fields ts}/\ts[3]?=V (dU L)
 slot:∀b o,h.get? b=V o->b≠e->∃sl,h3.get? b=V {o with slots:=sl}
 keep:∀b o,h.get? b=V o->b≠e->b∉fs->h3.get? b=V o
def zX(L:Z8)(fs:Ts)(e:Z8)(s s1:Z1):Prop:=s1=s\/∃h',s1={s with heap:=h'}/\eA L fs e s.heap h'
def JF(B:aM)(X:Cx)(O:aZ)(Y:Ts)(H:Hp)(r:bU)(Q:Flow->Z1->Prop)(E:aQ):Prop:=match r with|.next Ui' h'=>∀s' U' H' Y',aA B X O Y' Ui' h' U' H' s'->a9 Y H Y' H'->Q .next s'|.brk Ui' h'=>∀s' U' H' Y',aA B X O Y' Ui' h' U' H' s'->a9 Y H Y' H'->Q .brk s'|.cont Ui' h'=>∀s' U' H' Y',aA B X O Y' Ui' h' U' H' s'->a9 Y H Y' H'->Q .cont s'|.ret v h'=>∀u s' Ui' U' H' Y',aA B X O Y' Ui' h' U' H' s'->a9 Y H Y' H'->RU X.K Y' H' v u->Q (.ret u) s'|.exc n Ui' h'=>∀pl a s' U' H' Y',aA B X (O++pl) Y' Ui' h' U' H' s'->a9 Y H Y' H'->Y'[n]?=V a->∀s1,zX X.env.locals (dQ X.stack) a s' s1->E (.ref a) s1|.stuck=>False
def JF.mono(k:JF B X O Y H r Q E)(n:a9 Y H Y' H'):JF B X O Y' H' r Q E:=by cases r with|next U h=>show λF C D j N n2=>k F C D j N<|n.trans n2|brk U h=>show λF C D j N n2=>k F C D j N<|n.trans n2|cont U h=>show λF C D j N n2=>k F C D j N<|n.trans n2|ret v h=>show λu F G C D j N n2=>k u F G C D j N<|n.trans n2|exc m U h=>show λpl a F C D j N n2=>k pl a F C D j N<|n.trans n2|stuck=>show k
def zY(B:aM)(X:Cx)(t:Sem Flow)(m:S1):Prop:=∀(O:aZ)(s:Z1)(U:L2.St)(H:Hp)(Y:Ts)(bE:aI)(h:IH)(Q:Flow->Z1->Prop)(E:aQ),aA B X O Y bE h U H s->JF B X O Y H (m bE h) Q E->Zz (Z5 X.prog X.w) X.A t Q E s
abbrev cK(B:aM)(X:Cx)(st:eI)(m:S1):Prop:=zY B X (exec st X.env) m
abbrev jD(B:aM)(X:Cx)(sts:Tl)(m:S1):Prop:=zY B X (execs sts X.env) m
noncomputable def Jv:S1:=λU h=>.next U h
def Jh(a b:S1):S1:=λU h=>match a U h with|.next U' h'=>b U' h'|r=>r
noncomputable def FG:S1:=λU h=>.next U h
def FH:S1:=λU h=>.brk U h
def FI:S1:=λU h=>.cont U h
noncomputable def rS {α:Type}(U:aI)(r:Res α)(k:α->IH->bU):bU:=match r with|.ok a h=>k a h|.exc n h=>.exc n U h|.stuck=>.stuck
def JS(e:E1):S1:=λU h=>rS U (e U h) λ_ h'=>.next U h'
def Jk(e:E1):S1:=λU h=>rS U (e U h) λv h'=>.ret v h'
noncomputable def FJ:S1:=λ_ h=>.ret .af h
def bg(t:T1)(a b:S1):S1:=λU h=>rS U (t U h) λc h'=>if c then a U h' else b U h'
def Jl(i:Nat)(e:E1):S1:=λU h=>rS U (e U h) λv h'=>.next (U.set i<|V v) h'
section
variable{B:aM}{X:Cx}{st:eI}{rest:Tl}{m m1 m2:S1}{e:Expr}{me:E1}{pos:Pos}
def cV(p:PX B X R t mm)(N:aA B X O Y bE h U H s) (K:JF B X O Y H (rS bE (mm bE h) g) Q E) (step:∀x h1 u s1 H1 j,aA B X O j bE h1 U H1 s1->a9 Y H j H1->R X.K j H1 x u->JF B X O j H1 (g x h1) Q E->Q1 u s1):Zz (Z5 X.prog X.w) X.A t Q1 E s:=by calc p O s U H Y bE h Q1 E N ?_;cases e:mm bE h with|ok v G=>rw[e]at K;show λu k C F D m r=>step v G u k C F D m r<|JF.mono K m|exc n G=>rw[e]at K;show λpl a k C F D m q=>K pl a k U C F D m q k<|.inl rfl|stuck=>rw[e]at K;show K
theorem ON:jD B X [] Jv:=λ_ s U H Y _ _ _ _ N K=>rX<|K s U H Y N .refl
def OO(h1:cK B X st m1)(J:jD B X rest m2):jD B X (st::rest) (Jh m1 m2):=by intro O s U H Y m h Q E N K;calc wpAny_execs_cons<|h1 O s U H Y m h _ E N ?_;unfold Jh at K;cases e:m1 m h with|next k j=>rw[e]at K;show λC F D G u I=>J O C F D G k j Q E u<|JF.mono K I|brk k j=>rw[e]at K;show K|cont k j=>rw[e]at K;show K|ret v j=>rw[e]at K;show K|exc n k j=>rw[e]at K;show K|stuck=>rw[e]at K;show K
def OP(h1:cK B X st m1):jD B X [st] m1:=by intro O s U H Y m h Q E N K;calc wpAny_execs_cons<|h1 O s U H Y m h _ E N ?_;cases e:m1 m h with|next k j=>rw[e]at K;show λC F D G u I=>rX<|K C F D G u I|brk k j=>rw[e]at K;show K|cont k j=>rw[e]at K;show K|ret v j=>rw[e]at K;show K|exc n k j=>rw[e]at K;show K|stuck=>rw[e]at K;show K
theorem OQ:cK B X (.Pass pos) FG:=λ_ s U H Y _ _ _ _ N K=>wpAny_Pass<|K s U H Y N .refl
theorem OR:cK B X (.Break pos) FH:=λ_ s U H Y _ _ _ _ N K=>wpAny_Break<|K s U H Y N .refl
theorem OS:cK B X (.Continue pos) FI:=λ_ s U H Y _ _ _ _ N K=>wpAny_Continue<|K s U H Y N .refl
theorem OT(C:ah B X e me)(hs:nS e Zg pos.line X.env=pure Zn:=by rfl):cK B X (.Expr e pos) (JS me):=λO s U H Y G h Q E N K=>
 wpAny_Expr_any (cV C N K λx I u m k D F n1 J j=>j m U k D F .refl) N.inv.quiet hs
theorem OU(C:ah B X e me):cK B X (.Return (V e) pos) (Jk me):=λO s U H Y D h Q E N K=>
 wpAny_Return_some (cV C N K λx J u m k F G n1 I j=>j u m D U k F G .refl I)
theorem OV:cK B X (.Return Zg pos) FJ:=λO s U H Y j h Q E N K=>wpAny_Return_none<|K .none s j U H Y N .refl #[.af,rfl,rfl]
theorem zZ{C:T1}(L:gh B X c C)(ha:jD B X a m1)(Z:jD B X b m2):cK B X (.If c a b pos) (bg C m1 m2):=λO s U H Y D h Q E N K=>
 wpAny_If (cV L N K λx I u m k F G n1 M j=>by have J:=M;subst J;cases u with|true=>show ha O m U k F D I Q E G j|false=>show Z O m U k F D I Q E G j)
theorem z8(D:X.N.Nodup)(J:ah B X e me)(hi:X.N[i]?=V x:=by rfl)(L:Loc X.env.scope x:=by assumption)(hs:nS e (V<|.Name x pos') pos.line X.env=pure Zn:=by rfl) (I:X.fn x=Zj\/X.env.scope.names.lookup x=V .local:=by assumption):cK B X (.Assign [.Name x pos'] e pos) (Jl i me):=λO s U H Y S h Q E N K=>
 wpAny_Assign_Name (cV J N K λv W u R F M k n1 P C=>by let#[w,j,q]:=P;show YK k.inv D hi L j (λG m=>C G _ F M #[m,k.rel,k.st.set i q] .refl) I) hs
abbrev G1:=IV->aI->IH->bU
def jh(B:aM)(X:Cx)(tg:Expr)(g:G1):Prop:=∀(O:aZ)(s:Z1)(U:L2.St)(H:Hp)(Y:Ts)(bE:aI)(h:IH)(v:IV)(u:Zu)(Q:Flow->Z1->Prop)(E:aQ),aA B X O Y bE h U H s->RU X.K Y H v u->JF B X O Y H (g v bE h) Q E ->Zz (Z5 X.prog X.w) X.A (lR tg X.env u) (λ_ s'=>Q .next s') E s
noncomputable def aV (i:Nat):G1:=λv U h=>.next (U.set i<|V v) h
def z9(m:X.N.Nodup)(hi:X.N[i]?=V x:=by rfl)(F:Loc X.env.scope x:=by assumption)(D:X.fn x=Zj\/X.env.scope.names.lookup x=V .local:=by assumption):jh B X (.Name x pos) (aV i):=by intro O s U H Y G h v u Q E N r K;let#[w,j,q]:=r;show wpAny_assign_Name<|YK N.inv m hi F j (λC k=>K C _ H Y #[k,N.rel,N.st.set i q] .refl) D
def kN(B:aM)(X:Cx)(ts:Td)(g:Tu->aI->IH->bU):Prop:=∀(O:aZ)(s:Z1)(U:L2.St)(H:Hp)(Y:Ts)(bE:aI)(h:IH)(vs:Tu)(us:Tt)(Q:Flow->Z1->Prop)(E:aQ),aA B X O Y bE h U H s->jf X.K Y H vs us->JF B X O Y H (g vs bE h) Q E ->Zz (Z5 X.prog X.w) X.A (uH ((fQ ts X.env).map (·.2)) us) (λ_ s'=>Q .next s') E s
noncomputable def gN:Tu->aI->IH->bU|[],U,h=>.next U h|_::_,_,_=>.stuck
def gC(g:G1)(r:Tu->aI->IH->bU):Tu->aI->IH->bU
 |v::vs,U,h=>match g v U h with
  |.next U' h'=>r vs U' h'
  |.exc n U' h'=>.exc n U' h'
  |_=>.stuck
 |[],_,_=>.stuck
def OW:kN B X [] gN:=by intro O s U H Y C h j u Q E N r K;cases j with|nil=>let#[xs,k,q]:=r;have m:=q;subst m;cases k;show assignInOrder_nil<|K s U H Y N .refl|cons v j=>show(K).elim
def OX(h1:jh B X tg g)(J:kN B X ts r) (hs:(fQ (tg::ts) X.env).map (·.2)=lR tg X.env::(fQ ts X.env).map (·.2):=by rfl):kN B X (tg::ts) (gC g r):=by
 intro O s U H Y D h C us Q E N P K;cases C with|nil=>show(K).elim|cons v C=>
  let#[xs,R,x,I,e1,q,G]:=P;subst e1;cases R with|cons Z M=>rw[hs];calc assignInOrder_cons (h1 O s U H Y D h v _ (λf u=>Zz (Z5 X.prog X.w) X.A (uH ((fQ ts X.env).map (·.2)) _) (λ_ u=>Q .next u) E u) E N #[x,Z,q] ?_);have m:JF B X O Y H (match g v D h with|.next k j=>r C k j|.exc n k j=>.exc n k j|_=>.stuck) Q E:=K;cases e:g v D h with|next k j=>rw[e]at m;show λu W L Y' S F=>J O u W L Y' k j C _ Q E S #[I,M,aC.mono F _ _ G]<|JF.mono m F|exc n k j=>rw[e]at m;show m|_=>rw[e]at m;show(m).elim
noncomputable def jV (n:Nat)(g:Tu->aI->IH->bU):G1:=λv U h=>match v with|.tup xs=>if xs.length=n then g xs U h else .stuck|.ref i=>(match h[i]? with|some (.lst xs)=>if xs.length=n then g xs U h else .stuck|_=>.stuck)|_=>.stuck
def OY(R:X.calm=Zj)(W:kN B X es g)(hn:(fQ es X.env).length=n:=by rfl)(C:(fQ es X.env).findIdx? (·.1)=Zg:=by rfl):jh B X (.Tuple es k pos) (jV n g):=by
 intro O s U H Y S h v u Q E N r K;let#[w,D,q]:=r;cases v with
 |tup xs=>
  let#[a,J,P,sa,j]:=q;subst P;cases D;unfold jV at K;dsimp only at K;split at K
  .rename_i Z;let#[I,m,L,hz]:=N.inv.tuple sa;have l1:=j.length;have l2:=m.length;refine My (N.inv.cw R) L (by simp![ZT];lia) C λF G=>?_
   have I1:Inv X O U H {s with heap:=F}:=N.inv.kept (t':=s.toks) λb o e=>G b o (Zv<|Z0 e) e
   show W O _ U H Y S h xs _ Q E #[I1,N.rel,N.st] #[J,by simpa using m,j] K
  .show Zf K
 |ref i=>
  let#[a,P,ha]:=q;subst P;cases D;unfold jV at K;dsimp only at K;cases M:h[i]? with|none=>rw[M]at K;show Zf K|some ob=>
   rw[M]at K;cases ob with
   |lst xs=>
    dsimp only at K;split at K
    .rename_i Z;let#[J,g1,j]:=N.at M ha;let#[I,m,L,hz]:=N.inv.list<|cf.of g1;have l1:=j.length;have l2:=m.length;refine OM (N.inv.cw R) L.isList (by simp![ZT];lia) C λF G=>?_
     have I1:Inv X O U H {s with heap:=F}:=N.inv.kept (t':=s.toks) λb o e=>G b o (Zv<|Z0 e) e
     show W O _ U H Y S h xs _ Q E #[I1,N.rel,N.st] #[J,by simpa using m,j] K
    .show Zf K
   |_=>show Zf K
 |_=>show Zf K
def fG(e:E1)(g:G1):S1:=λU h=>rS U (e U h) λv h'=>g v U h'
theorem OZ(F:ah B X e me)(m:jh B X tg g)(hs:swapsWithSole [tg] e pos.line X.env=pure Zn:=by rfl)(k:swappedStores [tg] e X.env=pure Zg:=by rfl) (h1:(fQ [tg] X.env).map (·.2)=[lR tg X.env]:=by rfl):cK B X (.Assign [tg] e pos) (fG me g):=λO s U H Y G h Q E N K=>
 wpAny_Assign_stores (cV F N K λv J u D C I L n1 M j=>by rw[h1];show m O D U C I G J v u Q E L M j) hs k
end
theorem cB.ok(e:h.get? a=V oe)(c:oe.cls=.ref C)(d:oe.data=.fields vs)(v:vs[1]?=V tv)(u:vs[2]?=V .none)(m:oe.dict=dd):JX P w H h a (cB a C tv dd):=#[#[oe,vs,e,c,d,v,u,m],#[oe,e],λ_ _ ⟨o,j,B,r⟩ k=>#[o,j,k _ B,r]]
theorem cB.get(x:cZ P w H h)(e:H a=V (cB a C tv d)):∃oe vs,h.get? a=V oe/\oe.cls=.ref C/\oe.data=.fields vs/\vs[1]?=V tv/\vs[2]?=V .none/\oe.dict=d:=(x a _ e).1
def FK(o:Obj)(f):(o.mapFields f).dict=o.dict:=by unfold gU;split<;>rfl
def O0(x:cZ P w H h)(e1:H a=V (cB a C tv d))(m:H a=V (cB a C' tv' d')):d=d':=by let#[o,_,g,_,_,_,_,q]:=cB.get x e1;let#[u,_,k,_,_,_,_,j]:=cB.get x m;cases g.symm.trans k;show q.symm.trans j
theorem FL:∀{o:HO},JX P w H h a o->∃u,h.get? a=V u:=λ{o} q=>by cases o with|lst _=>let#[_,_,_,_,e]:=q;show#[_,e]|tup _=>let#[_,_,_,#[_,e,_]]:=q;show#[_,e]|dK _=>let#[_,_,_,_,o,_,_,e,_]:=q;show#[o,e]|dT _=>let#[_,_,_,_,o,_,_,e,_]:=q;show#[o,e]|set _ _=>let#[o,_,_,_,e,_]:=q;show#[o,e]|ins _ _ _=>let#[_,_,_,e,_]:=q;show#[_,e]|own _=>let#[_,e]:=q;show#[_,e]|xd _=>let#[_,#[_,_,_,e,_],_]:=q;show#[_,e]|vp _ _=>let#[_,_,_,e]:=q;show#[_,e]|bw _ _=>let#[e,_]:=q;show#[_,e]|hY _=>show#[_,(q)]|met _ _=>show#[_,(q)]|ext _=>let#[_,#[_,e],_]:=q;show#[_,e]
def Aa{h:bc}(e:h.get? T=V oT)(d:oT.data=.fields ts)(q:ts[3]?=V v):(h.update T (gU (·.setIfInBounds 3 v))).get? T=V oT:=by
 have k:ts.setIfInBounds 3 v=ts:=by
  refine Array.ext 03 λi C J=>?_
  rw[Array.getElem_setIfInBounds];split
  .simp_all
  .rfl
 have j:gU (·.setIfInBounds 3 v) oT=oT:=by let#[c,B,m,u]:=oT;subst d;simp![gU,k]
 rw[lU _ e (by rw[j];show qQ d),j]
section
variable{X:Cx}{O:aZ}{U:L2.St}{H:Hp}{s:Z1}{M:Model}{E:aQ}{Q:Unit->Z1->Prop}{a C:Z8}{tv:Zu}{d:Tc}{h3:bc}{s1:Z1}
structure mV(X:Cx)(H:Hp)(h:bc)(a C:Z8)(d:Tc)(T:Z8)(oT:Obj)(h':bc):Prop where
 new:H T=Zg
 ne:T≠a
 fld:∃ts,oT.data=.fields ts/\ts[3]?=V .none
 un:Un (dQ X.stack) [] H (upd (upd H T<|.bw oT<|.own 0) a<|cB a C (.ref T) d) h h'
 az:cZ X.prog X.w (upd (upd H T<|.bw oT<|.own 0) a<|cB a C (.ref T) d) h'
def Ab(I:Inv X O U H s)(hs:X.stack=X.env::X.outer)(hf:X.env.frame=V X.env.locals)(ha:H a=V (cB a C tv d))(ht:ij H tv)
  (k:∀h3,eA X.env.locals (dQ X.stack) a s.heap h3->Q () {s with heap:=h3}):Zz M X.A (rZ (.ref a) X.env) Q E s:=by
 let#[oe,vs,Z,e2,R,e4,e5,e6]:=cB.get I.az ha;have G:a∉dQ X.stack:=λz=>by rw[I.dE a z]at ha;cases ha
 have fr:=I.ok.frames;have ff:=I.stack;have kO:=(qR.mp e4).1;have go:∀(h:bc){j:Zu}{hn:Bool},(∀b,h.get? b=s.heap.get? b)->Zz M X.A (do let f<-frameOf X.env;let pl<-entryPlaceOf X.env.locals hn;let b<-EntryCells.newEntry j f .none (dU X.env.locals) .none pl;setField (.ref a) 1 b) Q E {s with heap:=h}:=by
  intro h j hn J;have L:=ff.of_keeps λb o q _=>#[o,(J b).trans q,rfl]
  rw[hs]at fr L;refine Ze<|wpAny_frameOf_fun fr L hf λB S=>?_
  have D:=(S.2.1 a<|by rw[hs]at G;show G).trans<|(J a).trans Z;refine Ze<|wpAny_entryPlaceOf λpl hpl=>?_
  calc Ze<|lM ?_<|hpl.sizeOk5 _ _ _ _ _;have t3:([j,gT X.env.locals,dD,dU X.env.locals,dD]++(if pl.isEmpty then fw 6 dD else pl)).toArray[3]?=V (dU X.env.locals):=03;generalize ([j,gT X.env.locals,dD,dU X.env.locals,dD]++(if pl.isEmpty then fw 6 dD else pl)).toArray=P at t3 ⊢;have F:∀b o,B.get? b=V o->b≠B.objs.size:=λb o q=>Zv<|Z0 q
  have nT:=bI<|F a _ D;have u:∀b o,B.get? b=V o->(B.push {cls:=.type "traceback",dict:=Zg,data:=.fields P}).get? b=V o:=λb o q=>Zh _ q
  have Y:(B.push {cls:=.type "traceback",dict:=Zg,data:=.fields P}).get? B.objs.size=V {cls:=.type "traceback",dict:=Zg,data:=.fields P}:=Zw B rfl;refine lN (u _ _ D) R kO<|k _ #[#[oe,vs,B.objs.size,P,Z,R,kO,lU _ (u _ _ D)<|qQ<|kg R _,nT,?_,(ZB _ _<|bI nT).trans Y,t3],λb o q n=>?_,λb o q n m=>?_]
  .cases q:s.heap.get? B.objs.size with|none=>rfl|some o=>let#[sl,z]:=S.2.2 _ _<|(J _).trans q;show absurd rfl (F _ _ z)
  .let#[sl,z]:=S.2.2 _ _<|(J b).trans q;show#[sl,(ZB _ _<|bI n).trans<|u _ _ z]
  .show(ZB _ _<|bI n).trans (u _ _<|(S.2.1 b<|by rw[hs]at m;show m).trans<|(J b).trans q)
 unfold rZ;rw[hf];calc Ze<|fg Z R e4 ?_;rcases ht with rfl|⟨T,oT,P,rfl,q1,q2,q3⟩
 .rw[if_neg 01];show go s.heap λ_=>rfl
 .have W:s.heap.get? T=V oT:=(I.az T _ q1).1;calc Ze<|fg W q2 q3 ?_;calc Ze<|lN W q2 (qR.mp q3).1 ?_;refine go _ λb=>?_
  by_cases z:b=T
  .subst z;show(Aa W q2 q3).trans W.symm
  .show ZB _ _<|bI z
def Ac(m:env.frame=V env.locals)(n:eA env.locals fs a h h3)(q:Q () {s with heap:=h3}):Zz M A (rZ (.ref a) env) Q E {s with heap:=h3}:=by let#[#[C,H,T,F,g1,g2,j,u,D,G,k,B],_,_]:=n;unfold rZ;rw[m];calc Ze (fg (x:=.ref T) u (kg g2 _) (by simp[j]) ?_);calc Ze<|fg k rfl B ?_;rw[if_pos 03];show Zp q
def FN(I:env.frame=V env.locals)(n:eA env.locals fs a h h3)(k:∀F,eA env.locals fs a h F->E (.ref a) {s with heap:=F}):cameBackBy M A env E (.ref a) {s with heap:=h3}:=by
 let#[#[G,Q,T,O,g1,g2,D,B,J,P,j,C],L,kp]:=n;calc Ze (fg (x:=.ref T) B (kg g2 _) (by simp[D]) ?_);rw[I];calc Ze (fg (x:=.ref T) B (kg g2 _) (by simp[D]) ?_);calc lN j rfl (qR.mp C).1 ?_;have u:∀b o,h3.get? b=V o->(h3.update T (gU (·.setIfInBounds 3 (dU env.locals)))).get? b=V o:=λb o q=>by
  by_cases z:b=T
  .subst z;rw[j]at q;cases q;show Aa j rfl C
  .show(ZB _ _<|bI z).trans q
 show k _ #[#[G,Q,T,O,g1,g2,D,u _ _ B,J,P,u _ _ j,C],λb o q n=>let ⟨H,z⟩:=L b o q n;#[H,u _ _ z],λb o q n m=>u _ _<|kp b o q n m]
def FO(I:Inv X O U H s)(ha:H a=V (cB a C tv d))(n:eA L (dQ X.stack) a s.heap h3)(k:∀T F h',mV X H s.heap a C d T F h'->Q () {s with heap:=h'}):Zz M X.A (r0 (.ref a) Zg) Q E {s with heap:=h3}:=by
 let#[#[oe,vs,T,ts,g1,g2,g3,g4,g5,G,W,g8],P,kp]:=n;let#[oe',vs',x1,x2,x3,x4,x5,x6]:=cB.get I.az ha;rw[g1]at x1;cases x1;rw[g2]at x3;cases x3;have az:=I.az;have B:=I.dE;have Y:H T=Zg:=by cases q:H T with|none=>rfl|some u=>let#[o,z]:=FL<|az T u q;rw[G]at z;cases z
 have tz:=(qR.mp g8).1;calc Ze (fg (x:=.ref T) g4 (kg g2 _) (by simp[g3]) ?_);rw[if_pos 03];calc lN W rfl tz ?_;have S:=(ZB h3 (gU (·.setIfInBounds 3 ((Zg:Tc).elim dD λf=>dU f))) g5).trans g4;have J:=lU (gU (·.setIfInBounds 3 ((Zg:Tc).elim dD λf=>dU f))) W<|qQ<|kg rfl _;have d7:=kg (o:={cls:=.type "traceback",dict:=Zg,data:=.fields ts}) rfl (·.setIfInBounds 3 ((Zg:Tc).elim dD λf=>dU f));have lt:∀b o,s.heap.get? b=V o->T≠b:=λb o q z=>by rw[z,q]at G;cases G
 have keep:∀b o,s.heap.get? b=V o->b≠a->b∉dQ X.stack->(h3.update T (gU (·.setIfInBounds 3 ((Zg:Tc).elim dD λf=>dU f)))).get? b=V o:=λb o q n1 n2=>(ZB _ _<|lt b o q).trans<|kp b o q n1 n2
 have slot:∀b o,s.heap.get? b=V o->b≠a->∃P,(h3.update T (gU (·.setIfInBounds 3 ((Zg:Tc).elim dD λf=>dU f)))).get? b=V {o with slots:=P}:=λb o q n1=>let ⟨s',z⟩:=P b o q n1;#[s',(ZB _ _<|lt b o q).trans z]
 generalize h3.update T (gU (·.setIfInBounds 3 ((Zg:Tc).elim dD λf=>dU f)))=h' at S J keep slot;generalize gU (·.setIfInBounds 3 ((Zg:Tc).elim dD λf=>dU f)) {cls:=.type "traceback",dict:=Zg,data:=.fields ts}=F at J d7;have na:∀{b:Z8}{u:HO},H b=V u->(∀φ,u≠.ext φ)->b≠a:=λ{b u} q n z=>by subst z;rw[ha]at q;cases q;show n _ rfl
 have R:∀{b:Z8}{u:HO},H b=V u->b≠T:=λ{b u} q z=>by subst z;rw[Y]at q;cases q
 have D:∀{b:Z8}{u:HO},H b=V u->(∀φ,u≠.ext φ)->upd (upd H T<|.bw F<|.own 0) a (cB a C (.ref T) d) b=V u:=λ{b u} q n=>by rw[Js<|na q n,Js<|R q];show q
 have fa:a∉dQ X.stack:=λz=>by rw[B a z]at ha;cases ha
 refine k T F h' #[Y,g5,#[_,d7,by simp[tz]],#[λb o q n Z _=>keep b o q (λz=>by subst z;rw[ha]at n;cases n) Z,λb o q _ Z _=>slot b o q λz=>fa<|z▸Z,λb o q n _=>?_,λb o q _=>?_,λb xs q=>D q nofun,λb o u q=>D q nofun,λb ps q=>#[#[],by rw[D q nofun];simp]],λb u q=>?_]
 .rw[Js (λz=>by subst z;rw[ha]at n;cases n),Js λz=>by subst z;rw[G]at q;cases q];show n
 .by_cases z:b=a
  .subst z;show#[_,S]
  .let#[P,w]:=slot b o q z;show#[_,w]
 .by_cases z:b=a
  .subst z;rw[J0]at q;cases q;show cB.ok S ((uW _ _).trans x2) (kg g2 _) (by simp[g3]) (by simp_all)<|(FK _ _).trans x6
  .rw[Js z]at q;by_cases y:b=T
   .subst y;rw[J0]at q;cases q;show#[J,#[F,J]]
   .rw[Js y]at q;refine(az b u q).eQ (λc v j p=>?_) (λc p=>D p nofun) λc xs p=>D p nofun
    refine keep c v p ?_ ?_
    .rcases j with rfl|j
     .show z
     .show na j nofun
    .intro m;rcases j with rfl|j
     .rw[B _ m]at q;cases q
     .rw[B _ m]at j;cases j
def FP(I:Inv X O U H s)(fl:zX X.env.locals (dQ X.stack) a s s1)(hs:X.stack=X.env::X.outer)(j:X.env.frame=V X.env.locals)(ha:H a=V (cB a C tv d))(m:ij H tv) (k:∀T u h',mV X H s.heap a C d T u h'->Q () {s with heap:=h'}):Zz M X.A (rZ (.ref a) X.env) (λ_ s'=>Zz M X.A (r0 (.ref a) Zg) Q E s') E s1:=by
 rcases fl with rfl|⟨h',rfl,n⟩
 .show Ab I hs j ha m λB n=>FO I ha n k
 .show Ac j n<|FO I ha n k
def O2(I:Inv X O U H s)(fl:zX X.env.locals (dQ X.stack) a s s1)(hs:X.stack=X.env::X.outer)(u:X.env.frame=V X.env.locals)(ha:H a=V (cB a C tv d))(m:ij H tv) (k:∀T j h',mV X H s.heap a C d T j h'->Q () {s with heap:=h'}):Zz M X.A (leaving X.env<|.ref a) Q E s1:=by show Ze<|FP I fl hs u ha m k
end
def eB(P:cz)(w:bL):sN:=λouter H s E e s'=>∃H',s'.os=s.os/\l5 s'.gens/\Un (dQ outer) [] H H' s.heap s'.heap/\cZ P w H' s'.heap/\E e Zg H'
theorem Un.tail(a:Un fs [] H H1 h h1)(b:Un (L::fs) [] H1 H2 h1 J)(n:h.get? L=Zg):Un fs [] H H2 h J where
 keep:=λc o q m k _=>b.keep c o (a.keep c o q m k 03) (a.free c o q m 03) (λz=>(ZC.mp z).elim (λy=>by subst y;rw[n]at q;cases q) k) 03
 slot:=λc o q m k _=>by let#[G,j]:=a.slot c o q m k 03;let#[D,B]:=b.any j (a.free c o q m 03) 03;show#[D,B]
 free:=λc o q m _=>by let#[C,j]:=a.there c o q 03;show b.free c C j (a.free c o q m 03) 03
 there:=λc o q _=>by let#[C,j]:=a.there c o q 03;show b.there c C j 03
 cI:=λc xs q=>b.cI c xs<|a.cI c xs q
 bf:=λc o u q=>b.bf c o u<|a.bf c o u q
 cU:=λc ps q=>by let#[F,j]:=a.cU c ps q;let#[E,B]:=b.cU c _ j;show#[F++E,by rw[B,Array.append_assoc]]
section
variable{X:Cx}{O:aZ}{U:L2.St}{H:Hp}{s:Z1}{k:Nat}{f C:Z8}{fd:i6}{ps:Tj}{sp:Sp}{aU:Ua}{ds:Tt}{E:XK}{Q:VK}{us:Tt}{vs:Ua}{W:aQ}
def Ad(I:Inv X O U H s)(h:eB X.prog X.w X.stack H s E e s'):∃H',Inv X O U H' s'/\E e Zg H':=by let#[H',os,bare,un,az,q]:=h;show#[H',I.sG os un az bare λb z=>absurd z 03,q]
structure Roo(κ:Bool)(k:Nat)(X:Cx):Prop where
 r:bu κ k X.A
 c:X.calm=Zj
theorem Roo.mono(r:Roo κ k X)(h:j<=k):Roo κ j X:=#[r.r.mono h,r.c]
def O3(F:bM X.prog X.w X.K X.mg X.base (eB X.prog X.w) κ k f fd ps sp)(D:bu κ k X.A)(G:Qt X.A H)(Z:Qa X.K fd ps ds)(hd:Vals aU ds)(I:Inv X O U H s)(r:Vals vs us)(h:sp (vs++aU) H Q E) (B:∀e s' H',Inv X O U H' s'->E e Zg H'->W e s'):Zz (Z5 X.prog X.w) X.A (call (.ref f) us) (EP X O U Q) W s:=by
 have m:Vals (vs++aU) (us++ds):=r.append hd;have J:=m.length;have L:=F.len _ _ _ _ h;refine oX<|oU (F.run _ _ _ _ #[us,[]] _ _ _ _ D (I.px G) (Z s us I.cN 05) m h) λj s' q=>?_
 match j,q with|.error e,q=>let#[H',C,z]:=Ad I q;show B e s' H' C z|.ok (.ret u),q=>show I.after q|.ok .next,q=>show iN q|.ok .brk,q=>show iN q|.ok .cont,q=>show iN q
def O4(M:Mk X.K C f)(F:bM X.prog X.w X.K X.mg X.base (eB X.prog X.w) κ k f fd ps sp)(S:bu κ (k+1) X.A)(hc:Qt X.A H)(Z:Qa X.K fd ps ds)(hd:Vals aU ds)(I:Inv X O U H s)(r:Vals vs us) (h:∀x dx,H x=Zg->H dx=Zg->dx≠x->sp (.ref x::(vs++aU)) (upd (upd H dx<|.own x) x<|.ins C dx []) (λv H2=>v=.af/\Q (.ref x) H2) E) (hx:∀e s' H',Inv X O U H' s'->E e Zg H'->W e s'):Zz (Z5 X.prog X.w) X.A (call (.ref C) us) (EP X O U Q) W s:=by
 have z0:=s.heap.objs.size;have D:=h (s.heap.objs.size+1) s.heap.objs.size (I.az.fresh<|fY _) (I.az.fresh<|Zl _)<|Zv<|ZS _;have j:=Inv.made (C:=C) I;have B:Vals (bA.ref (s.heap.objs.size+1)::(vs++aU)) (gT (s.heap.objs.size+1)::(us++ds)):=.cons rfl (r.append hd);have G:=B.length;have J:=F.len _ _ _ _ D;have R:(gT (s.heap.objs.size+1)::us++ds).length=ps.length:=by rw[iY];show ZQ (Zb (Zi G.symm)<|Zi J)<|Zb (Zi J.symm)<|Zi G
 calc oX (Nx (f:=f) I.cN M.makes M.init (beq_iff_eq.mp M.fn)<|oU (F.run _ _ _ _ #[.ref (s.heap.objs.size+1)::us,[]] _ _ _ _ (S.make C us []) ((j.px<|hc.mono λb o u q=>by rw[Js<|QU q<|I.az.fresh<|fY _,Js<|QU q<|I.az.fresh<|Zl _];show q).make C us []) (Z _ (.ref (s.heap.objs.size+1)::us) j.cN R) B D) λm s' q=>?_);match m,q with|.error e,q=>let#[H',P,z]:=Ad j q;show hx e s' H' P z|.ok (.ret u),q=>let#[v,H',J3,L,ev,Y]:=j.after q;subst ev;show#[L,#[bA.ref<|s.heap.objs.size+1,H',J3,rfl,Y]]|.ok .next,q=>show iN q|.ok .brk,q=>show iN q|.ok .cont,q=>show iN q
end
structure jW where
 xs:Tu
 ba:IH->Prop
open Classical in
def JZ(ba:IH->Prop)(g:G1)(b:S1):Tu->aI->IH->bU|[],U,h=>if ba h then .next U h else .stuck|x::xs,U,h=>if ba h then(match g x U h with|.next U1 h1=>(match b U1 h1 with|.next W2 J=>JZ ba g b xs W2 J|.cont W2 J=>JZ ba g b xs W2 J|.brk W2 J=>.next W2 J|.ret v J=>.ret v J|.exc n W2 J=>(match J[n]? with|some (.exc _ _)=>.exc n W2 J|_=>.stuck)|_=>.stuck)|_=>.stuck)else .stuck
abbrev I1:=aI->IH->Res jW
def bV(it:I1)(g:G1)(b:S1):S1:=λU h=>rS U (it U h) λbB h'=>JZ bB.ba g b bB.xs U h'
structure gj(B:aM)(K:W.Frag)(Y:Ts)(H₀:Hp)(bB:It)(I:jW):Prop where
 go:∀(k:Nat)(x:IV)(h:IH)(H:Hp)(Y':Ts),a9 Y H₀ Y' H->Rel B K Y' h H->I.ba h->I.xs[k]?=V x ->bB.go k H/\∀y H',bB.zy k H y H'->Rel B K Y' h H'/\a9 Y' H Y' H'/\RV K Y' H' x y
 stop:∀(k:Nat)(h:IH)(H:Hp)(Y':Ts),a9 Y H₀ Y' H->Rel B K Y' h H->I.ba h->I.xs.length<=k->bB.stop k H
def Rel.get{K:W.Frag}(R:Rel B K Y h H){i:Nat}(e:h[i]?=V o)(ha:Y[i]?=V a):RO B K Y H a o:=by let#[b,j,r]:=R.at_ i o e;rw[ha]at j;cases j;show r
def FQ(B:aM)(X:Cx)(tg:Expr)(O:aZ)(Y':Ts)(I:jW)(itv:Zu)(s2:Z1)(H':Hp):Prop:=∃(it:Z8)(fp:Ts)(tn:Nat->bc->Prop)(bB:It),itv=.ref it/\Turn X.prog X.w X.K tg bB fp it tn/\tn 0 s2.heap/\(∀b∈fp,aF X O H' b)/\gj B X.K Y' H' bB I
def ji(B:aM)(X:Cx)(tg iter:Expr)(m:I1):Prop:=∀(O:aZ)(s:Z1)(U:L2.St)(H:Hp)(Y:Ts)(bE:aI)(h:IH)(Q:aQ)(E:aQ),aA B X O Y bE h U H s ->(match m bE h with|.ok I h'=>∀itv s' H' Y',aA B X O Y' bE h' U H' s'->a9 Y H Y' H'->FQ B X tg O Y' I itv s' H'->Q itv s'|.exc n h'=>∀pl a s' H' Y',aA B X (O++pl) Y' bE h' U H' s'->a9 Y H Y' H'->Y'[n]?=V a->E (.ref a) s'|.stuck=>False) ->
  Zz (Z5 X.prog X.w) X.A (bp iter X.env) (λv s1=>Zz (Z5 X.prog X.w) X.A (kz v) Q E s1) E s
section
variable{B:aM}{X:Cx}
theorem mW(h:Zz M A t Q (λ_ _=>False) s):Zz M A t Q E s:=dm h (λ_ _ x=>x) λ_ _ z=>z.elim
theorem aA.pins{O:aZ}(N:aA B X (O++pl) Y bE h U H s):aA B X O Y bE h U H s:=#[N.inv.ib,N.rel,N.st]
def O5(hc:X.calm=Zj)(hst:X.stack=X.env::X.outer)(hf:X.env.frame=V X.env.locals)(hi:ji B X tg iter mi)(hg:jh B X tg g)(Z:jD B X body mb)
  (hs:∀x,rT iter X.env x=pure x:=by intro _;rfl):cK B X (.For tg iter body [] pos) (bV mi g mb):=by
 intro O s U H Y bE h Q E N K;calc wpAny_For (hi O s U H Y bE h _ E N ?_) hs;unfold bV at K;cases e0:mi bE h with|exc n h'=>rw[e0]at K;show λpl a s' F Y' N' n' q=>K pl a s' U F Y' N' n' q s'<|.inl rfl|stuck=>rw[e0]at K;show K|ok I h'=>
  rw[e0]at K;intro itv s2 H2 U2 N2 n2 R;let#[it,fp,tn,bB,e,T,st2,f2,OK]:=R;subst e;have S:∀{F:Hp},(∀b∈fp,F b=Zg)->∀b∈fp,aF X O F b:=λhn b Z=>#[hn b Z,(f2 b Z).2]
  have K2:=JF.mono (r:=JZ I.ba g mb I.xs bE h') K n2;refine codeAny_forLoop_any (λn s'=>∃k J Uk hk U' F,aA B X O J Uk hk U' F s'/\a9 U2 H2 J F/\tn k s'.heap/\(∀b∈fp,F b=Zg)/\n=I.xs.length-k/\k<=I.xs.length/\JF B X O J F (JZ I.ba g mb (I.xs.drop k) Uk hk) Q E) ?_ I.xs.length
   #[0,U2,bE,h',U,H2,N2,.refl,st2,λb Z=>(f2 b Z).1,03,ZW _,by simpa using K2]
  rintro n s3 ⟨k,J,Uk,hk,W3,H3,N3,n3,st3,fr3,rfl,hkl,j⟩;by_cases hlt:k<I.xs.length
  ·-- a turn
   have hd:=oN hlt;rw[hd]at j;unfold JZ at j;split at j
   .rename_i hck;let#[go,yl]:=OK.go k I.xs[k] hk H3 J n3 N3.rel hck<|Zd hlt;refine mW<|qY (T.item X rfl rfl rfl hc k O s3 W3 H3 (λ_ _=>False) N3.inv (S fr3) st3 go) λr s4 ⟨u,hr,h4⟩=>?_
    subst hr;refine mW<|qY h4 λ_ s5 ⟨x,H5,I5,r5,y5,st5,fr5⟩=>?_
    let#[R5,n5,q5]:=yl x H5 y5;have I5':=I5.pinned (S fr5)<|T.obj _ _ st5;have N5:aA B X (O++QV fp s5.heap) J Uk hk W3 H5 s5:=#[I5',R5,N3.st.mono n5];cases eg:g I.xs[k] Uk hk with
    |next Ug hgg=>
     rw[eg]at j;dsimp only at j;calc mW<|hg _ s5 W3 H5 J Uk hk _ u (λ_ s6=>Zz (Z5 X.prog X.w) X.A (execs body X.env) _ _ s6) (λ_ _=>False) N5 #[x,r5,q5] ?_;rw[eg];intro s6 W6 H6 U6 N6 n6;calc Z _ s6 W6 H6 U6 Ug hgg _ _ N6 ?_;have again:∀{W:L2.St}{M:Hp}{L:Z1}{D:aI}{h7:IH}{P:Ts},aA B X (O++QV fp s5.heap) P D h7 W M L->a9 U6 H6 P M->JF B X O J H3 (JZ I.ba g mb (I.xs.drop<|k+1) D h7) Q E ->
       ∃m,m<I.xs.length-k/\∃k J Uk hk U' F,aA B X O J Uk hk U' F L/\a9 U2 H2 J F/\tn k L.heap/\(∀b∈fp,F b=Zg)/\m=I.xs.length-k/\k<=I.xs.length/\JF B X O J F (JZ I.ba g mb (I.xs.drop k) Uk hk) Q E:=
      λ{W M L D h7 P} G n7 K7=>by have nn:=(n5.trans n6).trans n7;calc#[I.xs.length-(k+1),rC _ _ 06,k+1,P,D,h7,W,M,G.pins,n3.trans nn,T.keep _ _ _ st5 λb Z o e=>(G.inv.pin (b,o)<|Zo _<|Zo _<|Y7 Z e).1,λb Z=>?_,rfl,hlt,K7.mono nn];let#[o,e,d]:=T.obj _ _ st5 b Z;show(G.inv.pin (b,o)<|Zo _<|Zo _<|Y7 Z e).2.1
     cases eb:mb Ug hgg with
     |next D h7=>rw[eb]at j;show λL W M P G n7=>again G n7 j
     |cont D h7=>rw[eb]at j;show λL W M P G n7=>again G n7 j
     |brk D h7=>rw[eb]at j;show λL W M P G n7=>j L W M P G.pins<|(n5.trans n6).trans n7
     |ret v h7=>rw[eb]at j;show λu L D W M P G n7 r=>j u L D W M P G.pins ((n5.trans n6).trans n7) r
     |exc n D h7=>
      rw[eb]at j;dsimp only at j;cases hj:h7[n]? with|none=>rw[hj]at j;show(j).elim|some ob=>
       cases ob with
       |exc c fs=>
        rw[hj]at j;intro pl a L W M P G n7 q s8 fl;let#[C,tv,d,fe,hC,ha,ht]:=G.rel.get hj q;have back:∀h8,eA X.env.locals (dQ X.stack) a L.heap h8->cameBackBy (Z5 X.prog X.w) X.A X.env E (.ref a) {L with heap:=h8}:=λh8 n8=>
         FN hf n8 λh9 n9=>j (QV fp s5.heap++pl) a L W M P (by simp_all) ((n5.trans n6).trans n7) q _<|.inr #[h9,rfl,n9]
        rcases fl with rfl|⟨h8,rfl,n8⟩
        .show Ab G.inv hst hf ha ht back
        .show Ac hf n8<|back h8 n8
       |_=>rw[hj]at j;show(j).elim
     |stuck=>rw[eb]at j;show(j).elim
    |_=>rw[eg]at j;show(j).elim
   .show(j).elim
  .have hke:I.xs.drop k=[]:=yp<|ZI hlt;rw[hke]at j;unfold JZ at j;split at j
   .rename_i hck;have stop:=OK.stop k hk H3 J n3 N3.rel hck<|ZI hlt;refine mW<|qY (T.done X rfl rfl rfl hc k O s3 W3 H3 (λ_ _=>False) N3.inv (S fr3) st3 stop) λr s4 ⟨hr,I4⟩=>?_
    subst hr;show rX<|j s4 W3 H3 J #[I4,N3.rel,N3.st] .refl
   .show(j).elim
noncomputable def iq:IV->IH->Res jW
 |.ref i,h=>match h[i]? with
  |some (.lst xs)=>.ok #[xs,λh'=>h'[i]?=V (.lst xs)] h
  |_=>.stuck
 |.cG xs,h=>.ok #[xs,λ_=>True] h
 |.tup xs,h=>.ok #[xs,λ_=>True] h
 |_,_=>.stuck
def kP(e:E1):I1:=λU h=>(e U h).bind iq
variable{tg:Expr}
def O6{i:Nat}(ha:Y[i]?=V a):gj B X.K Y H₀ (sI X.K a) #[xs,λh'=>h'[i]?=V (.lst xs)]:=by
 refine#[λk x h H I C R j D=>?_,λk h H I C R j D=>?_]
 .let#[u,m,F]:=R.get j<|C.at ha;let#[v,G,J]:=F.get D;calc#[#[u,v,cf.of m,G],λy L E=>?_];let#[rfl,E]:=E;have:=E u<|cf.of m;rw[G]at this;cases this;show#[R,.refl,J]
 .let#[u,m,F]:=R.get j<|C.at ha;show#[u,cf.of m,by rw[F.length];show D]
def O7(sa:pE X.K H₀ a vs)(D:aC X.K Y H₀ xs vs):gj B X.K Y H₀ (sI X.K a) #[xs,λ_=>True]:=by
 refine#[λk x h H G j R m u=>?_,λk h H G j R m u=>?_]
 .let#[v,E,F]:=D.get u;have sq:=(j.ext.zQ sa).sq;calc#[#[vs,v,sq,E],λy I C=>?_];let#[rfl,C]:=C;have:=C vs sq;rw[E]at this;cases this;show#[R,.refl,RV.mono j _ _ F]
 .show#[vs,(j.ext.zQ sa).sq,by rw[D.length];show u]
def O8(sa:eu X.K H₀ a vs)(D:aC X.K Y H₀ xs vs):gj B X.K Y H₀ (zz X.K a) #[xs,λ_=>True]:=by
 refine#[λk x h H G j R m u=>?_,λk h H G j R m u=>?_]
 .let#[v,E,F]:=D.get u;have sq:=j.ext.sP sa;calc#[#[vs,v,sq,E],λy I C=>?_];let#[rfl,C]:=C;have:=C vs sq;rw[E]at this;cases this;show#[R,.refl,RV.mono j _ _ F]
 .show#[vs,j.ext.sP sa,by rw[D.length];show u]
def Ae(hl:ah B X l ml):ji B X tg l (kP ml):=by
 intro O s U H Y P h Q E N K;calc hl O s U H Y P h _ E N ?_;unfold kP at K;cases L:ml P h with|exc n M=>rw[L]at K;show K|stuck=>rw[L]at K;show K|ok v M=>
  rw[L]at K;intro u k F J j n1 r1;let#[w,m,q]:=r1;have fresh:∀b∈[k.heap.objs.size],aF X O F b:=λb Z=>by
   have e:b=k.heap.objs.size:=by simpa using Z
   subst e;show j.inv.c8 (Zl _)<|j.inv.az.fresh<|Zl _
  cases v with
  |ref i=>
   let#[a,C,ha]:=q;subst C;cases m;cases G:M[i]? with|none=>simp![Res.bind,iq,G]at K|some o=>cases o with|lst xs=>simp![Res.bind,iq,G]at K;let#[R,C,r1]:=j.at G ha;let#[D,W,p,S]:=j.inv.list<|cf.of C;calc nM p.isList<|K _ _ F J #[j.inv.kept λb o e=>Zh _ e,j.rel,j.st] n1 ?_;show#[k.heap.objs.size,[k.heap.objs.size],_,sI X.K a,rfl,ER a _,#[_,Zw _ rfl,rfl,rfl],fresh,O6 ha]|_=>simp![Res.bind,iq,G]at K
  |cG xs=>let#[a,R,C,sa,I]:=q;subst C;cases m;let#[D,W,p,S]:=j.inv.list sa.sq;calc nM p.isList<|K _ _ F J #[j.inv.kept λb o e=>Zh _ e,j.rel,j.st] n1 ?_;show#[k.heap.objs.size,[k.heap.objs.size],_,sI X.K a,rfl,ER a _,#[_,Zw _ rfl,rfl,rfl],fresh,O7 sa I]
  |tup xs=>let#[a,R,C,sa,I]:=q;subst C;cases m;let#[D,W,p,S]:=j.inv.tuple sa;calc rR (p)<|K _ _ F J #[j.inv.kept λb o e=>Zh _ e,j.rel,j.st] n1 ?_;show#[k.heap.objs.size,[k.heap.objs.size],_,zz X.K a,rfl,MZ a _,#[_,Zw _ rfl,rfl,rfl],fresh,O8 sa I]
  |_=>simp![Res.bind,iq]at K
noncomputable def aX (lo hi:Int):Tu:=(ZM (hi-lo).toNat).map λk=>.int<|lo+(k:Nat)
def Qd:Tu->IH->Res jW|[.int j],h=>if -(2^62)<=j/\j<2^62 then .ok #[aX 0 j,λ_=>True] h else .stuck|_,_=>.stuck
def VN:Tu->IH->Res jW|[.int i,.int j],h=>if -(2^62)<=i/\i<2^62/\ -(2^62)<=j/\j<2^62 then .ok #[aX i j,λ_=>True] h else .stuck|_,_=>.stuck
def O9(k:¬ ∃i j,vs=[.int i,.int j]):VN vs h=.stuck:=by
 unfold VN;split
 .show absurd #[_,_,rfl] k
 .rfl
def c4(f:Tu->IH->Res jW)(a:A1):I1:=λU h=>(a U h).bind f
def Pa{lo hi:Int}:gj B X.K Y H₀ (vt lo (hi-lo).toNat) #[aX lo hi,λ_=>True]:=by
 refine#[λk x h H E C R m j=>?_,λk h H E C R m j=>?_]
 .have u:k<(hi-lo).toNat:=by have:=(Zs.mp j).1;simpa[aX]using this
  calc#[u,λy F D=>?_];let#[rfl,rfl]:=D;simp![aX,ZK,List.getElem?_range u]at j;cases j;show#[R,.refl,rfl]
 .have:(aX lo hi).length=(hi-lo).toNat:=by simp[aX]
  rw[<-this];show j
def FR{lo hi:Int}(N:aA B X O Y bE h U H s)
  (h1: -(2^62)<=lo)(J:lo<2^62)(h3: -(2^62)<=hi)(m:hi<2^62)
  (K:∀j s' H' Y',aA B X O Y' bE h U H' s'->a9 Y H Y' H'->FQ B X tg O Y' #[aX lo hi,λ_=>True] j s' H'->Q j s'):
  Zz (Z5 X.prog X.w) X.A (kz<|.ref s.heap.objs.size) Q E {s with heap:=s.heap.push {cls:=.type "range",data:=.fields (bS [.int lo t,.int hi u,.int 1 v])},toks:=tk}:=by
 have:=M3 (X:=X) (tg:=tg) (E:=E) (R:=λk H'=>k=vt lo (hi-lo).toNat/\H'=H) (t:=t) (u:=u) (v:=v) (tk:=tk) N.inv h1 J h3 m #[rfl,rfl];refine dm this (λj s' D=>?_) λ_ _ z=>z
 let#[it,C,tn,k,H',e,F,T,st,f,rfl,rfl]:=D;show K j s' _ Y #[F,N.rel,N.st] .refl #[it,C,tn,_,e,T,st,f,Pa]
def Pb(W:Gl X "range")(hm:X.mg "range"=Zg)(ha:dX B X [a] ma)(hs:ZR [a] X.env=[(Zn,bp a X.env)]:=by rfl):ji B X tg (.Call (.Name "range" p) [a] [] pos) (c4 Qd ma):=by
 intro O s U H Y u h Q E N K;calc Call_<|Q3 N.inv W hm boot_range<|o9 ?_ hs rfl;calc ha pos O s U H Y u h _ E N ?_;unfold c4 at K;cases m:ma u h with|exc n C=>rw[m]at K;show K|stuck=>rw[m]at K;show K|ok P C=>
  rw[m]at K;intro us s1 H1 W1 M n1 r1;let#[xs,rv,G]:=r1;match P,K with
  |[.int j],K=>
   let#[w,r,e1,q,D]:=G;have e2:r=[]:=D;subst e1 e2;have F:w=.int j:=q;subst F;cases rv with|cons r J=>
    cases J;let#[t,rfl]:=r;simp![Res.bind,Qd]at K;by_cases Z: -(2^62)<=j/\j<2^62
    .rw[if_pos Z]at K;show call_range_1<|FR M (iL _) (iL _) Z.1 Z.2 λk I L Y' N' S R=>K k I L Y' N' (n1.trans S) R
    .lia
  |[],K=>show Zf K
  |.af::_,K=>show Zf K
  |.bl _::_,K=>show Zf K
  |.str _::_,K=>show Zf K
  |.tup _::_,K=>show Zf K
  |.cG _::_,K=>show Zf K
  |.ref _::_,K=>show Zf K
  |.int _::_::_,K=>show Zf K
def Pc(hg:Gl X "range")(hm:X.mg "range"=Zg)(ha:dX B X [a,b] ma)(hs:ZR [a,b] X.env=[(Zn,bp a X.env),(Zn,bp b X.env)]:=by rfl)(k:ZR [b] X.env=[(Zn,bp b X.env)]:=by rfl):ji B X tg (.Call (.Name "range" p) [a,b] [] pos) (c4 VN ma):=by
 intro O s U H Y G h Q E N K;calc Call_ (Q3 N.inv hg hm boot_range<|o9 ?_ (by rw[hs,k])<|by rw[k];rfl);calc ha pos O s U H Y G h _ E N ?_;unfold c4 at K;cases F:ma G h with|exc n J=>rw[F]at K;show K|stuck=>rw[F]at K;show K|ok vs J=>
  rw[F]at K;intro us s1 H1 W1 N1 n1 r1;let#[xs,rv,S]:=r1;by_cases I:∃i j,vs=[.int i,.int j]
  .let#[i,j,rfl]:=I;let#[w,r,e1,q,w',u,D,q',M]:=S;have e2:u=[]:=M;subst e1 D e2;have P:w=.int i:=q;have L:w'=.int j:=q';subst P L;cases rv with|cons r C=>
    cases C with|cons u C=>
     cases C;let#[t,rfl]:=r;let#[t',rfl]:=u;simp![Res.bind,VN]at K;by_cases Z: -(2^62)<=i/\i<2^62/\ -(2^62)<=j/\j<2^62
     .rw[if_pos Z]at K;show call_range_2<|FR N1 Z.1 Z.2.1 Z.2.2.1 Z.2.2.2 λm W H' Y' N' n' R=>K m W H' Y' N' (n1.trans n') R
     .rw[if_neg Z]at K;show K.elim
  .simp only[Res.bind,O9 I]at K
end
end L3
namespace L3
open PySem PySem.Spec PySem.Calls PyProof.Rows L2
section
variable{prog:cz}{w:bL}{A:cu}{E:aQ}{s:Z1}{K:W.Frag}{x D:Z8}{ox:Obj}
open PySem.W PySem.Builtin PySem.Builtin.ObjectAttr PySem.Builtin.Getset_descriptor in
def Pd{tp:Zu}(X:K.In s.heap)(hx:s.heap.get? x=V ox)(hcl:ox.cls=.ref D)(hm:mroIn K D (.type "object")=V Zj)(k:R (.ok<|.ret<|.ref D) s):iK (Z5 prog w) A (.call (.builtin "getset_descriptor.__get__") #[[.builtin "object.__class__",.ref x,tp],[]]) R s:=by
 let#[hh,g,d,t,os]:=s;have L0:Looks (Z5 prog w) hh (lT<|.ref x) (.ref D):=hcl▸(Looks.ld hx).andThen .now;have L5:=looks_mroIn (M:=Z5 prog w) X hm;have sl:=KF.slot_gs;calc qA sl.plain KF.entry_gs<|sl.check _ _ _ _ _ _ _ _ KF.type_class (KF.args_gs _ _ _) ?_;unfold eG.«getset_descriptor.__get__»;unfold descrGet;rw[dga_obj];apply Ze;apply Zp;unfold descrGetter descrCheckInstance;unfold descrNameAndClass isInstance;simp![KF.owner_class];repeat lk
 have quiet:=vf (id:="object.__class__") #[[.ref x],[]]<|by decide +kernel
 calc#[quiet,jw KF.entry_class ?_];unfold eG.«object.__class__»;unfold shownTypeOf;repeat lk
 show k
def Pe(X:K.In s.heap)(k:s.heap.get? x=V ox)(j:ox.cls=.ref D)(B:W.findIn K (.ref D) "__class__"=V (V<|.builtin "object.__class__"))(hm:W.mroIn K D (.type "object")=V Zj) (G:Q (.done<|.ret<|.ref D) s):Zz (Z5 prog w) A (eG.«object.__getattribute__» #[[.ref x,.str "__class__" tk],[]]) Q E s:=by
 let#[m,g,d,t,os]:=s;have u:W.Looks (Z5 prog w) m (lT<|.ref x) (.ref D):=j▸(W.Looks.ld k).andThen .now;have C:=W.looks_findIn (M:=Z5 prog w) X B;have J:=F.typeOf_object_class;have I:=F.slot_gs_get.lookup;have H:=F.slot_gs_set.lookup;repeat (any_goals (first|assumption|with_reducible calc u.at ?_|with_reducible calc C.at ?_|wp_step))
 calc Pd X k j hm ?_;repeat (any_goals (first|assumption|wp_step))
def FT(X:K.In s.heap)(C:s.heap.get? x=V ox)(j:ox.cls=.ref D)(Z:W.mroIn K D (.type "BaseException")=V Zj)(u:Q () s):Zz M A (checkBuiltinCall "BaseException.__getattribute__" #[[.ref x,v],[]]) Q E s:=by
 let#[k,g,d,t,os]:=s;have B:W.Looks M k (lT<|.ref x) (.ref D):=j▸(W.Looks.ld C).andThen .now;have G:=W.looks_mroIn (M:=M) X Z;have H:builtinKind "BaseException.__getattribute__"=V .slot:=by decide +kernel
 have m:splitId "BaseException.__getattribute__"=V ("BaseException","__getattribute__"):=by decide +kernel
 have I:=F.args_bexc_ga (.ref x) v;simp![checkBuiltinCall,m];calc Ze ?_;unfold isInstance;repeat (first|with_reducible calc B.at ?_|with_reducible calc G.at ?_|wp_step)
 show u
def Pf(X:K.In s.heap)(k:s.heap.get? x=V ox)(j:ox.cls=.ref D)(C:W.findIn K (.ref D) "__getattribute__"=V (V<|.builtin "BaseException.__getattribute__"))(Z:W.mroIn K D (.type "BaseException")=V Zj)(hn:W.findIn K (.ref D) "__getattr__"=V Zg) (u:W.findIn K (.ref D) "__class__"=V (V<|.builtin "object.__class__"))(hm:W.mroIn K D (.type "object")=V Zj)(J:Q (.ref D) s):Zz (Z5 prog w) A (getAttrBy (.ref x) (.str "__class__" tk) Zn) Q E s:=by
 let#[m,g,d,t,os]:=s;have B:W.Looks (Z5 prog w) m (lT<|.ref x) (.ref D):=j▸(W.Looks.ld k).andThen .now;have G:=W.looks_findIn (M:=Z5 prog w) X C;have H:=W.looks_findIn (M:=Z5 prog w) X hn;have L:=F.attr_ValueError.ga.bind<|.ref x;have I:(sk "BaseException.__getattribute__"==sk "object.__getattribute__")=Zn:=by decide +kernel
 repeat (any_goals (first|assumption|with_reducible calc B.at ?_|with_reducible calc G.at ?_|with_reducible calc H.at ?_|wp_step))
 calc qA F.attr_ValueError.ga.plain F.entry_bexc_ga<|FT X k j Z<|Pe X k j u hm ?_;repeat (any_goals (first|assumption|wp_step))
def Ph(X:K.In s.heap)(B:s.heap.get? x=V ox)(j:ox.cls=.ref D)(u:W.findIn K (.ref D) "__getattribute__"=V (V<|.builtin "BaseException.__getattribute__"))(Z:W.mroIn K D (.type "BaseException")=V Zj)(hn:W.findIn K (.ref D) "__getattr__"=V Zg) (m:W.findIn K (.ref D) "__class__"=V (V<|.builtin "object.__class__"))(hm:W.mroIn K D (.type "object")=V Zj)(k:Q (V<|.ref D) {s with toks:=s.toks+1}):Zz (Z5 prog w) A (getAttr? (.ref x) "__class__") Q E s:=by let#[C,g,d,t,os]:=s;unfold getAttr? getAttrBy?;calc Ze<|wpAny_mkText<|Ze<|uG<|Pf X B j u Z hn m hm ?_;show Zp k
end
structure gk(K:W.Frag)(C:Z8):Prop where
 ga:W.findIn K (.ref C) "__getattribute__"=V (V<|.builtin "BaseException.__getattribute__")
 mb:W.mroIn K C (.type "BaseException")=V Zj
 gn:W.findIn K (.ref C) "__getattr__"=V Zg
 ca:W.findIn K (.ref C) "__class__"=V (V<|.builtin "object.__class__")
 mo:W.mroIn K C (.type "object")=V Zj
 hd:W.hasDictIn K C=Zj
def gk.at_{K:W.Frag}(e:gk K C):∃c d cd sl,K.lookup C=V #[c,d,.cls cd,sl]:=by
 let#[cd,k,_]:=W.any_some e.hd;unfold W.clsIn at k;split at k;case h_2=>cases k
 rename_i c d j sl ho;show#[c,d,j,sl,ho]
theorem FU{K:W.Frag}{x D:Z8}(e:gk K D):W.KitX K (.ref x) (.ref D) (λh=>∃ox,h.get? x=V ox/\ox.cls=.ref D) where
 ty:=λ_ _ _ ⟨ox,u,m⟩=>m▸(W.Looks.ld u).andThen .now
 it:=λ_ _ X _=>by let#[c,d,cd,B,ho]:=e.at_;intro L J F I kp q;unfold isType;unfold loadHead;show Ze<|yI (kp _ _<|X D _ ho)<|Zp q
 ne:=λh G H E n B X j=>by let#[c,d,cd,C,ho]:=e.at_;rw[o2];intro q;cases (Value.ref.inj<|beq_iff_eq.mp q);have z:=(X D _ ho).symm.trans j;cases z
 ca:=λX ⟨ox,u,m⟩ k=>Ph X u m e.ga e.mb e.gn e.ca e.mo k
end L3
namespace L3
open PySem PySem.Spec PyProof.Rows L2
noncomputable def XX (n:Nat)(vs:Tu):aI:=vs.map V++fw (n-vs.length) Zg
noncomputable def bU.fin (r:bU):Res IV:=match r with|.next _ h'=>.ok .af h'|.ret v h'=>.ok v h'|.exc n _ h'=>(match h'[n]? with|some (.exc _ _)=>.exc n h'|_=>.stuck)|_=>.stuck
noncomputable def Af (n:Nat)(m:S1):Tu->IH->Res IV:=λvs h=>(m (XX n vs) h).fin
def iQ(B:aM)(K:W.Frag)(ps:Tj)(f:Tu->IH->Res IV):Sp:=λvs H Q E=>
 vs.length=ps.length/\∃Y h ivs,Rel B K Y h H/\aC K Y H ivs vs /\ match f ivs h with|.ok v h'=>∀x H' Y',Rel B K Y' h' H'->a9 Y H Y' H'->RV K Y' H' v x->Q x H'|.exc n h'=>∀a H' Y',Rel B K Y' h' H'->a9 Y H Y' H'->Y'[n]?=V a->E (.ref a) Zg H'|.stuck=>False
def aC.start{K:W.Frag}(r:aC K Y H ivs vs):jU K Y H (XX N.length ivs) (L2.start N vs):=by
 have B:=r.length;calc#[by simp[XX,L2.start,B],λj v e=>?_];unfold XX at e;unfold L2.start;by_cases k:j<ivs.length
 .rw[ZV (by simpa using k),ZK]at e;rw[ZV (by simp;show Zb k<|Zi B.symm),ZK];cases m:ivs[j]? with|none=>rw[m]at e;cases e|some w=>rw[m]at e;cases e;let#[u,C,q]:=r.get m;show#[u,by rw[C];rfl,q]
 .rw[ZU (by simpa using k),uk]at e;split at e<;>cases e
theorem Ag:∀{l:List α}{i:Nat}{x:α},l[i]?=V x->l.set i x=l|[],_,_,e=>by simp at e|a::l,0,x,e=>by cases e;rfl|a::l,i+1,x,e=>by change a::l.set i x=a::l;rw[Ag (l:=l) e]
def Vk{K:W.Frag}{i:Nat}(R:Rel B K Y h H)(e:h[i]?=V o)(q:Y[i]?=V a):RO B K Y H a o:=by let#[b,j,r]:=R.at_ i o e;rw[q]at j;cases j;show r
structure pG(K:W.Frag)(x qual:Str)(st:eI)(f:Z8)(fd:i6)(dV:Zu):Prop where
 ex:∃(oc:Zu)(od:Tc)(kV doc pm:Zu)(an:Tc)(cdv ct:Zu)(osl:Wb),fd=W.fnOf x qual (VI st) (Vd st) (Qo st) dV kV doc pm an cdv ct/\K.lookup f=V #[oc,od,.func fd,osl]/\W.codeIn K cdv qual=Zj
 kp:W.keepIn K (.ref f)=Zj
section
variable{P:cz}{w:bL}{K:W.Frag}{mg:Str->Tb}{base:bc}{B:aM}
def pG.fn{st:eI}(F:pG K x qual st f fd dV)(S:dF N ps<|Qo st)
  (hbody:∀(M:Zu)(A:cu)(outer:Tk)(s:Z1)(H:Hp)(E:XK),W.codeIn K M qual=Zj->bu κ k (A.deeper<|mP qual (Qo st) s.heap.objs.size f M)->jD B (jQ (eB P w) P w K mg base N qual (Qo st) f M A outer s H E).MX (Vd st) m)(hn:N.length=n:=by rfl):
  bM P w K mg base (eB P w) κ (k+1) f fd ps (iQ B K ps<|Af n m):=by
 subst hn;let#[oc,od,kV,doc,pm,an,M,ct,osl,rfl,lk,hcd]:=F.ex;refine NC lk hcd S (λvs H Q E h=>h.1) λA outer s H vs Q E hr hsp=>?_
 let#[hl,Y,h,ivs,R,rv,L]:=hsp;refine#[λD U H=>∃Y bE h,Rel B K Y h H/\jU K Y H bE U/\match m bE h with|.next Ui' h'=>∀U' G X,Rel B K X h' G->jU K X G Ui' U'->a9 Y H X G->D.nx U' G|.ret v h'=>∀x G X,Rel B K X h' G->a9 Y H X G->RV K X G v x->D.rt x G|.exc n _ h'=>(∃c fs,h'[n]?=V (.exc c fs))/\∀a G X,Rel B K X h' G->a9 Y H X G->X[n]?=V a->E (.ref a) Zg G|_=>False,λO s' U' G D I ht=>?_,Y,XX N.length ivs,h,R,rv.start,?_]
 .let#[Y,bE,h,R,rs,hm]:=ht;refine dm (hbody M A outer s H E hcd hr O s' U' G Y bE h (SP _ O D) _ #[I.bq _,R,rs] ?_) (λ_ _ z=>z) λ_ _ z=>z
  cases e:m bE h with
  |next W2 J=>rw[e]at hm;show λs3 W3 H3 U3 Z n3=>#[W3,H3,Z.inv.bx,hm W3 H3 U3 Z.rel Z.st n3]
  |ret v J=>rw[e]at hm;show λu s3 U3i W3 H3 U3 Z n3 ⟨z,rz,q⟩=>#[z,W3,H3,Z.inv.bx,rz,hm z H3 U3 Z.rel n3 q]
  |exc j W2 J=>
   rw[e]at hm;let#[#[c,fs,hj],hm]:=hm;intro pl a s3 W3 H3 U3 Z n3 hi s4 fl;have I3:=Z.inv.bx;let#[C,tv,d,fe,hC,ha,ht]:=Vk Z.rel hj hi;refine O2 I3 fl rfl rfl ha ht λT oT h' p=>?_
   have nl:s.heap.get? s.heap.objs.size=Zg:=uR<|Zl _;let#[R4,n4]:=Z.rel.grow (o:=.bw oT<|.own 0) p.new;have ha4:upd H3 T (.bw oT<|.own 0) a=V (cB a C tv d):=by rw[Js<|bI p.ne];show ha
   let#[R5,n5]:=R4.write hi ha4 (by rw[ha4];trivial) (o:=cB a C (.ref T) d) (io:=.exc c fs) #[C,.ref T,d,fe.mono p.un.bf,hC,J0,.inr #[T,oT,_,rfl,by rw[Js p.ne,J0],p.fld.choose_spec]];rw[Ag hj]at R5;show#[_,I3.os,I3.bare,Un.tail I3.base p.un nl,p.az,hm a _ U3 R5 ((n3.trans n4).trans n5) hi]
  |_=>rw[e]at hm;show hm.elim
 .unfold Af bU.fin at L;cases e:m (XX N.length ivs) h with
  |next W2 J=>rw[e]at L;show λW3 H3 U3 R3 _ n3=>L .af H3 U3 R3 n3 rfl
  |ret v J=>rw[e]at L;show L
  |exc j W2 J=>
   rw[e]at L;dsimp only at L;cases q:J[j]? with|none=>rw[q]at L;show L.elim|some o=>cases o with|exc c fs=>rw[q]at L;show#[#[c,fs,q],L]|_=>rw[q]at L;show L.elim
  |_=>rw[e]at L;show L.elim
end
noncomputable def Res.nx {α:Type}:Res α->Res α|.ok a h=>.ok a h|_=>.stuck
def Jm(f:Tu->IH->Res IV)(aU:Tu)(a:A1):E1:=λU h=>(a U h).bind λvs h1=>f (vs++aU) h1
def Q0(c:Str)(f:Tu->IH->Res IV)(aU:Tu)(a:A1):E1:=λU h=>(a U h).bind λvs h1=>(f (.ref h1.length::(vs++aU))<|h1++[.ins c []]).bind λr J=>match r with|.af=>.ok (.ref h1.length) J|_=>.stuck
def vH(m:Str)(disp:Str->Option ((Tu->IH->Res IV)×Tu))(o:E1)(a:A1):E1:=λU h=>(o U h).bind λv h1=>match v with|.ref i=>(match h1[i]? with|some (.ins c fs)=>(match disp c,fs.lookup m with|some (f,aU),Zg=>(a U h1).bind λvs J=>f (.ref i::(vs++aU)) J|_,_=>.stuck)|_=>.stuck)|_=>.stuck
section
variable{B:aM}{X:Cx}{k:Nat}{fa C:Z8}{fd:i6}{ps:Tj}{f:Tu->IH->Res IV}{aU:Tu}{ds:Tt}{x m:Str}{p pos apos:Pos}{e o:Expr}{es:Td}{mo:E1}{ma:A1}
def YF(F:bM X.prog X.w X.K X.mg X.base (eB X.prog X.w) κ k fa fd ps<|iQ B X.K ps f)(R:bu κ k X.A)(hc:Qt X.A H)(Z:Qa X.K fd ps ds) (hd:∃vs,Vals vs ds/\∀Y H,aC X.K Y H aU vs)(L:us.length+ds.length=ps.length)(N:aA B X O Y bE h U H s)(r:jf X.K Y H xs us)(K:Kont B X RU O Y bE U H (f (xs++aU) h) Q E):Zz (Z5 X.prog X.w) X.A (call (.ref fa) us) Q E s:=by
 let#[vs,J,q]:=r;let#[dv,rd,qd]:=hd;have hl1:=J.length;have hl2:=rd.length;refine dm (O3 (Q:=λz m=>∀u j,Inv X O U m j->RelV z u->Q u j) (E:=λv _ m=>∀j,Inv X O U m j->E v j) F R hc Z rd N.inv J #[by rw[Z7];lia,Y,h,xs++aU,N.rel,q.append<|qd Y H,?_] λ_ j _ C z=>z j C) (λu j ⟨z,m,C,r',k'⟩=>k' u j C r') λ_ _ z=>z
 cases e:f (xs++aU) h with|ok v P=>rw[e]at K;show λz m I G D S u j C M=>K u j m I #[C,G,N.st.mono D] D #[z,M,S]|exc n P=>rw[e]at K;show λa m I G D W j C=>K [] a j m I #[by simpa using C,G,N.st.mono D] D W|stuck=>rw[e]at K;show K
def Pj(F:bM X.prog X.w X.K X.mg X.base (eB X.prog X.w) κ k fa fd ps<|iQ B X.K ps f)(J:Roo κ k X)(M:Gl X x)(hm:X.mg x=V (.ref fa))(P:W.keepIn X.K (.ref fa)=Zj)(Z:Qa X.K fd ps ds)(hd:∃vs,Vals vs ds/\∀Y H,aC X.K Y H aU vs) (ha:dX B X (e::es) ma)(m:∀U h xs h',ma U h=.ok xs h'->xs.length+ds.length=ps.length)(C:(x==("__debug__":Str))=Zn:=by decide)(S:ZR (e::es) X.env=(Zn,bp e X.env)::ZR es X.env:=by rfl)(I:(d8 pos<|ZR es X.env).any (·.1)=Zn:=by rfl):ah B X (.Call (.Name x p) (e::es) [] pos) (Jm f aU ma):=by
 intro O s U H Y D h Q E N K;calc iZ<|V7 N.inv M hm ?_ C;calc W.callWith_K (h₀:=X.base) N.inv.ok.mod.pj P ?_ S I;have j:=K;unfold Jm at j;calc ha pos O s U H Y D h _ E N ?_;cases u:ma D h with|exc n h'=>rw[u]at j;show j|stuck=>rw[u]at j;show j|ok xs h'=>
  rw[u]at j;intro us s1 H1 W1 G n1 L;have hl:xs.length=us.length:=by let#[vs,R,q]:=L;rw[<-R.length,q.length]
  show#[G.inv.cN,YF (us:=us) F J.r (G.inv.cS J.c) Z hd (by have:=m D h xs h' u;lia) G L<|Kont.mono (r:=(f (xs++aU) h')) j n1]
def Pl(F:bM X.prog X.w X.K X.mg X.base (eB X.prog X.w) κ k fa fd ps<|iQ B X.K ps f)(u:Roo κ k X)(C:Gl X x)(hm:X.mg x=V (.ref fa))(D:W.keepIn X.K (.ref fa)=Zj)(Z:Qa X.K fd ps ds)(hd:∃vs,Vals vs ds/\∀Y H,aC X.K Y H aU vs) (j:ds.length=ps.length)(m:(x==("__debug__":Str))=Zn:=by decide):ah B X (.Call (.Name x p) [] [] pos) (Jm f aU Je):=by intro O s U H Y G h Q E N K;calc iZ<|V7 N.inv C hm ?_ m;show W.callWith_K0 N.inv.cN D (YF (xs:=[]) F u.r (N.inv.cS u.c) Z hd (by simpa using j) N .nil K)
def FV(M:Mk X.K C fa)(F:bM X.prog X.w X.K X.mg X.base (eB X.prog X.w) κ k fa fd ps<|iQ B X.K ps f)(hC:B c=V C)(hr:bu κ (k+1) X.A)(hc:Qt X.A H)(Z:Qa X.K fd ps ds) (hd:∃vs,Vals vs ds/\∀Y H,aC X.K Y H aU vs)(hlen:us.length+ds.length+1=ps.length)(N:aA B X O Y bE h U H s)(r:jf X.K Y H xs us) (K:Kont B X RU O Y bE U H ((f (.ref h.length::(xs++aU))<|h++[.ins c []]).bind λr J=>match r with|.af=>.ok (.ref h.length) J|_=>.stuck) Q E):Zz (Z5 X.prog X.w) X.A (call (.ref C) us) Q E s:=by
 let#[vs,rv,q]:=r;let#[dv,rd,qd]:=hd;have hl1:=rv.length;have hl2:=rd.length;refine dm (O4 (Q:=λz D=>∀u j,Inv X O U D j->RelV z u->Q u j) (E:=λv _ D=>∀j,Inv X O U D j->E v j) M F hr hc Z rd N.inv rv (λx dx hx P S=>#[by rw[jJ,Z7];lia,?_]) λ_ j _ G z=>z j G) (λu j ⟨z,D,G,r',k'⟩=>k' u j G r') λ_ _ z=>z
 -- the new instance in the reading's heap
 let#[R1,n1]:=N.rel.grow (o:=.own x) P;have R:upd H dx (.own x) x=Zg:=by rw[Js<|bI S];show hx
 let#[R2,n2]:=R1.alloc (o:=.ins C dx []) (io:=.ins c []) R #[C,dx,[],hC,J0,rfl];have m:=n1.trans n2;have L:(Y++[x])[h.length]?=V x:=by rw[<-N.rel.len,ZU<|Zl _];simp
 calc#[Y++[x],h++[.ins c []],.ref h.length::(xs++aU),R2,#[_,_,rfl,#[x,rfl,L],(aC.mono m _ _ q).append<|qd _ _],?_];cases e:f (.ref h.length::(xs++aU)) (h++[.ins c []])with
 |ok v h'=>rw[e]at K;intro z D Y' W I qz;cases v with|af=>have ez:z=.af:=qz;subst ez;show#[rfl,λu j G ru=>K u j D Y' #[G,W,N.st.mono<|m.trans I] (m.trans I) #[.ref x,ru,x,rfl,I.at L]]|_=>show Zf K
 |exc n h'=>rw[e]at K;show λa D Y' W I hi j G=>K [] a j D Y' #[by simpa using G,W,N.st.mono<|m.trans I] (m.trans I) hi
 |stuck=>rw[e]at K;show Zf K
def Pm(M:Mk X.K C fa)(F:bM X.prog X.w X.K X.mg X.base (eB X.prog X.w) κ k fa fd ps<|iQ B X.K ps f)(S:B c=V C)(P:Roo κ (k+1) X)(hg:Gl X x)(hm:X.mg x=V (.ref C))(Z:Qa X.K fd ps ds)(hd:∃vs,Vals vs ds/\∀Y H,aC X.K Y H aU vs) (ha:dX B X (e::es) ma)(m:∀U h xs h',ma U h=.ok xs h'->xs.length+ds.length+1=ps.length)(D:(x==("__debug__":Str))=Zn:=by decide)(he:ZR (e::es) X.env=(Zn,bp e X.env)::ZR es X.env:=by rfl)(L:(d8 pos<|ZR es X.env).any (·.1)=Zn:=by rfl):ah B X (.Call (.Name x p) (e::es) [] pos) (Q0 c f aU ma):=by
 intro O s U H Y G h Q E N K;calc iZ<|V7 N.inv hg hm ?_ D;calc W.callWith_K (h₀:=X.base) N.inv.ok.mod.pj M.kp ?_ he L;have j:=K;unfold Q0 at j;calc ha pos O s U H Y G h _ E N ?_;cases u:ma G h with|exc n h'=>rw[u]at j;show j|stuck=>rw[u]at j;show j|ok xs h'=>
  rw[u]at j;intro us s1 H1 W1 I n1 R;have hl:xs.length=us.length:=by let#[vs,rv,q]:=R;rw[<-rv.length,q.length]
  show#[I.inv.cN,FV (us:=us) M F S P.r (I.inv.cS P.c) Z hd (by have:=m G h xs h' u;lia) I R<|Kont.mono (r:=(f (IV.ref h'.length::(xs++aU))<|h'++[.ins c []]).bind λr J=>match r with|IV.af=>Res.ok (IV.ref h'.length) J|_=>Res.stuck) j n1]
def Po(M:Mk X.K C fa)(F:bM X.prog X.w X.K X.mg X.base (eB X.prog X.w) κ k fa fd ps<|iQ B X.K ps f)(G:B c=V C)(u:Roo κ (k+1) X)(D:Gl X x)(hm:X.mg x=V (.ref C))(Z:Qa X.K fd ps ds)(hd:∃vs,Vals vs ds/\∀Y H,aC X.K Y H aU vs) (j:ds.length+1=ps.length)(m:(x==("__debug__":Str))=Zn:=by decide):ah B X (.Call (.Name x p) [] [] pos) (Q0 c f aU Je):=by intro O s U H Y I h Q E N K;calc iZ<|V7 N.inv D hm ?_ m;show W.callWith_K0 N.inv.cN M.kp (FV (xs:=[]) M F G u.r (N.inv.cS u.c) Z hd (by simpa using j) N .nil K)
def Ah(B:aM)(X:Cx)(m:Str)(n:Nat)(disp:Str->Option ((Tu->IH->Res IV)×Tu)):Prop:=∀c f aU,disp c=V (f,aU)->∃(C fa:Z8)(fd:i6)(κ:Bool)(k:Nat)(ps:Tj)(ds:Tt),B c=V C/\l9 X.K C/\Meth X.K C m fa/\bM X.prog X.w X.K X.mg X.base (eB X.prog X.w) κ k fa fd ps (iQ B X.K ps f)/\Roo κ k X/\Qa X.K fd ps ds/\(∃vs,Vals vs ds/\∀Y H,aC X.K Y H aU vs)/\n+ds.length+1=ps.length
def Pq(ho:ah B X o mo)(hd:Ah B X m n disp)(ha:dX B X (e::es) ma)(G:∀U h xs h',ma U h=.ok xs h'->xs.length=n) (hst:ZR (e::es) X.env=(Zn,bp e X.env)::ZR es X.env:=by rfl)(hpl:(d8 pos<|ZR es X.env).any (·.1)=Zn:=by rfl) (ht:bp (.Call (.Attribute o m apos) (e::es) [] pos) X.env=(do
   let ov<-bp o X.env
   nX apos.atName
   let (f,first)<-jx [ov] (oZ ov m pl)
   r8 pos f first (d8 pos<|ZR (e::es) X.env) (nV pos<|nP [] X.env)):=by rfl):
  ah B X (.Call (.Attribute o m apos) (e::es) [] pos) (vH m disp mo ma):=by
 intro O s U H Y bE h Q E N K;calc W.methodCall_KW (pl:=pl) (ho.run N K λv L u s1 H1 W1 J n1 r1 j=>?_) ht;cases v with
 |ref i=>
  let#[w,rw',a,e1,hi]:=r1;subst e1;cases rw';dsimp only at j;cases R:L[i]? with|none=>rw[R]at j;show Zf j|some ob=>
   cases ob with
   |ins c fs=>
    rw[R]at j;dsimp only at j;cases D:disp c with|none=>rw[D]at j;show Zf j|some S=>
     let#[f,aU]:=S;cases P:fs.lookup m with|some z=>rw[D,P]at j;show Zf j|none=>
      rw[D,P]at j;dsimp only at j;let#[C,fa,fd,κ,k,ps,ds,hC,cl,hm,F,hr,Z,hdv,hn]:=hd c f aU D;let#[C',dx,vs,I,hH,rp]:=J.at R hi;rw[hC]at I;cases I;calc E3 J.inv hH cl hm ((b9.lookup rp).2 P) ?_;calc W.callWith_K (first:=[.ref a]) (h₀:=X.base) J.inv.ok.mod.pj hm.kp ?_ hst hpl;calc ha pos O s1 U H1 W1 bE L _ E J ?_;cases M:ma bE L with|exc n h'=>rw[M]at j;show j|stuck=>rw[M]at j;show j|ok xs h'=>
       rw[M]at j;intro us s2 H2 U2 N2 n2 r2;have P:xs.length=us.length:=by let#[vs,rv,q]:=r2;rw[<-rv.length,q.length]
       have hl2:=G bE L xs h' M;calc#[N2.inv.cN,YF (us:=.ref a::us) (xs:=.ref i::xs) F hr.r (N2.inv.cS hr.c) Z hdv (by rw[jJ];lia) N2 (.cons #[.ref a,rfl,a,rfl,n2.at hi] r2) ?_];show Kont.mono (r:=(f (.ref i::(xs++aU)) h')) j n2
   |_=>rw[R]at j;show Zf j
 |_=>show Zf j
def Pr(ho:ah B X o mo)(hd:Ah B X m 0 disp) (ht:bp (.Call (.Attribute o m apos) [] [] pos) X.env=(do
   let ov<-bp o X.env
   nX apos.atName
   let (f,first)<-jx [ov] (oZ ov m pl)
   r8 pos f first (d8 pos<|ZR [] X.env) (nV pos<|nP [] X.env)):=by rfl):
  ah B X (.Call (.Attribute o m apos) [] [] pos) (vH m disp mo Je):=by
 intro O s U H Y bE h Q E N K;calc W.methodCall_KW (pl:=pl) (ho.run N K λv h1 u s1 H1 W1 G n1 r1 j=>?_) ht;cases v with
 |ref i=>
  let#[w,P,a,e1,hi]:=r1;subst e1;cases P;dsimp only at j;cases J:h1[i]? with|none=>rw[J]at j;show Zf j|some ob=>
   cases ob with
   |ins c fs=>
    rw[J]at j;dsimp only at j;cases D:disp c with|none=>rw[D]at j;show Zf j|some M=>let#[f,aU]:=M;cases L:fs.lookup m with|some z=>rw[D,L]at j;show Zf j|none=>rw[D,L]at j;dsimp only at j;let#[C,fa,fd,κ,k,ps,ds,hC,cl,hm,F,S,Z,R,hn]:=hd c f aU D;let#[C',dx,vs,I,hH,rp]:=G.at J hi;rw[hC]at I;cases I;calc E3 G.inv hH cl hm ((b9.lookup rp).2 L) ?_;show W.callWith_K0 (first:=[.ref a]) G.inv.cN hm.kp (YF (us:=[.ref a]) (xs:=[.ref i]) F S.r (G.inv.cS S.c) Z R (by rw[jJ,List.length_nil];(rw[oJ];show ZQ (Zi hn)<|Zi hn.symm)) G (.cons #[.ref a,rfl,a,rfl,hi] .nil) j)
   |_=>rw[J]at j;show Zf j
 |_=>show Zf j
def Jq(f:Str)(o:E1):E1:=λU h=>(o U h).bind λv h1=>match v with|.ref i=>(match h1[i]? with|some (.ins _ fs)=>(match fs.lookup f with|some x=>.ok x h1|none=>.stuck)|_=>.stuck)|_=>.stuck
def Yi(B:aM)(K:W.Frag)(f:Str):Prop:=∀c C,B c=V C->l9 K C/\Vr K C f
def Pt(ho:ah B X o mo)(hf:Yi B X.K fl)(Z:qC o fl X.env (bp o X.env)=bp o X.env:=by rfl):ah B X (.Attribute o fl pos) (Jq fl mo):=by
 intro O s U H Y bE h Q E N K;refine E5 Z<|ho.run N K λv h1 u s1 G M k n1 r1 j=>?_
 cases v with
 |ref i=>
  let#[w,F,a,e1,W]:=r1;subst e1;cases F;dsimp only at j;cases m:h1[i]? with|none=>rw[m]at j;show(j).elim|some ob=>
   cases ob with
   |ins c fs=>rw[m]at j;dsimp only at j;cases D:fs.lookup fl with|none=>rw[D]at j;show(j).elim|some z=>rw[D]at j;let#[C,dx,vs,J,hH,rp]:=k.at m W;let#[cl,na]:=hf c C J;let#[y,L,q]:=(b9.lookup rp).1 z D;show E2 k.inv hH cl na L λS I P R=>j S I G M #[P,k.rel,k.st] .refl #[y,R,q]
   |_=>rw[m]at j;show(j).elim
 |_=>show(j).elim
noncomputable def bz (f:Str)(v:IV):Wo->Wo|[]=>[(f,v)]|(g,x)::r=>if g=f then(g,v)::r else(g,x)::bz f v r
theorem b9.put{K:W.Frag}(q:RV K Y H v y):∀{fs:Wo}{vs:Wu},b9 K Y H fs vs->b9 K Y H (bz fl v fs) (cQ fl y vs)
 |[],_,h=>by have e:=h;subst e;show#[y,[],rfl,q,rfl]
 |(g,x)::r,_,h=>by
  let#[w,k,e,m,t]:=h;subst e;change b9 K Y H (if g=fl then(g,v)::r else(g,x)::bz fl v r) (if g=fl then(g,y)::k else(g,w)::cQ fl y k);by_cases j:g=fl
  .rw[if_pos j,if_pos j];show#[y,k,rfl,q,t]
  .rw[if_neg j,if_neg j];show#[w,_,rfl,m,b9.put q t]
def JP(f:Str)(o e:E1):S1:=λU h=>rS U (e U h) λv h1=>rS U (o U h1) λov J=>match ov with
 |.ref i=>(match J[i]? with
  |some (.ins c fs)=>if fs.length<1000 then .next U (J.set i<|.ins c<|bz f v fs)else .stuck
  |_=>.stuck)
 |_=>.stuck
def Pu(ho:ah B X o mo)(hv:ah B X value mv)(hf:Yi B X.K fl)(hs:nS value (V<|.Attribute o fl pos') pos.line X.env=pure Zn:=by rfl):cK B X (.Assign [.Attribute o fl pos'] value pos) (JP fl mo mv):=by
 intro O s U H Y bE h Q E N K;calc Ei (cV hv N K λv h1 u s1 H1 W1 W n1 r1 K1=>cV ho W K1 λS J w s2 L G D n2 r2 j=>?_) hs;cases S with
 |ref i=>
  let#[w,I,a,e1,R]:=r2;subst e1;cases I;dsimp only at j;cases m:J[i]? with|none=>rw[m]at j;show(j).elim|some ob=>
   cases ob with
   |ins c fs=>
    rw[m]at j;dsimp only at j;split at j
    .rename_i hz;let#[C,P,Z,M,k,rp]:=D.at m R;let#[cl,na]:=hf c C M;let#[y,ry,q]:=r1;refine E4 D.inv k cl na (by rw[rp.length];show hz) ry λs3 I3=>?_
     have F:a9 G L G (upd L a<|.ins C P<|cQ fl y Z):=#[#[[],03],Ext.cH k<|by rw[k];show eP];let#[R3,_]:=D.rel.write (io:=.ins c<|bz fl v fs) R k (by rw[k];show eP) #[C,P,_,M,J0,b9.put (RV.mono (n2.trans F) _ _ q)<|b9.mono F _ _ rp];show j s3 U _ G #[I3,R3,D.st.mono F] F
    .show(j).elim
   |_=>rw[m]at j;show(j).elim
 |_=>show(j).elim
end
section
variable{B:aM}{X:Cx}{a b c:Expr}{ma mb mc:E1}{pos:Pos}
def Jg:IV->IV->IH->Res IV
 |.ref i,.int k,h=>match h[i]? with
  |some (.lst xs)=>(match a7 xs k with
   |some v=>.ok v h
   |none=>.stuck)
  |_=>.stuck
 |.cG xs,.int k,h=>match a7 xs k with
  |some v=>.ok v h
  |none=>.stuck
 |.tup xs,.int k,h=>match a7 xs k with
  |some v=>.ok v h
  |none=>.stuck
 |.str x,.int k,h=>if x.length<=sizeLine then(match a7 x.cps.toList k with
  |some c=>.ok (.str ⟨#[c]⟩) h
  |none=>.stuck)else .stuck
 |_,_,_=>.stuck
def vI{K:W.Frag}(r:aC K Y H xs vs)(e:a7 xs k=V v):∃u,a7 vs k=V u/\RV K Y H v u:=by unfold a7 at e ⊢;rw[r.length];cases q:jS xs.length k with|none=>rw[q]at e;cases e|some j=>rw[q]at e;show r.get e
def vJ(B:aM)(X:Cx)(g:IV->IV->IH->Res IV):Prop:=∀(value slice:Expr)(O:aZ)(s:Z1)(U:L2.St)(H:Hp)(Y:Ts)(bE:aI)(h:IH)(x y:IV)(v u:Zu)(Q:aQ)(E:aQ),aA B X O Y bE h U H s->RU X.K Y H x v->RU X.K Y H y u ->Kont B X RU O Y bE U H (g x y h) Q E->uM slice Zn v u=operate [v,u] (lQ v u)->Zz (Z5 X.prog X.w) X.A (yY value slice v u) Q E s
theorem vK(p:vB (X.bq E) r)(I:Inv X O U H s)(B:RelV x v)(m:RelV y u) (k:r x y H λz H'=>∀u s',Inv X O U H' s'->RelV z u->Q u s')(hs:uM slice Zn v u=operate [v,u] (lQ v u)):Zz (Z5 X.prog X.w) X.A (yY value slice v u) Q E s:=dm (p value slice O s U H x y v u _ (I.bq E) B m k hs) (λu s' ⟨_,_,j,r,q⟩=>q u s' j.bx r) λ_ _ z=>z
def Ai:vJ B X Jg:=by
 intro S P O s U H Y bE h x y v u Q E N D C K L;let#[xv,D,J]:=D;let#[yv,C,Z]:=C;cases y with
 |int k=>
  have e2:=Z;subst e2;cases x with
  |ref i=>
   let#[a,m,ha]:=J;subst m;dsimp only[Jg]at K;cases R:h[i]? with|none=>rw[R]at K;show(K).elim|some ob=>
    rw[R]at K;cases ob with
    |lst xs=>dsimp only at K;cases j:a7 xs k with|none=>rw[j]at K;show(K).elim|some z=>rw[j]at K;let#[G,m,r1]:=N.at R ha;let#[w,F,I]:=vI r1 j;show vK (Fi) N.inv D C #[a,G,k,w,rfl,rfl,cf.of m,F,aD N K I] L
    |_=>show(K).elim
  |cG xs=>let#[a,G,m,sa,M]:=J;subst m;dsimp only[Jg]at K;cases j:a7 xs k with|none=>rw[j]at K;show(K).elim|some z=>rw[j]at K;let#[w,F,I]:=vI M j;show vK (Fi) N.inv D C #[a,G,k,w,rfl,rfl,sa.sq,F,aD N K I] L
  |tup xs=>let#[a,G,m,sa,M]:=J;subst m;dsimp only[Jg]at K;cases j:a7 xs k with|none=>rw[j]at K;show(K).elim|some z=>rw[j]at K;let#[w,F,I]:=vI M j;show vK (NI) N.inv D C #[a,G,k,w,rfl,rfl,sa,F,aD N K I] L
  |str x=>
   have m:=J;subst m;dsimp only[Jg]at K;split at K
   .rename_i W;cases j:a7 x.cps.toList k with|none=>rw[j]at K;show(K).elim|some z=>rw[j]at K;show vK (NJ) N.inv D C #[x,k,z,rfl,rfl,W,j,aD N K rfl] L
   .show(K).elim
  |_=>show(K).elim
 |_=>cases x<;>show(K).elim
theorem Aj(F:vJ B X g)(ha:ah B X a ma)(Z:ah B X b mb)(hs:Fh b:=by intro _ _;rfl):ah B X (.Subscript a b pos) (Jc g ma mb):=λO s U H Y L h Q E N K=>
 Subscript_ (ha.run N K λx h1 u S R W M n1 P C=>Z.run M C λy J w G I D k n2 j m=>F a b O G U I D L J x y u w Q E k (P.mono n2) j m<|hs _ _)
abbrev O1:=aI->IH->Res (Wz)
def Pw:pF (Wz) Zu:=λ_ _ _ o u=>ke u o
def sT(B:aM)(X:Cx)(e:Wv)(m:O1):Prop:=PX B X Pw (evalPart e X.env) m
noncomputable def Q5:O1:=λ_ h=>.ok Zg h
def Qq(e:E1):O1:=λU h=>(e U h).bind λv h1=>match v with|.int i=>.ok (V i) h1|_=>.stuck
def Px:sT B X Zg Q5:=by intro O s U H Y j h Q E N K;show Zp<|K _ s H Y N .refl .none
def Py(ha:ah B X a ma):sT B X (V a) (Qq ma):=by
 intro O s U H Y I h Q E N K;refine ha.run N K λx J u C m D F n1 G k=>?_
 cases x with|int i=>let#[w,j,q]:=G;have e:=q;subst e;let#[t,rfl]:=j;show k _ C m D F .refl<|.int i t|_=>show(k).elim
def dY{α:Type}(xs:List α)(lo hi:Wz):List α:=(xs.drop<|HT.bT xs.length 0 lo).take<|HT.bT xs.length xs.length hi-HT.bT xs.length 0 lo
def ir:IV->Wz->Wz->IH->Res IV
 |.ref i,lo,hi,h=>match h[i]? with
  |some (.lst xs)=>.ok (.ref h.length)<|h++[.lst<|dY xs lo hi]
  |_=>.stuck
 |.cG xs,lo,hi,h=>.ok (.ref h.length)<|h++[.lst<|dY xs lo hi]
 |.tup xs,lo,hi,h=>.ok (.tup<|dY xs lo hi) h
 |_,_,_,_=>.stuck
def aC.cut{K:W.Frag}(r:aC K Y H xs vs)(lo hi):aC K Y H (dY xs lo hi) (jR vs lo hi):=by unfold dY jR;rw[r.length];show(r.drop _).take _
def gX(f:IV->Wz->Wz->IH->Res IV)(e:E1)(lo hi:O1):E1:=λU h=>(e U h).bind λx h1=>(lo U h1).bind λl J=>(hi U J).bind λu h3=>f x l u h3
def vL(B:aM)(X:Cx)(g:IV->Wz->Wz->IH->Res IV):Prop:=∀(O:aZ)(s:Z1)(U:L2.St)(H:Hp)(Y:Ts)(bE:aI)(h:IH)(x:IV)(v vl vu:Zu)(lo hi:Wz)(sl:Z8)(Q:aQ)(E:aQ),aA B X O Y bE h U H s->RU X.K Y H x v->s.heap.IsSliceOf sl vl vu .none->ke vl lo->ke vu hi ->Kont B X RU O Y bE U H (g x lo hi h) Q E->∃T id,typeLookup (.type T) "__getitem__"=pure (V<|.builtin id)/\s.TypeIs v T/\Zz (Z5 X.prog X.w) X.A (lQ v<|.ref sl) Q E s
def FW{lo hi:Wz}(p:Fe (X.bq E) r)(I:Inv X O U H s)(m:RelV x v) (hs:s.heap.IsSliceOf sl vl vu .none)(pl:ke vl lo)(C:ke vu hi)(k:r x lo hi H λz H'=>∀u s',Inv X O U H' s'->RelV z u->Q u s'):∃T id,typeLookup (.type T) "__getitem__"=pure (V<|.builtin id)/\s.TypeIs v T/\Zz (Z5 X.prog X.w) X.A (lQ v<|.ref sl) Q E s:=by let#[T,id,j,J,B]:=p O s U H x v vl vu lo hi sl _ (I.bq E) m hs pl C k;show#[T,id,j,J,dm B (λu s' ⟨_,_,D,r,q⟩=>q u s' D.bx r) λ_ _ z=>z]
def Pz{lo hi:Wv}(G:vL B X g)(he:ah B X a ma)(F:sT B X lo ml)(hu:sT B X hi mh):ah B X (.Subscript a (.Slice lo hi Zg p2) pos) (gX g ma ml mh):=by
 intro O s U H Y L h Q E N K;refine Subscript_<|he.run N K λx h1 v s1 H1 W1 M n1 r1 W=>?_
 refine wpAny_Slice<|PX.run F M W λl J C s2 H2 U2 S n2 pl R=>PX.run hu S R λu Z k j D U3 m n3 pu P=>?_
 calc Zp ?_;have I4:Inv X O U D {j with heap:=j.heap.push {cls:=.type "slice",data:=.fields (bS [C,k,.none])} }:=m.inv.kept λb ob q=>Zh _ q
 let#[T,id,I,ht,hg]:=G O {j with heap:=j.heap.push {cls:=.type "slice",data:=.fields (bS [C,k,.none])} } U D U3 L Z x v C k l u j.heap.objs.size Q E #[I4,m.rel,m.st] ((r1.mono n2).mono n3) (Heap.IsSliceOf.new ..) pl pu P;show tail_any ht I hg<|rfl
def aW(f:Tu->IH->Res IV)(a:A1):E1:=λU h=>(a U h).bind f
variable{es:Td}{mr:A1}{x:Str}{p:Pos}{id T:String}{g:Tu->IH->Res IV}
theorem V3(G:Qn B X (.builtin id) g)(D:Gl X x)(hm:X.mg x=Zg)(u:kd x=V (.builtin id))(ha:dX B X (a::es) mr)(hn:x≠"__name__":=by decide)(j:(x==("__debug__":Str))=Zn:=by decide) (J:ZR (a::es) X.env=(Zn,bp a X.env)::ZR es X.env:=by rfl)(k:(d8 pos<|ZR es X.env).any (·.1)=Zn:=by rfl):ah B X (.Call (.Name x p) (a::es) [] pos) (aW g mr):=λO s U H Y L h Q E N K=>
 iZ (Q3 N.inv D hm u (uX ((ha pos).run N K λxs R m I F M P n1 S C=>G O I U F M L R xs m Q E P S C) J k) hn j)
theorem vM(G:Qn B X (.type T) g)(D:Gl X x)(hm:X.mg x=Zg)(u:kd x=V (.type T))(ha:dX B X (a::es) mr)(hn:x≠"__name__":=by decide)(j:(x==("__debug__":Str))=Zn:=by decide) (J:ZR (a::es) X.env=(Zn,bp a X.env)::ZR es X.env:=by rfl)(k:(d8 pos<|ZR es X.env).any (·.1)=Zn:=by rfl):ah B X (.Call (.Name x p) (a::es) [] pos) (aW g mr):=λO s U H Y L h Q E N K=>
 iZ (Q3 N.inv D hm u (o9 ((ha pos).run N K λxs R m I F M P n1 S C=>G O I U F M L R xs m Q E P S C) J k) hn j)
def aO(f:IV->IH->Res IV):Tu->IH->Res IV|[x],h=>f x h|_,_=>.stuck
def kQ(f:IV->IV->IH->Res IV):Tu->IH->Res IV|[x,y],h=>f x y h|_,_=>.stuck
def aC.bJ{K:W.Frag}{x:IV}(r:aC K Y H [x] vs):∃v,vs=[v]/\RV K Y H x v:=by let#[v,m,e,q,j]:=r;have k:=j;subst k;show#[v,e,q]
def aC.gm{K:W.Frag}{x y:IV}(r:aC K Y H [x,y] vs):∃v w,vs=[v,w]/\RV K Y H x v/\RV K Y H y w:=by let#[v,u,e,q,j]:=r;let#[w,m,k]:=j.bJ;subst m;show#[v,w,e,q,k]
def Vt(m:∀(O:aZ)(s:Z1)(U:L2.St)(H:Hp)(Y:Ts)(bE:aI)(h:IH)(x:IV)(j:bA)(u:Zu)(Q E:aQ),aA B X O Y bE h U H s->RelV j u->RV X.K Y H x j ->Kont B X RU O Y bE U H (f x h) Q E->Zz (Z5 X.prog X.w) X.A (call fv [u]) Q E s):Qn B X fv (aO f):=by intro O s U H Y bE h xs F Q E N r K;let#[G,C,q]:=r;match xs,K with|[x],K=>let#[v,e,D]:=q.bJ;subst e;let#[u,rfl,k]:=Qr C;show m O s U H Y bE h x v u Q E N k D K|[],K=>show(K).elim|_::_::_,K=>show(K).elim
noncomputable def aS:IV->IH->Res IV
 |.str x,h=>if x.length<=sizeLine then .ok (.int x.length) h else .stuck
 |.tup xs,h=>.ok (.int xs.length) h
 |.cG xs,h=>.ok (.int xs.length) h
 |.ref i,h=>match h[i]? with
  |some (.lst xs)=>.ok (.int xs.length) h
  |_=>.stuck
 |_,_=>.stuck
theorem PA:Qn B X (.builtin "len") (aO aS):=Vt λO s U H Y L h x J u Q E N m C K=>by
 cases x with
 |str y=>
  have e:=C;subst e;dsimp only[aS]at K;split at K
  .rename_i G;show QF (vy) N.inv (.cons m .nil) #[_,_,rfl,#[G,rfl],aD N K rfl]
  .show(K).elim
 |tup xs=>let#[a,k,j,sa,D]:=C;subst j;show QF (vy) N.inv (.cons m .nil) #[_,xs.length,rfl,.inr #[k,sa,D.length.symm],aD N K rfl]
 |cG xs=>let#[a,k,j,sa,D]:=C;subst j;show QF (vy) N.inv (.cons m .nil) #[_,xs.length,rfl,.inl #[k,sa.sq,D.length.symm],aD N K rfl]
 |ref i=>
  let#[a,j,ha]:=C;subst j;dsimp only[aS]at K;cases F:h[i]? with|none=>rw[F]at K;show(K).elim|some ob=>rw[F]at K;cases ob with|lst xs=>let#[k,j,I]:=N.at F ha;show QF (vy) N.inv (.cons m .nil) #[_,xs.length,rfl,.inl #[k,cf.of j,I.length.symm],aD N K rfl]|_=>show(K).elim
 |_=>show(K).elim
end
def mX(n:Nat)(m:A1):Prop:=∀U h xs h',m U h=.ok xs h'->xs.length=n
theorem PB:mX 0 Je:=λ_ _ xs _ e=>by cases e;rfl
theorem PC(B:mX n r):mX (n+1) (Jb e r):=λU h xs C q=>by
 unfold Jb at q;cases m:e U h with
 |ok x j=>rw[m]at q;change (r U j).bind (λxs J=>.ok (x::xs) J)=_ at q;cases k:r U j with|ok u J=>rw[k]at q;cases q;rw[jJ,B U j u _ k]|exc n J=>rw[k]at q;cases q|stuck=>rw[k]at q;cases q
 |exc n j=>rw[m]at q;cases q
 |stuck=>rw[m]at q;cases q
def XW(K:W.Frag)(x:Str)(f:Tu->IH->Res IV):Sp:=λvs H Q E=>∀B,iQ B K [x] f vs H Q E
theorem PD{K:W.Frag}(F:bM P w K mg base (eB P w) κ k fa fd [x]<|iQ B K [x] f):bM P w K mg base (eB P w) κ k fa fd [x] (XW K x f):=F.imp λ_ _ _ _ h=>h B
noncomputable def toD (h:IH):Nat->IV->Option kD
 |0=>λv=>match v with
  |.af=>V .none
  |.bl b=>V<|.bool b
  |.int i=>V<|.int i
  |.str x=>V<|.str x
  |_=>Zg
 |n+1=>λv=>match v with
  |.af=>V .none
  |.bl b=>V<|.bool b
  |.int i=>V<|.int i
  |.str x=>V<|.str x
  |.tup xs=>(xs.mapM<|toD h n).map .tuple
  |.cG xs=>(xs.mapM<|toD h n).map .list
  |.ref i=>match h[i]? with
   |some (.lst xs)=>(xs.mapM<|toD h n).map .list
   |_=>Zg
section
variable{B:aM}{X:Cx}
theorem vN(N:aA B X O Y bE h U H s) (C:∀(v:IV)(d:kD)(x:bA)(u:Zu),toD h n v=V d->RV X.K Y H v x->RelV x u->∃as,Reads s.heap u d as):∀(xs:Tu)(ds:List kD)(vs:Ua)(us:Tt),xs.mapM (toD h n)=V ds->aC X.K Y H xs vs->Vals vs us->∃as,ReadsAll s.heap us ds as
 |[],ds,vs,us,e,q,r=>by have k:=q;subst k;cases r;simp at e;subst e;show#[_,.nil]
 |x::xs,ds,vs,us,e,q,r=>by
  let#[v,I,k,q1,G]:=q;subst k;cases r with
  |cons L E=>
   rw[yD]at e;cases m:toD h n x with
   |none=>rw[m]at e;cases e
   |some d=>
    rw[m]at e;cases j:xs.mapM (toD h n)with
    |none=>rw[j]at e;cases e
    |some F=>rw[j]at e;cases e;let#[as,D]:=C x d v _ m q1 L;let#[bs,J]:=vN N C xs F I _ j G E;show#[_,.cons D J]
def Vy(N:aA B X O Y bE h U H s):∀(n:Nat)(v:IV)(d:kD)(x:bA)(u:Zu),toD h n v=V d->RV X.K Y H v x->RelV x u->∃as,Reads s.heap u d as:=by
 have j:∀(v:IV)(d:kD)(x:bA)(u:Zu),toD h 0 v=V d->RV X.K Y H v x->RelV x u->∃as,Reads s.heap u d as:=by
  intro v d x u e q r;cases v with
  |af=>cases e;have k:x=.af:=q;subst k;cases r;show#[_,.none]
  |bl b=>cases e;have k:x=.bl b:=q;subst k;cases r;show#[_,.bool b]
  |int i=>cases e;have k:x=.int i:=q;subst k;let#[t,rfl]:=r;show#[_,.int i t]
  |str z=>cases e;have k:x=.str z:=q;subst k;let#[t,rfl]:=r;show#[_,.str z t]
  |_=>cases e
 intro n;induction n with
 |zero=>show j
 |succ n M=>
  intro v d x u e q r;cases v with
  |af=>show j .af d x u e q r
  |bl b=>show j (.bl b) d x u e q r
  |int i=>show j (.int i) d x u e q r
  |str z=>show j (.str z) d x u e q r
  |tup xs=>let#[a,E,k,sa,L]:=q;subst k;cases r;let#[ds,J,rfl]:=ZH.mp<|e;let#[C,F,#[o,ho,D,m,hd],Q]:=N.inv.tuple sa;let#[as,I]:=vN N M xs ds E C J L F;show#[_,.tuple ho D hd I]
  |cG xs=>let#[a,E,k,sa,L]:=q;subst k;cases r;let#[ds,J,rfl]:=ZH.mp<|e;let#[C,F,#[o,m,ho,D,_,hd],Q]:=N.inv.list sa.sq;let#[as,I]:=vN N M xs ds E C J L F;show#[_,.list ho D hd I]
  |ref i=>
   let#[a,k,ha]:=q;subst k;cases r;have G:(match h[i]? with|some (.lst xs)=>(xs.mapM<|toD h n).map sv|_=>Zg)=V d:=e;cases P:h[i]? with
   |none=>rw[P]at G;cases G
   |some ob=>
    rw[P]at G;cases ob with
    |lst xs=>let#[ds,J,rfl]:=ZH.mp G;let#[E,k,R]:=N.at P ha;let#[C,F,#[o,m,ho,D,_,hd],Q]:=N.inv.list<|cf.of k;let#[as,I]:=vN N M xs ds E C J R F;show#[_,.list ho D hd I]
    |_=>cases G
theorem vO(u:∀v d,f v=V d->d.depth<=n):∀(xs:Tu)(ds:List kD),xs.mapM f=V ds->PyData.depthAll ds<=n
 |[],ds,e=>by simp at e;subst e;show ZW _
 |x::xs,ds,e=>by
  rw[yD]at e;cases j:f x with
  |none=>rw[j]at e;cases e
  |some d=>
   rw[j]at e;cases k:xs.mapM f with
   |none=>rw[k]at e;cases e
   |some m=>rw[k]at e;cases e;have B:=u x d j;have J:=vO u xs m k;change max d.depth (PyData.depthAll m)<=n;show Nat.max_le.mpr #[B,J]
def vP:∀(n:Nat)(v:IV)(d:kD),toD h n v=V d->d.depth<=n:=by
 intro n;induction n with
 |zero=>intro v d e;cases v<;>cases e<;>show Zl _
 |succ n m=>
  intro v d e;cases v with
  |af=>cases e;show ZW _
  |bl b=>cases e;show ZW _
  |int i=>cases e;show ZW _
  |str z=>cases e;show ZW _
  |tup xs=>let#[ds,k,rfl]:=ZH.mp<|e;show ud<|vO m xs ds k
  |cG xs=>let#[ds,k,rfl]:=ZH.mp<|e;show ud<|vO m xs ds k
  |ref i=>
   have j:(match h[i]? with|some (.lst xs)=>(xs.mapM<|toD h n).map sv|_=>Zg)=V d:=e;cases u:h[i]? with
   |none=>rw[u]at j;cases j
   |some ob=>
    rw[u]at j;cases ob with
    |lst xs=>let#[ds,k,rfl]:=ZH.mp j;show ud<|vO m xs ds k
    |_=>cases j
noncomputable def Xp:IV->IV->Ww|.af,.af=>V Zj|.int i,.int j=>V<|decide (i=j)|.str i,.str j=>V<|decide (i=j)|.bl i,.bl j=>V<|decide (i=j)|_,_=>Zg
noncomputable def Vu (x y:IV)(h:IH):Ww:=match toD h 6 x,toD h 6 y with|some a,V b=>if a.canLay0=Zj/\b.canLay0=Zj then V (jy a b)else Zg|_,_=>Zg
noncomputable def jX (x y:IV)(h:IH):Res IV:=match Xp x y with|some b=>.ok (.bl b) h|none=>match Vu x y h with|some b=>.ok (.bl b) h|none=>.stuck
noncomputable def jE (x y:IV)(h:IH):Res IV:=match Xp x y with|some b=>.ok (.bl (!b)) h|none=>match Vu x y h with|some b=>.ok (.bl (!b)) h|none=>.stuck
def FX(e:Vu x y h=V b):∃k j,toD h 6 x=V k/\toD h 6 y=V j/\k.canLay0=Zj/\j.canLay0=Zj/\b=jy k j:=by
 unfold Vu at e;cases m:toD h 6 x with|none=>rw[m]at e;cases e|some k=>
  cases u:toD h 6 y with|none=>rw[m,u]at e;cases e|some j=>
   rw[m,u]at e;dsimp only at e;split at e
   .lia
   .cases e
def FY{K:W.Frag}(e:Xp x y=V b)(k:RV K Y H x xv)(m:RV K Y H y yv):pw xv yv=Zj/\decide (xv=yv)=b:=by
 cases x with
 |af=>cases y with|af=>cases e;cases (k);cases (m);show#[rfl,rfl]|_=>cases e
 |int i=>cases y with|int j=>cases e;cases (k);cases (m);show#[rfl,03]|_=>cases e
 |str i=>cases y with|str j=>cases e;cases (k);cases (m);show#[rfl,03]|_=>cases e
 |bl i=>cases y with|bl j=>cases e;cases (k);cases (m);show#[rfl,03]|_=>cases e
 |_=>cases y<;>cases e
def Ak(hu:X.A.units+64<kE):dz B X (d6 .Eq) jX:=by
 intro O s U H Y bE h x y v u Q E N j k K;let#[S,j,D]:=j;let#[L,k,I]:=k;unfold jX at K;cases C:Xp x y with|some b=>rw[C]at K;let#[Z,J]:=FY C D I;show Qk (Nf) N.inv j k #[Z,by rw[J];show aD N K rfl]|none=>rw[C]at K;cases m:Vu x y h with|none=>rw[m]at K;show(K).elim|some b=>rw[m]at K;let#[F,M,G,e2,W,P,rfl]:=FX m;let#[as,r1]:=Vy N 6 x F S v G D j;let#[bs,R]:=Vy N 6 y M L u e2 I k;have d1:=vP 6 x F G;show PySem.SeqAt.compareEq_reads r1 R W P 05<|aD N K rfl _ s N.inv rfl
def Al(hu:X.A.units+64<kE):dz B X (d6 .NotEq) jE:=by
 intro O s U H Y bE h x y v u Q E N j k K;let#[S,j,D]:=j;let#[L,k,I]:=k;unfold jE at K;cases C:Xp x y with|some b=>rw[C]at K;let#[Z,J]:=FY C D I;show Qk (Ng) N.inv j k #[Z,by rw[J];show aD N K rfl]|none=>rw[C]at K;cases m:Vu x y h with|none=>rw[m]at K;show(K).elim|some b=>rw[m]at K;let#[F,M,G,e2,W,P,rfl]:=FX m;let#[as,r1]:=Vy N 6 x F S v G D j;let#[bs,R]:=Vy N 6 y M L u e2 I k;have d1:=vP 6 x F G;show PySem.SeqAt.compareNe_reads r1 R W P 05<|aD N K rfl _ s N.inv rfl
def mY(x c:IV)(h:IH):Ww:=match toD h 6 c,toD h 6 x with|some (.list ds),V d=>if jP ds=Zj/\d.canLay0=Zj then V (ds.any λy=>jy y d)else Zg|some (.tuple ds),V d=>if jP ds=Zj/\d.canLay0=Zj then V (ds.any λy=>jy y d)else Zg|_,_=>Zg
noncomputable def ot (x c:IV)(h:IH):Res IV:=match mY x c h with|some b=>.ok (.bl b) h|none=>.stuck
def X1(x c:IV)(h:IH):Res IV:=match mY x c h with|some b=>.ok (.bl (!b)) h|none=>.stuck
def FZ(e:mY x c h=V b):∃ds d,(toD h 6 c=V (.list ds)\/toD h 6 c=V (.tuple ds))/\toD h 6 x=V d/\jP ds=Zj/\d.canLay0=Zj/\b=ds.any λy=>jy y d:=by
 unfold mY at e;cases k:toD h 6 c with|none=>rw[k]at e;cases e|some u=>
  cases m:toD h 6 x with|none=>rw[k,m]at e;cases u<;>cases e|some d=>
   rw[k,m]at e;cases u with
   |list ds=>
    dsimp only at e;split at e
    .rename_i j;cases e;show#[ds,d,.inl rfl,rfl,j.1,j.2,rfl]
    .cases e
   |tuple ds=>
    dsimp only at e;split at e
    .rename_i j;cases e;show#[ds,d,.inr rfl,rfl,j.1,j.2,rfl]
    .cases e
   |_=>cases e
def sU(Z:X.A.units+64<kE):dz B X (d6 .In) ot:=by
 intro O s U H Y W h x y v u Q E N m j K;let#[R,m,M]:=m;let#[D,j,I]:=j;unfold ot at K;cases k:mY x y h with|none=>rw[k]at K;show Zf K|some b=>
  rw[k]at K;let#[ds,d,P,L,J,F,rfl]:=FZ k;let#[bs,G]:=Vy N 6 x d R v L M m;have d2:=vP 6 x d L;rcases P with e1|e1
  .let#[S,C]:=Vy N 6 y _ D u e1 I j;show PySem.SeqAt.in_list_reads C G J F 05<|aD N K rfl _ s N.inv rfl
  .let#[S,C]:=Vy N 6 y _ D u e1 I j;show PySem.SeqAt.in_tuple_reads C G J F 05<|aD N K rfl _ s N.inv rfl
def PF(Z:X.A.units+64<kE):dz B X (d6 .NotIn) X1:=by
 intro O s U H Y W h x y v u Q E N m j K;let#[R,m,M]:=m;let#[D,j,I]:=j;unfold X1 at K;cases k:mY x y h with|none=>rw[k]at K;show Zf K|some b=>
  rw[k]at K;let#[ds,d,P,L,J,F,rfl]:=FZ k;let#[bs,G]:=Vy N 6 x d R v L M m;have d2:=vP 6 x d L;rcases P with e1|e1
  .let#[S,C]:=Vy N 6 y _ D u e1 I j;show PySem.SeqAt.notIn_list_reads C G J F 05<|aD N K rfl _ s N.inv rfl
  .let#[S,C]:=Vy N 6 y _ D u e1 I j;show PySem.SeqAt.notIn_tuple_reads C G J F 05<|aD N K rfl _ s N.inv rfl
noncomputable def sV:IV->IV->Ww|.af,.af=>V Zj|.bl a,.bl b=>V<|a==b|.bl _,.af=>V Zn|.int _,.af=>V Zn|.str _,.af=>V Zn|.tup _,.af=>V Zn|.cG _,.af=>V Zn|.ref _,.af=>V Zn|.af,.bl _=>V Zn|.int _,.bl _=>V Zn|.str _,.bl _=>V Zn|.tup _,.bl _=>V Zn|.cG _,.bl _=>V Zn|.ref _,.bl _=>V Zn|_,_=>Zg
noncomputable def mZ (x y:IV)(h:IH):Res IV:=match sV x y with|some b=>.ok (.bl b) h|none=>.stuck
noncomputable def Xd (x y:IV)(h:IH):Res IV:=match sV x y with|some b=>.ok (.bl (!b)) h|none=>.stuck
def F0{K:W.Frag}(e:sV x y=V b)(j:RU K Y H x v)(B:RU K Y H y u):plainIs v u=Zj/\(v==u)=b:=by
 let#[m,j,k]:=j;let#[E,B,D]:=B;cases y with
 |af=>cases (show E=.af from D);cases B;cases x with|af=>cases e;cases (show m=.af from k);cases j;show#[rfl,rfl]|bl c=>cases e;cases (show m=.bl c from k);cases j;show#[rfl,rfl]|int c=>cases e;cases (show m=.int c from k);let#[t,rfl]:=j;show#[rfl,rfl]|str c=>cases e;cases (show m=.str c from k);let#[t,rfl]:=j;show#[rfl,rfl]|tup c=>cases e;let#[a,C,rfl,_]:=k;cases j;show#[rfl,rfl]|cG c=>cases e;let#[a,C,rfl,_]:=k;cases j;show#[rfl,rfl]|ref c=>cases e;let#[a,rfl,_]:=k;cases j;show#[rfl,rfl]
 |bl d=>cases (show E=.bl d from D);cases B;cases x with|af=>cases e;cases (show m=.af from k);cases j;show#[rfl,rfl]|bl c=>cases e;cases (show m=.bl c from k);cases j;cases c<;>cases d<;>show#[rfl,rfl]|int c=>cases e;cases (show m=.int c from k);let#[t,rfl]:=j;show#[rfl,rfl]|str c=>cases e;cases (show m=.str c from k);let#[t,rfl]:=j;show#[rfl,rfl]|tup c=>cases e;let#[a,C,rfl,_]:=k;cases j;show#[rfl,rfl]|cG c=>cases e;let#[a,C,rfl,_]:=k;cases j;show#[rfl,rfl]|ref c=>cases e;let#[a,rfl,_]:=k;cases j;show#[rfl,rfl]
 |_=>cases x<;>cases e
def Am:dz B X (d6 .Is) mZ:=by intro O s U H Y D h x y v u Q E N C m K;unfold mZ at K;cases j:sV x y with|none=>rw[j]at K;show(K).elim|some b=>rw[j]at K;let#[k,J]:=F0 j C m;show wpAny_is_plain k<|by rw[J];show aD N K rfl _ s N.inv rfl
def PG:dz B X (d6 .IsNot) Xd:=by intro O s U H Y D h x y v u Q E N C m K;unfold Xd at K;cases j:sV x y with|none=>rw[j]at K;show(K).elim|some b=>rw[j]at K;let#[k,J]:=F0 j C m;show wpAny_isNot_plain k<|by rw[J];show aD N K rfl _ s N.inv rfl
inductive Ty where|af|bl|int|str|lst|tup|a8|ins (c:Str)|exc (c:Str)
noncomputable def gp:IV->IH->Option Ty|.af,_=>V .af|.bl _,_=>V .bl|.int _,_=>V .int|.str _,_=>V .str|.tup _,_=>V .tup|.cG _,_=>V .lst|.ref i,h=>match h[i]? with|some (.lst _)=>V .lst|some (.a8 _)=>V .a8|some (.ins c _)=>V<|.ins c|some (.exc c _)=>V<|.exc c|some (.iP c _)=>V<|.exc c|_=>Zg
structure kR(K:W.Frag)(C:Z8):Prop where
 cl:l9 K C
 ha:W.findIn K (.ref C) "__class__"=V (V<|.builtin "object.__class__")
 hn:W.specialIn K (.builtin "object.__class__") "__get__"=V (V<|.builtin "getset_descriptor.__get__")
 PH:W.takesIn K (.builtin "object.__class__")=V Zj
 hm:W.mroIn K C (.type "object")=V Zj
structure fH(B:aM)(K:W.Frag)(c:Zu)(dH:Ty->Ww):Prop where
 af:∀b,dH .af=V b->W.kitOne K (.type "NoneType") c=V b
 bl:∀b,dH .bl=V b->W.kitOne K (.type "bool") c=V b
 int:∀b,dH .int=V b->W.kitOne K (.type "int") c=V b
 str:∀b,dH .str=V b->W.kitOne K (.type "str") c=V b
 lst:∀b,dH .lst=V b->W.kitOne K (.type "list") c=V b
 tup:∀b,dH .tup=V b->W.kitOne K (.type "tuple") c=V b
 a8:∀b,dH .a8=V b->W.kitOne K (.type "dict") c=V b
 ins:∀k C b,dH (.ins k)=V b->B k=V C->kR K C/\W.kitOne K (.ref C) c=V b
 exc:∀k C b,dH (.exc k)=V b->W.nsIn K Z2 k=V (V<|.ref C)->gk K C/\W.kitOne K (.ref C) c=V b
def bP(dH:Ty->Ww)(e:E1):E1:=λU h=>(e U h).bind λv h1=>match (gp v h1).bind dH with|some b=>.ok (.bl b) h1|none=>.stuck
def PJ(N:aA B X O Y bE h U H s)(D:RU X.K Y H x u)(bD:fH B X.K c dH) (e:(gp x h).bind dH=V b)(k:∀tk,Q (.bool b) {s with toks:=tk}):Zz (Z5 X.prog X.w) A (call (.builtin "isinstance") [u,c]) Q E s:=by
 let#[xv,D,F]:=D;cases x with|af=>cases (F);cases D;show W.kia_one W.kitx_none N.inv.cN eP (bD.af b e) (λz=>nomatch z) k|bl i=>cases (F);cases D;show W.kia_one W.kitx_bool N.inv.cN eP (bD.bl b e) (λz=>nomatch z) k|int i=>cases (F);let#[t,rfl]:=D;show W.kia_one W.kitx_int N.inv.cN eP (bD.int b e) (λz=>nomatch z) k|str i=>cases (F);let#[t,rfl]:=D;show W.kia_one W.kitx_str N.inv.cN eP (bD.str b e) (λz=>nomatch z) k|tup xs=>let#[a,G,rfl,sa,_]:=F;cases D;let#[P,rv,#[o,ho,L,m,hd],hz]:=N.inv.tuple sa;show W.kia_one W.kitx_tuple N.inv.cN #[o,ho,L] (bD.tup b e) (λz=>nomatch z) k|cG xs=>let#[a,G,rfl,sa,_]:=F;cases D;let#[P,rv,#[o,m,ho,L,_,hd],hz]:=N.inv.list sa.sq;show W.kia_one W.kitx_list N.inv.cN #[o,ho,L] (bD.lst b e) (λz=>nomatch z) k|ref i=>
  let#[a,rfl,ha]:=F;cases D;cases j:h[i]? with|none=>simp[gp,j]at e|some ob=>cases ob with|lst xs=>simp![gp,j]at e;let#[G,Z,r1]:=N.at j ha;let#[P,rv,#[o,m,ho,L,_,hd],hz]:=N.inv.list<|cf.of Z;show W.kia_one W.kitx_list N.inv.cN #[o,ho,L] (bD.lst b e) (λz=>nomatch z) k|a8 kvs=>simp![gp,j]at e;let#[G,Z,r1]:=N.at j ha;let#[_,_,ws,_,p]:=(N.inv.az a _ Z);let#[o,es,ep,h1,J,_]:=p;show W.kia_one W.kitx_dict N.inv.cN #[o,h1,J.1] (bD.a8 b e) (λz=>nomatch z) k|ins c fs=>simp![gp,j]at e;let#[C,dx,G,M,S,rp]:=N.at j ha;let#[I,R]:=bD.ins c C b e M;let#[mA,Ob,_]:=vz N.inv.az S;let#[od,bB,_]:=Ob.look;show W.kia_one (W.kitx_own (I.cl.get _) I.cl.hd I.ha I.hn I.PH I.hm) N.inv.cN bB R (λz=>nomatch z) k|exc c fs=>simp![gp,j]at e;let#[C,tv,d,_,M,S,_]:=N.at j ha;let#[I,R]:=bD.exc c C b e M;let#[oe,G,Z,e2,_]:=cB.get N.inv.az S;show W.kia_one (FU I) N.inv.cN #[oe,Z,e2] R (λz=>nomatch z) k|iP c fs=>simp![gp,j]at e;let#[C,oe,u,G,_,M,S,e2,_]:=N.at j ha;let#[I,R]:=bD.exc c C b e M;show W.kia_one (FU I) N.inv.cN #[oe,(N.inv.az a _ S).1,e2] R (λz=>nomatch z) k|tab q=>simp[gp,j]at e
variable{a cx:Expr}{ma:E1}{pos p:Pos}
def kT(X:Cx)(cx:Expr)(c:Zu):Prop:=∀(O:aZ)(U:L2.St)(H:Hp)(s:Z1)(Q E:aQ),Inv X O U H s->Q c s->Zz (Z5 X.prog X.w) X.A (bp cx X.env) Q E s
theorem X3(m:Gl X x)(hm:X.mg x=Zg)(k:kd x=V c)(hn:x≠"__name__":=by decide)(j:(x==("__debug__":Str))=Zn:=by decide):kT X (.Name x p) c:=λ_ _ _ _ _ _ I q=>Q3 I m hm k q hn j
theorem F3(k:Gl X x)(hm:X.mg x=V c)(j:(x==("__debug__":Str))=Zn:=by decide):kT X (.Name x p) c:=λ_ _ _ _ _ _ I q=>V7 I k hm q j
def PK(J:kT X cx c)(bD:fH B X.K c dH)(ha:ah B X a ma)(I:Gl X "isinstance")(hm:X.mg "isinstance"=Zg)(G:kd "isinstance"=V (.builtin "isinstance"):=by rfl) (F:ZR [a,cx] X.env=(Zn,bp a X.env)::ZR [cx] X.env:=by rfl)(m:ZR [cx] X.env=(Zn,bp cx X.env)::ZR [] X.env:=by rfl)(C:(d8 pos<|ZR [cx] X.env).any (·.1)=Zn:=by rfl):ah B X (.Call (.Name "isinstance" p) [a,cx] [] pos) (bP dH ma):=by
 intro O s U H Y W h Q E N K;calc iZ<|Q3 N.inv I hm G ?_ 01 01;calc uX ?_ F C;rw[F];refine ze<|ha.run N K λx R u L D M j n1 S k=>?_
 rw[m];calc ze<|J O U D L _ E j.inv ?_;calc Calls.spliced_nil ?_;cases e:(gp x R).bind dH with|none=>rw[e]at k;show(k).elim|some b=>rw[e]at k;show PJ j S bD e λP=>k _ _ D M #[j.inv.tok P,j.rel,j.st] .refl #[.bl b,rfl,rfl]
def vQ:Ty->Ww|.int=>V Zj|.bl=>V Zj|.ins _=>Zg|.exc _=>Zg|_=>V Zn
def vR:Ty->Ww|.bl=>V Zj|.ins _=>Zg|.exc _=>Zg|_=>V Zn
def Ao:Ty->Ww|.str=>V Zj|.ins _=>Zg|.exc _=>Zg|_=>V Zn
def VG:Ty->Ww|.lst=>V Zj|.ins _=>Zg|.exc _=>Zg|_=>V Zn
def Xx:Ty->Ww|.tup=>V Zj|.ins _=>Zg|.exc _=>Zg|_=>V Zn
def PL{K:W.Frag}:fH B K (.type "bool") vR:=by calc#[?_,?_,?_,?_,?_,?_,?_,(λk C b e=>by cases e),(λk C b e=>by cases e)]<;>(intro b e;cases e;first|rfl|with_unfolding_all rfl|kernel_rfl)
def PM{K:W.Frag}:fH B K (.type "str") Ao:=by calc#[?_,?_,?_,?_,?_,?_,?_,(λk C b e=>by cases e),(λk C b e=>by cases e)]<;>(intro b e;cases e;first|rfl|with_unfolding_all rfl|kernel_rfl)
def PN{K:W.Frag}:fH B K (.type "list") VG:=by calc#[?_,?_,?_,?_,?_,?_,?_,(λk C b e=>by cases e),(λk C b e=>by cases e)]<;>(intro b e;cases e;first|rfl|with_unfolding_all rfl|kernel_rfl)
def PO{K:W.Frag}:fH B K (.type "tuple") Xx:=by calc#[?_,?_,?_,?_,?_,?_,?_,(λk C b e=>by cases e),(λk C b e=>by cases e)]<;>(intro b e;cases e;first|rfl|with_unfolding_all rfl|kernel_rfl)
def PQ{K:W.Frag}:fH B K (.type "int") vQ:=by calc#[?_,?_,?_,?_,?_,?_,?_,(λk C b e=>by cases e),(λk C b e=>by cases e)]<;>(intro b e;cases e;first|rfl|with_unfolding_all rfl|kernel_rfl)
end
noncomputable def bZ (cells:Wq):Wh->Wq->Wq|[],acc=>acc|(n,k)::r,acc=>bZ cells r (if (k==jz)=Zj then(match cells.lookup n with|some c=>(n,c)::acc|none=>acc)else acc)
def PR(names)(acc)(h:∀x∈names,x.2=.free->∃c,env.cells.lookup x.1=V c):
  (forIn names acc (λ(x:Str×nN)(r:Wq)=>if (x.2==jz)=Zj then(do let c<-cellOf env x.1;pure (l7 ((x.1,c)::r)))else pure (l7 r)):Sem<|Wq)=pure (bZ env.cells names acc):=by
 induction names generalizing acc with|nil=>rfl|cons x r C=>
  let#[n,k]:=x;have j:=λa=>C a λy D=>h y<|Zt _ D
  rw[List.forIn_cons];by_cases m:(k==jz)=Zj
  .have u:k=.free:=by cases k<;>first|rfl|show absurd m 01
   let#[c,B]:=h (n,k) ZD u;have E:cellOf env n=pure c:=by unfold cellOf;rw[B]
   simp![m,if_true,E,pure_bind];rw[j];simp![bZ,m,if_true,B]
  .simp only[m,lV,if_false,pure_bind];rw[j];simp![bZ,m,lV,if_false]
def vS(h:∀x∈scope.names,x.2=.free->∃c,env.cells.lookup x.1=V c):oY scope env=pure (bZ env.cells scope.names []):=by have e:=PR scope.names [] h;have j:oY scope env=((forIn scope.names [] (λ(x:Str×nN)(r:Wq)=>if (x.2==jz)=Zj then(do let c<-cellOf env x.1;pure (l7 ((x.1,c)::r)))else pure (l7 r)):Sem<|Wq)>>=λs=>pure s):=rfl;rw[j,e];rfl
theorem Ap:∀(names:Wh)(acc:Wq),(∀x c,acc.lookup x=V c->cells.lookup x=V c)->∀x c,(bZ cells names acc).lookup x=V c->cells.lookup x=V c
 |[],_,h,x,c,e=>h x c e
 |(n,k)::r,acc,h,x,c,e=>by
  calc Ap r _ ?_ x c e;intro y d q;split at q
  .cases j:cells.lookup n with
   |none=>rw[j]at q;show h y d q
   |some a=>
    rw[j]at q;simp![iX]at q;cases Z:y==n with
    |true=>rw[Z]at q;cases q;rw[beq_iff_eq.mp Z];show j
    |false=>rw[Z]at q;show h y d q
  .show h y d q
theorem F4:∀(names:Wh)(acc:Wq)(x:Str),(acc.lookup x).isSome=Zj->((bZ cells names acc).lookup x).isSome=Zj
 |[],_,_,h=>h
 |(n,k)::r,acc,x,h=>by
  calc F4 r _ x ?_;split
  .cases j:cells.lookup n with
   |none=>show h
   |some a=>
    simp![iX];cases Z:x==n with
    |true=>rfl
    |false=>show h
  .show h
theorem Yo:∀(names:Wh)(acc:Wq)(x:Str)(c:Z8),(x,jz)∈names->cells.lookup x=V c->((bZ cells names acc).lookup x).isSome=Zj
 |[],_,_,_,h,_=>by simp at h
 |(n,k)::r,acc,x,c,h,hc=>by
  rcases ZC.mp h with e|e
  .let#[rfl,rfl]:=Prod.mk.inj e;calc F4 r _ _ ?_;simp[hc]
  .show Yo r _ x c e hc
theorem Aq{env:Env}:∀{names:Wh}{x:Str}{k:nN},(names.map λ(n,k)=>if (k==jz&&env.scope.kind==.function&&env.kindOf n==V .cell)then(n,u6)else(n,k)).lookup x=V k ->∃k0,names.lookup x=V k0/\(k,k0)∈([(k0,k0),(.cell,.free)]:List<|nN×nN)
 |[],_,_,h=>by simp at h
 |(n,k1)::r,x,k,h=>by
  have C:=@Aq env r x k;have j:qt x ((if (k1==jz&&env.scope.kind==.function&&env.kindOf n==V .cell)=Zj then(n,u6)else(n,k1))::_)=V k:=h;cases u:x==n with
  |true=>
   calc#[k1,by simp[iX,u],?_];by_cases B:(k1==jz&&env.scope.kind==.function&&env.kindOf n==V .cell)=Zj
   .simp_all
   .rw[if_neg B]at j;simp![iX,u]at j;cases j;simp
  |false=>
   have J:qt x (r.map λ(n,k)=>if (k==jz&&env.scope.kind==.function&&env.kindOf n==V .cell)then(n,u6)else(n,k))=V k:=by
    by_cases B:(k1==jz&&env.scope.kind==.function&&env.kindOf n==V .cell)=Zj
    .rw[if_pos B]at j;simpa only[iX,u]using j
    .rw[if_neg B]at j;simpa only[iX,u]using j
   let#[k0,e,m]:=C J;show#[k0,by simp![iX,u];show e,m]
theorem F5{env:Env}:∀{names:Wh}{x:Str},names.lookup x=V .free ->∃k,(names.map λ(n,k)=>if (k==jz&&env.scope.kind==.function&&env.kindOf n==V .cell)then(n,u6)else(n,k)).lookup x=V k/\(k=.cell\/k=.free)
 |[],_,h=>by simp at h
 |(n,k1)::r,x,h=>by
  have u:=@F5 env r x;cases j:x==n with
  |true=>
   simp![iX,j]at h;cases h;by_cases m:(jz==jz&&env.scope.kind==.function&&env.kindOf n==V .cell)=Zj
   .show#[.cell,by rw[ZN];dsimp only;rw[if_pos m];simp![iX,j],.inl rfl]
   .show#[.free,by rw[ZN];dsimp only;rw[if_neg m];simp![iX,j],.inr rfl]
  |false=>
   simp![iX,j]at h;let#[k,e,q]:=u h;calc#[k,?_,q];rw[ZN];dsimp only;by_cases m:(k1==jz&&env.scope.kind==.function&&env.kindOf n==V .cell)=Zj
   .rw[if_pos m];simp![iX,j];show e
   .rw[if_neg m];simp![iX,j];show e
def ft(X:Cx)(N':Tj)(scope:eL)(C:Z8)(s:Z1)(H:Hp)(fp:Ts):Cx:={X with N:=N',s₀:=s,H₀:=H,env:=compEnvC scope (bZ X.env.cells scope.names []) C X.env,outer:=X.stack,ex:=fp,fn:=λ_=>Zn,pn:=[]}
noncomputable def QQ (N0 loc caps:Tj)(js:Tp)(sc₀ scope:eL):Bool:=decide (scope.kind=.function)&&decide (sc₀.kind=.function)&&scope.names.all (λx=>!(x.2==.cell))&&scope.names.all (λx=>!(x.2==.local)||decide (scope.names.lookup x.1=V .local)) && scope.names.all (λx=>!(x.2==.free)||decide (sc₀.names.lookup x.1=V .cell)||decide (sc₀.names.lookup x.1=V .free)) && scope.names.all (λx=>!(decide (scope.names.lookup x.1=V .free))||(x.2==.free)) && (js.zip caps).all (λp=>decide (N0[p.1]?=V p.2)&&decide (scope.names.lookup p.2=V .free))&&decide (js.length=caps.length)&&decide (loc++caps).Nodup && loc.all (λn=>decide (scope.names.lookup n=V .local))
open Classical in
def JV(ba:IH->Prop)(g:G1)(t:T1)(e:E1)(i0:Nat):Tu->aI->IH->Res IV|[],_,h=>if ba h then .ok (.ref i0) h else .stuck|x::xs,U,h=>if ba h then(match g x U h with|.next U1 h1=>(match t U1 h1 with|.ok Zj J=>(match e U1 J with|.ok v h3=>(match h3[i0]? with|some (.lst acc)=>if acc.length<sizeLine then JV ba g t e i0 xs U1 (h3.set i0<|.lst<|acc++[v])else .stuck|_=>.stuck)|_=>.stuck)|.ok Zn J=>JV ba g t e i0 xs U1 J|_=>.stuck)|_=>.stuck)else .stuck
noncomputable def stC (nloc:Nat)(js:Tp)(U:aI):aI:=fw nloc Zg++js.map λj=>(U[j]?).join
def Jy(it:I1)(nloc:Nat)(js:Tp)(g:G1)(t:T1)(e:E1):E1:=λU h=>(it U h).bind λbB h1=>JV bB.ba g t e h1.length bB.xs (stC nloc js U)<|h1++[.lst []]
def PS(I:Nat->Z1->Prop) (k:∀n s,I n s->Zz (Z5 prog w) A (fR it) (λr s₁=>match r with
   |none=>R (.ok .next) s₁
   |some v=>Zz (Z5 prog w) A (uE target it v) (λ_ s₁'=>Zz (Z5 prog w) A (lR target env v) (λ_ s₂=>
     Zz (Z5 prog w) A (forIn ifs Zj λc r=>if r=Zj then do let ok<-isTrue c env (bp c env);pure (l7 ok)else pure (l7 r)) (λok s₃=>
      if ok=Zj then Zz (Z5 prog w) A (bp elt env) (λx s₄=>
       Zz (Z5 prog w) A (call (.builtin "list.append") [acc,x]) (λ_ s₅=>∃m,m<n/\I m s₅) (λ_ _=>False) s₄) (λ_ _=>False) s₃
      else ∃m,m<n/\I m s₃) (λ_ _=>False) s₂) (λ_ _=>False) s₁') (λ_ _=>False) s₁) (λ_ _=>False) s)
  (n) (h:I n s):iK (Z5 prog w) A (.compLoop (.ListComp elt [#[target,iter,ifs,0]] scope pos) 0 it acc env) R s:=by
 calc codeAny_loop rfl I (λn s u=>?_) n h;calc wpAny_noted<|mW ?_;rw[compTurn_list];refine Ze<|jM<|Ze<|dm (k n s u) (λr s₁ h₁=>?_) λ_ _ j=>j
 cases r with
 |none=>show Zp h₁
 |some v=>
  refine Ze<|dm h₁ (λ_ s₁' h₁'=>?_) λ_ _ j=>j
  refine Ze<|dm h₁' (λ_ s₂ h₂=>Ze<|dm h₂ (λok s₃ h₃=>?_) λ_ _ j=>j) λ_ _ j=>j
  cases ok with
  |false=>show Zp #[rfl,h₃]
  |true=>show Ze<|Ze<|dm h₃ (λx s₄ h₄=>Ze<|dm h₄ (λ_ s₅ h₅=>Zp<|Zp #[rfl,h₅]) λ_ _ j=>j) λ_ _ j=>j
def kU(B:aM)(X:Cx)(ifs:Td)(m:T1):Prop:=PX B X RB (forIn ifs Zj λc r=>if r=Zj then do let ok<-isTrue c X.env (bp c X.env);pure (l7 ok)else pure (l7 r)) m
noncomputable def JB:T1:=λ_ h=>.ok Zj h
theorem F6:kU B X [] JB:=λ_ s _ H Y _ _ _ _ N K=>wpAny_tests_nil<|K Zj s H Y N .refl rfl
theorem F9(j:gh B X c m):kU B X [c] m:=λO s U H Y k h Q E N K=>wpAny_tests_one<|j O s U H Y k h Q E N K
def V2(B:aM)(X:Cx)(use:Option<|Zu->Sem Unit)(O:aZ)(Y:Ts)(bE:aI)(U:L2.St)(H:Hp)(r:Res IV)(Q E:aQ):Prop:=match r with|.ok v h'=>∀D C m s' H' Y',aA B X O Y' bE h' U H' s'->a9 Y H Y' H'->RU X.K Y' H' v (.ref D)->s'.heap.Ns C m->aF X O H' C->compPost (Z5 X.prog X.w) X.A E use Q (.ref D) C (.ok .next) s'|.exc n h'=>∀pl a s' H' Y',aA B X (O++pl) Y' bE h' U H' s'->a9 Y H Y' H'->Y'[n]?=V a->E (.ref a) s'|.stuck=>False
def V2.mono(k:V2 B X use O Y bE U H r Q E)(n:a9 Y H Y' H'):V2 B X use O Y' bE U H' r Q E:=by cases r with|ok v G=>show λD C m F u j N n2 q=>k D C m F u j N (n.trans n2) q|exc m G=>show λpl a F u j N n2 q=>k pl a F u j N (n.trans n2) q|stuck=>show k
structure sW(P:cz)(w:bL)(C:Cx->Hp->Prop)(tg:Expr)(bB:It)(fp:Ts)(it:Z8)(tn:Nat->bc->Prop):Prop where
 obj:∀i h,tn i h->∀b∈fp,∃o,h.get? b=V o/\∀v,o.data≠.cell v
 keep:∀i h h',tn i h->(∀b∈fp,∀o,h.get? b=V o->h'.get? b=V o)->tn i h'
 item:∀(X:Cx)(i:Nat)(s:Z1)(U:L2.St)(H:Hp),C X H->Inv X [] U H s->(∀b∈fp,aF X [] H b)->tn i s.heap->bB.go i H ->Zz (Z5 P w) X.A (fR<|.ref it) (λr s1=>∃u,r=V u/\Zz (Z5 P w) X.A (uE tg (.ref it) u) (λ_ s2=>∃x H',Inv X [] U H' s2/\RelV x u/\bB.zy i H x H'/\tn (i+1) s2.heap/\∀b∈fp,H' b=Zg) (λ_ _=>False) s1) (λ_ _=>False) s
 done:∀(X:Cx)(i:Nat)(s:Z1)(U:L2.St)(H:Hp),C X H->Inv X [] U H s->(∀b∈fp,aF X [] H b)->tn i s.heap->bB.stop i H->Zz (Z5 P w) X.A (fR<|.ref it) (λr s1=>r=Zg/\Inv X [] U H s1) (λ_ _=>False) s
 self:∀(A:cu)(i:Nat)(s:Z1)(Q:aQ)(E:aQ),tn i s.heap->Q (.ref it) s->Zz (Z5 P w) A (kz<|.ref it) Q E s
def PT(X0:Cx)(X:Cx)(_:Hp):Prop:=X.prog=X0.prog/\X.w=X0.w/\X.K=X0.K/\X.calm=Zj
def Ar(C:Cx->Hp->Prop)(B:aM)(X:Cx)(tg:Expr)(O:aZ)(Y':Ts)(I:jW)(itv:Zu)(s2:Z1)(H':Hp):Prop:=∃(it:Z8)(fp:Ts)(tn:Nat->bc->Prop)(bB:It),itv=.ref it/\sW X.prog X.w C tg bB fp it tn/\tn 0 s2.heap/\(∀b∈fp,aF X O H' b)/\gj B X.K Y' H' bB I
def Ga(C:Cx->Hp->Prop)(B:aM)(X:Cx)(tg iter:Expr)(m:I1):Prop:=∀(O:aZ)(s:Z1)(U:L2.St)(H:Hp)(Y:Ts)(bE:aI)(h:IH)(Q:aQ)(E:aQ),aA B X O Y bE h U H s ->(match m bE h with|.ok I h'=>∀itv s' H' Y',aA B X O Y' bE h' U H' s'->a9 Y H Y' H'->Ar C B X tg O Y' I itv s' H'->Q itv s'|.exc n h'=>∀pl a s' H' Y',aA B X (O++pl) Y' bE h' U H' s'->a9 Y H Y' H'->Y'[n]?=V a->E (.ref a) s'|.stuck=>False) ->
  Zz (Z5 X.prog X.w) X.A (bp iter X.env) (λv s1=>Zz (Z5 X.prog X.w) X.A (kz v) Q E s1) E s
theorem ji.c(p:ji B X tg iter m):Ga (PT X) B X tg iter m:=λO s U H Y C h Q E N k=>p O s U H Y C h Q E N (by
 cases e:m C h with|exc n F=>rw[e]at k;show k|stuck=>rw[e]at k;show k|ok I F=>
  rw[e]at k;intro j J L R G S ⟨it,D,tn,M,P,T,r⟩;refine k j J L R G S #[it,D,tn,M,P,#[T.obj,T.keep,λu i s U H c=>?_,λu i s U H c=>?_,T.self],r]
  .show T.item u c.1 c.2.1 c.2.2.1 c.2.2.2 i [] s U H _
  .show T.done u c.1 c.2.1 c.2.2.1 c.2.2.2 i [] s U H _)
section
variable{B:aM}{X:Cx}
def Gb{mt:T1}(hi:Ga Cc B X tg iter mi)
  (hg:∀C s H G,jh B (ft X (loc++caps) scope C s H G) tg g)(ht:∀C s H G,kU B (ft X (loc++caps) scope C s H G) ifs mt)(he:∀C s H G,ah B (ft X (loc++caps) scope C s H G) elt me)
  (ok:QQ N0 loc caps js sc₀ scope=Zj)(hN0:X.N=N0:=by rfl)(hsc:X.env.scope=sc₀:=by rfl)(hs:∀x,rT iter X.env x=pure x:=by intro _;rfl)
  (hcc:∀C s H1 G H',Ext H H'->Cc (ft X (loc++caps) scope C s H1 G) H')(N:aA B X O Y bE h U H s)(K:V2 B X use O Y bE U H (Jy mi loc.length js g mt me bE h) Q E):
  Zz (Z5 X.prog X.w) X.A (comprehension (.ListComp elt [#[tg,iter,ifs,0]] scope pos) scope X.env ppos (newList []) Zn (bp iter X.env) use) Q E s:=by
 simp![QQ,Zr,decide_eq_true_eq,mG,o3,lW,beq_iff_eq,beq_eq_false_iff_ne]at ok;let#[#[#[#[#[#[#[#[#[kF,kF0],kNC],kL],kFr],kFx],kJ],kLen],kNd],kLo]:=ok;have hfree:∀x∈scope.names,x.2=.free->X.env.kindOf x.1=V .cell\/X.env.kindOf x.1=V .free:=λx hx S=>by
  have e:X.env.kindOf x.1=sc₀.names.lookup x.1:=by rw[<-hsc];rfl
  rw[e];rcases kFr x hx with(z|z)|z
  .show absurd S z
  .show .inl z
  .show .inr z
 have hclos:oY scope X.env=pure (bZ X.env.cells scope.names []):=vS λx hx S=>N.inv.ok.has x.1<|hfree x hx S
 calc wpAny_comprehension_free (use:=use) (e:=.ListComp elt [#[tg,iter,ifs,0]] scope pos) rfl hs hclos kF (λx hx hl=>(kL x hx).resolve_left λz=>z hl) ?_;calc hi O s U H Y bE h _ E N ?_;unfold Jy at K;cases e0:mi bE h with|exc n h'=>rw[e0]at K;show K|stuck=>rw[e0]at K;show K|ok M h1=>
  rw[e0]at K;intro itv s1 H1 W1 N1 n1 RI;let#[it,G,tn,bB,e,T,st1,f1,OK]:=RI;subst e
  -- the list
  calc lM ?_;have fresh1:H1 s1.heap.objs.size=Zg:=N1.inv.az.fresh<|Zl _;have W:Inv X O U (upd H1 s1.heap.objs.size<|.lst []) {s1 with heap:=s1.heap.push {cls:=.type "list",dict:=Zg,data:=.seq ([]:Tt).toArray} }:=
   N1.inv.laid (t':=s1.toks) (λb u e=>Zh _ e) (Zl _) #[ZW _,[],0,.nil,Zw _ rfl]
  let#[R2,n2]:=N1.rel.alloc (o:=.lst []) (io:=.lst []) fresh1 #[[],J0,rfl];generalize hs2:({s1 with heap:=s1.heap.push {cls:=.type "list",dict:=Zg,data:=.seq ([]:Tt).toArray} }:Z1)=L at W ⊢;generalize hD:s1.heap.objs.size=D at *;generalize hH2:upd H1 D (.lst [])=P at *;have N2:aA B X O (W1++[D]) bE (h1++[.lst []]) U P L:=#[W,R2,N1.st.mono n2];have keep12:∀b o,s1.heap.get? b=V o->L.heap.get? b=V o:=λb o q=>by rw[<-hs2];show Zh _ q
  have st2:tn 0 L.heap:=T.keep 0 _ _ st1 λb _ o q=>keep12 b o q
  have hat:(W1++[D])[h1.length]?=V D:=by rw[<-N1.rel.len,ZU<|Zl _];simp
  have f2:∀b∈G,aF X O P b:=λb Z=>by
   calc#[?_,(f1 b Z).2];let#[o,ho,_]:=T.obj 0 _ st1 b Z;have:b≠D:=Zv<|by rw[<-hD];show Z0 ho
   rw[<-hH2,Js this];show(f1 b Z).1
  -- the block's own dict
  calc wpAny_newFunctionEnv (λx hx=>kNC x hx) (by intro y hy;simp at hy) (λh3 hns3 hsb3=>?_) kF;generalize hC:L.heap.objs.size=C at *;have J:∀b o,L.heap.get? b=V o->h3.get? b=V o:=λb o q=>(hsb3.2 b<|Zv<|by rw[<-hC];show Z0 q).trans<|Zh _ q
  have F:∀x c,(bZ X.env.cells scope.names []).lookup x=V c->X.env.cells.lookup x=V c:=Ap _ _ (λx c q=>by simp at q)
  -- the context of the block
  have okX:(ft X (loc++caps) scope C L P G).Ok:=by
   refine#[N.inv.ok.mod,kF,N.inv.ok.glob,N.inv.ok.blt,Zi hC,λx y c a b=>N.inv.ok.inj x y c (F x c a)<|F y c b,λx hx=>?_,λx c z=>?_,λhc=>W.cS hc,N.inv.ok.frames,.inl rfl,λb Z=>?_,λb o q=>W.bs b o q,
    Zb N.inv.ok.kh W.sz,λb o q Z=>?_,λb Z z=>?_,W.stack,W.dE]
   .have hx':(relabel scope X.env).names.lookup x=V .cell\/(relabel scope X.env).names.lookup x=V .free:=hx;have hfr:scope.names.lookup x=V .free:=by
     rcases hx' with z|z
     .let#[k0,e,m]:=Aq z;simp![ZC,Prod.mk.injEq,fu,or_false]at m;rcases m with⟨m1,_⟩|⟨_,m2⟩
      .show absurd (kNC _<|jL e) (by rw[<-m1];intro q;show q rfl)
      .rw[m2]at e;show e
     .let#[k0,e,m]:=Aq z;simp![ZC,Prod.mk.injEq,fu,or_false]at m;rcases m with⟨m1,_⟩|⟨m1,_⟩
      .rw[<-m1]at e;show e
      .cases m1
    have hm:=jL hfr;let#[c,hc']:=N.inv.ok.has x<|hfree (x,.free) hm rfl;show qf.mp<|Yo _ _ x c hm hc'
   .show absurd (show Zn=Zj from z) Zx
   .have hbD:=f2 b Z;let#[o,ho,_]:=T.obj 0 _ st2 b Z;show#[Zv (by change b<C;rw[<-hC];show Z0 ho),λx c q=>hbD.2.2.2.2.1 x c<|F x c q]
   .rcases(f2 b Z).2.2.2.1 with z|z
    .show N.inv.ok.jb b o q z
    .show iU _<|ZL (Z0 q)<|Zb N.inv.ok.kh z
   .rcases ZC.mp (W.jc b z)with e|e
    .show(f2 b Z).2.1 e
    .show(f2 b Z).2.2.1 e
  -- the block's state
  have lenJ:js.length=caps.length:=kLen;have stl:(stC loc.length js bE).length=(loc++caps).length:=by simp[stC,lenJ]
  have R3:Rel B X.K (W1++[D]) (h1++[.lst []]) P:=R2;have I3:Inv (ft X (loc++caps) scope C L P G) [] (fw loc.length Zg++js.map λj=>(U[j]?).join) P {L with heap:=h3,toks:=L.toks+([]:Wn).length}:=by
   refine#[okX,rfl,W.bare,Un.kept J,#[_,hns3,λi x v a b c=>?_],λx c q=>?_,W.az.fresh<|Zi hC,λx c q=>W.bY x c<|F x c q,λp hp=>absurd (show p∈([]:aZ)from hp) 03,W.az.kept J,by change _=(loc++caps).length;simp[lenJ]]
   .have hi:loc.length<=i:=by
     refine ZI λR=>?_
     rw[ZV (by simpa using R),uk]at b;split at b<;>cases b
    obtain⟨k,rfl⟩:∃k,i=loc.length+k:=#[i-loc.length,ZQ (Zi (lE hi).symm)<|iT hi<|Zl _];have a':(loc++caps)[loc.length+k]?=V x:=a;rw[ZU 00]at a';rw[ZU 03]at b;simp![Nat.add_sub_cancel_left,rG,ZK]at a' b;cases ej:js[k]? with|none=>rw[ej]at b;cases b|some j=>
     rw[ej]at b;have b':(U[j]?).join=V v:=hV b;have hZ:U[j]?=V (V v):=by cases es:U[j]? with|none=>rw[es]at b';cases b'|some o=>rw[es]at b';rw[show o=V v from b']
     have hz:=kJ (j,x) (List.mem_iff_getElem?.mpr #[k,by rw[List.getElem?_zip_eq_some];show#[ej,a']]);let#[hx1,hx2]:=hz;let#[m,hn,hl]:=W.loc;have S:=hfree (x,.free) (jL hx2) rfl;let#[u,ru,lk]:=hl j x v (by rw[hN0];show hx1) hZ (by rcases S with q|q;show .inr (.inl q);show .inr (.inr q));rcases lk with⟨q,_⟩|⟨q,c,hc',hcell⟩
     .rcases S with q'|q'<;>(rw[q']at q;cases q)
     .let#[kk,ek,hkk]:=F5 (env:=X.env) hx2;have hcl:=Yo (cells:=X.env.cells) scope.names [] x c (jL hx2) hc';let#[c',hc2]:=qf.mp hcl;have:=F x c' hc2;rw[hc']at this;cases this;let#[oc,hoc,hd]:=hcell;calc#[u,ru,.inr #[?_,c,hc2,oc,J _ _ hoc,hd]];rcases hkk with rfl|rfl
      .show .inl ek
      .show .inr ek
   .let#[v,o,ho,hd]:=W.cell x c<|F x c q;show#[v,o,J _ _ ho,hd]
  have N3:aA B (ft X (loc++caps) scope C L P G) [] (W1++[D]) (stC loc.length js bE) (h1++[.lst []]) (fw loc.length Zg++js.map λj=>(U[j]?).join) P {L with heap:=h3,toks:=L.toks+([]:Wn).length}:=by
   calc#[I3,R3,by simp[stC],λi v q=>?_];unfold stC at q;have hi:loc.length<=i:=by
    refine ZI λR=>?_
    rw[ZV (by simpa using R),uk]at q;split at q<;>cases q
   rw[ZU<|by simpa using hi]at q;simp![rG,ZK]at q;cases ej:js[i-loc.length]? with|none=>rw[ej]at q;cases q|some j=>
    rw[ej]at q;have q':(bE[j]?).join=V v:=hV q;have hZ:bE[j]?=V (V v):=by cases es:bE[j]? with|none=>rw[es]at q';cases q'|some o=>rw[es]at q';rw[show o=V v from q']
    let#[u,hu,qu]:=N2.st.at_ j v hZ;calc#[u,?_,qu];rw[ZU<|by simpa using hi];simp![rG,ZK,ej,Option.map_some,hu];rfl
  have st3:tn 0 h3:=T.keep 0 _ _ st2 λb _ o q=>J b o q
  have K2:V2 B X use O (W1++[D]) bE U P (JV M.ba g mt me h1.length M.xs (stC loc.length js bE)<|h1++[.lst []]) Q E:=V2.mono (r:=JV M.ba g mt me h1.length M.xs (stC loc.length js bE)<|h1++[.lst []]) K<|n1.trans n2;have loop:iK (Z5 X.prog X.w) X.A (.compLoop (.ListComp elt [#[tg,iter,ifs,0]] scope pos) 0 (.ref it) (.ref D)<|compEnvC scope (bZ X.env.cells scope.names []) C X.env) (compPost (Z5 X.prog X.w) X.A E use Q (.ref D) C)
    {L with heap:=h3,toks:=L.toks+([]:Wn).length}:=by
   refine PS (λn s'=>∃k Pk Uk S U' H',aA B (ft X (loc++caps) scope C L P G) [] Pk Uk S U' H' s'/\a9 (W1++[D]) P Pk H'/\tn k s'.heap/\(∀b∈G,H' b=Zg)/\n=M.xs.length-k/\k<=M.xs.length/\V2 B X use O Pk bE U H' (JV M.ba g mt me h1.length (M.xs.drop k) Uk S) Q E) ?_ M.xs.length
    #[0,W1++[D],stC loc.length js bE,h1++[.lst []],_,P,N3,.refl,st3,λb Z=>(f2 b Z).1,03,ZW _,by simpa using K2]
   have stat:∀{H':Hp},(∀b∈G,H' b=Zg)->∀b∈G,aF (ft X (loc++caps) scope C L P G) [] H' b:=λhn b Z=>
    #[hn b Z,(okX.qX b Z).1,okX.h2 b Z,.inl Z,(okX.qX b Z).2,λp hp=>absurd (show p∈([]:aZ)from hp) 03]
   rintro n s4 ⟨k,Pk,Uk,S,W4,H4,N4,n4,st4,fr4,rfl,hkl,I⟩;by_cases R:k<M.xs.length
   .have hd:M.xs.drop k=M.xs[k]::M.xs.drop (k+1):=oN R;rw[hd]at I;unfold JV at I;split at I
    .rename_i hck;let#[go,yl]:=OK.go k M.xs[k] S H4 Pk (n2.trans n4) N4.rel hck<|Zd R;refine qY (T.item (ft X (loc++caps) scope C L P G) k s4 W4 H4 (hcc _ _ _ _ _ (n1.trans<|n2.trans n4).ext) N4.inv (stat fr4) st4 go) λr s5 ⟨u,hr,h5⟩=>?_
     subst hr;refine qY h5 λ_ s6 ⟨x,H6,I6,r6,y6,st6,fr6⟩=>?_
     let#[R6,n6,q6]:=yl x H6 y6;have I6':=I6.pinned (stat fr6)<|T.obj _ _ st6;have N6:aA B (ft X (loc++caps) scope C L P G) ([]++QV G s6.heap) Pk Uk S W4 H6 s6:=#[I6',R6,N4.st.mono n6];have again:∀{W7:L2.St}{H7:Hp}{s7:Z1}{U7i:aI}{h7:IH}{U7:Ts},aA B (ft X (loc++caps) scope C L P G) ([]++QV G s6.heap) U7 U7i h7 W7 H7 s7->a9 Pk H6 U7 H7->V2 B X use O Pk bE U H4 (JV M.ba g mt me h1.length (M.xs.drop<|k+1) U7i h7) Q E ->
       ∃m,m<M.xs.length-k/\∃k Pk Uk S U' H',aA B (ft X (loc++caps) scope C L P G) [] Pk Uk S U' H' s7/\a9 (W1++[D]) P Pk H'/\tn k s7.heap/\(∀b∈G,H' b=Zg)/\m=M.xs.length-k/\k<=M.xs.length/\V2 B X use O Pk bE U H' (JV M.ba g mt me h1.length (M.xs.drop k) Uk S) Q E:=
      λ{W7 H7 s7 U7i h7 U7} N7 n7 K7=>by have nn:a9 Pk H4 U7 H7:=n6.trans n7;calc#[M.xs.length-(k+1),rC _ _ 06,k+1,U7,U7i,h7,W7,H7,N7.pins,n4.trans nn,T.keep _ _ _ st6 λb Z o e=>(N7.inv.pin (b,o)<|Zo _<|Zo _<|Y7 Z e).1,λb Z=>?_,rfl,R,K7.mono nn];let#[o,e,d]:=T.obj _ _ st6 b Z;show(N7.inv.pin (b,o)<|Zo _<|Zo _<|Y7 Z e).2.1
     cases eg:g M.xs[k] Uk S with
     |next Ug hgg=>
      rw[eg]at I;dsimp only at I;calc hg C L P G _ s6 W4 H6 Pk Uk S _ u (λ_ s7=>Zz (Z5 X.prog X.w) X.A (forIn ifs Zj λc r=>if r=Zj then do let ok<-isTrue c _ (bp c _);pure (l7 ok)else pure (l7 r)) _ _ s7) (λ_ _=>False) N6 #[x,r6,q6] ?_;rw[eg];intro s7 W7 H7 U7 N7 n7;calc ht C L P G _ s7 W7 H7 U7 Ug hgg _ (λ_ _=>False) N7 ?_;cases et:mt Ug hgg with
      |ok c h8=>
       rw[et]at I;intro d s8 H8 U8 N8 n8 rd;have rd':d=c:=rd;subst rd';cases d with|false=>show again N8 (n7.trans n8) I|true=>
        dsimp only at I;calc he C L P G _ s8 W7 H8 U8 Ug h8 _ (λ_ _=>False) N8 ?_;cases ee:me Ug h8 with
        |ok v h9=>
         rw[ee]at I;dsimp only at I;intro w s9 H9 U9 N9 n9 rw9;have hat9:U9[h1.length]?=V D:=(((n4.trans n6).trans n7).trans<|n8.trans n9).at hat;cases hl:h9[h1.length]? with|none=>rw[hl]at I;show Zf I|some ob=>
          rw[hl]at I;cases ob with
          |lst acc=>
           dsimp only at I;split at I
           .rename_i hz;let#[vs,eD,rD]:=N9.at hl hat9;let#[wv,rw9,qw]:=rw9;have ap:=Ft (X:=(ft X (loc++caps) scope C L P G).bq λ_ _=>False) ([]++QV G s6.heap) s9 W7 H9 (.ref D) [wv] (.ref D) [w] (λ_ H'=>H'=upd H9 D (.lst<|vs++[wv])) (N9.inv.bq _) rfl (.cons rw9 .nil) #[D,vs,wv,rfl,rfl,eD,by rw[rD.length];show hz,rfl];refine dm ap (λ_ s10 hq=>?_) λ_ _ z=>z
            let#[z,H10,I10,_,rfl]:=hq;have n10:a9 U9 H9 U9 (upd H9 D<|.lst<|vs++[wv]):=#[#[[],03],Ext.cH eD<|by rw[eD];show eP];let#[R10,_]:=N9.rel.write (o:=.lst<|vs++[wv]) (io:=.lst<|acc++[v]) hat9 eD (by rw[eD];show eP) #[_,J0,(aC.mono n10 _ _ rD).append<|aC.one<|RV.mono n10 _ _ qw];show again #[I10.bx,R10,N9.st.mono n10] (((n7.trans n8).trans n9).trans n10) I
           .show Zf I
          |_=>show Zf I
        |_=>rw[ee]at I;show Zf I
      |_=>rw[et]at I;show Zf I
     |_=>rw[eg]at I;show Zf I
    .show Zf I
   .have hke:M.xs.drop k=[]:=yp<|ZI R;rw[hke]at I;unfold JV at I;split at I
    .rename_i hck;have stop:=OK.stop k S H4 Pk (n2.trans n4) N4.rel hck<|ZI R;refine qY (T.done (ft X (loc++caps) scope C L P G) k s4 W4 H4 (hcc _ _ _ _ _ (n1.trans<|n2.trans n4).ext) N4.inv (stat fr4) st4 stop) λr s5 ⟨hr,I5⟩=>?_
     subst hr;let#[m,hnm,_]:=I5.loc
     -- back to the def's own frame
     have hos:s5.os=L.os:=I5.os;let#[hp5,g5,d5,t5,os5]:=s5;obtain rfl:os5=L.os:=hos;have J5:Inv X O U H4 {L with heap:=hp5,gens:=g5,drawn:=d5,toks:=t5}:=W.call (ch:=G) I5.base I5.az I5.bare λb Z=>#[(f2 b Z).2.2.2.1,(f2 b Z).2.1,(f2 b Z).2.2.2.2.1,(f2 b Z).2.2.2.2.2]
     have fC:aF X O H4 C:=W.c8 (Zi hC) I5.free;show I D C m _ H4 Pk #[J5,N4.rel,(N2.st.mono n4)] .refl #[.ref D,rfl,D,rfl,n4.at hat] hnm fC
    .show Zf I
  show codeAny_compStart_list loop<|T.self X.A 0 _ _ _ st3 loop
theorem aA.ow{O:aZ}(N:aA B X O Y bE h U H s)(fC:aF X O H C)(j:mJ C s.heap h'):aA B X O Y bE h U H {s with heap:=h'}:=
 #[N.inv.turned (λb o Z q=>(j.2 b Z).trans q) fC.1 fC.2.1 fC.2.2.2.1 fC.2.2.2.2.1 fC.2.2.2.2.2,N.rel,N.st]
def Ge{k:T1}(S:X.calm=Zj)(hi:ji B X tg iter mi) (M:∀C s H j,jh B (ft X (loc++caps) scope C s H j) tg g)(P:∀C s H j,kU B (ft X (loc++caps) scope C s H j) ifs k)(he:∀C s H j,ah B (ft X (loc++caps) scope C s H j) elt me) (ok:QQ N0 loc caps js sc₀ scope=Zj)(u:X.N=N0:=by rfl)(G:X.env.scope=sc₀:=by rfl)(hs:∀x,rT iter X.env x=pure x:=by intro _;rfl):ah B X (.ListComp elt [#[tg,iter,ifs,0]] scope pos) (Jy mi loc.length js g k me):=by intro O s U H Y bE h Q E N K;calc Gb hi.c M P he ok u G hs (λ_ _ _ _ _ _=>#[rfl,rfl,rfl,S]) N ?_;cases I:Jy mi loc.length js g k me bE h with|exc n L=>rw[I]at K;show K|stuck=>rw[I]at K;show K|ok v L=>rw[I]at K;show λD C m s' W Z R n' r F fC=>#[m,F,λJ sb=>K _ _ W Z (R.ow fC sb) n' r]
def Gf{mt:T1}(hc:X.calm=Zj)(hi:ji B X tg iter mi) (hg:∀C s H G,jh B (ft X (loc++caps) scope C s H G) tg g)(ht:∀C s H G,kU B (ft X (loc++caps) scope C s H G) ifs mt)(he:∀C s H G,ah B (ft X (loc++caps) scope C s H G) elt me) (ok:QQ N0 loc caps js sc₀ scope=Zj)(hN0:X.N=N0:=by rfl)(hsc:X.env.scope=sc₀:=by rfl)(hs:∀x,rT iter X.env x=pure x) (hN:X.N.Nodup)(M:X.N[i]?=V x)(S:Loc X.env.scope x)(hf:X.fn x=Zj\/X.env.scope.names.lookup x=V .local) (P:nS (.ListComp elt [#[tg,iter,ifs,0]] scope pos) (V<|.Name x pos2) pos3.line X.env=pure Zj):cK B X (.Assign [.Name x pos2] (.ListComp elt [#[tg,iter,ifs,0]] scope pos) pos3) (Jl i<|Jy mi loc.length js g mt me):=by
 intro O s U H Y bE h Q E N K;rw[exec_Assign_Name_used _ _ _ _ P];calc Ze<|jM<|Ze ?_;calc Ze ?_;calc Gb hi.c hg ht he ok hN0 hsc hs (λ_ _ _ _ _ _=>#[rfl,rfl,rfl,hc]) N ?_;unfold Jl at K;cases e0:Jy mi loc.length js g mt me bE h with|exc n h'=>rw[e0]at K;show λpl a u F L I W q=>K pl a u U F L I W q u<|.inl rfl|stuck=>rw[e0]at K;show K|ok v h'=>
  rw[e0]at K;intro D C m u F L I W r R fC;let#[w,rw',q]:=r;let#[oC,es,ep,k,kW,j]:=id R;have hp:Inv X (O++QV [C] u.heap) U F u:=I.inv.pinned (λb Z=>(show b=C by simpa using Z)▸fC) (λb Z=>by
   have e:b=C:=by simpa using Z
   subst e;show#[oC,k,λv z=>by rw[kW]at z;cases z])
  calc wpAny_assign_Name<|YK hp hN M S rw' (λs2 I2=>?_) hf;have hC2:=(I2.pin (C,oC)<|Zo _<|Zo _<|Y7 03 k).1;calc#[m,#[oC,es,ep,hC2,kW,j],λJ sb=>Zp ?_];have N2:aA B X O L (bE.set i<|V v) h' (U.set i<|V w) F s2:=#[I2.ib,I.rel,I.st.set i q];show Zp<|K _ _ F L (N2.ow fC sb) W
noncomputable def VU (x:Str):Tu:=x.cps.toList.map λc=>.str ⟨#[c]⟩
def vT(x:Str):It:=#[λi _=>i<x.cps.size,λi H y H'=>H'=H/\∃c,x.cps[i]?=V c/\y=.str ⟨#[c]⟩,λi _=>x.cps.size<=i]
theorem Gg{P:cz}{w:bL}{K:W.Frag}{tg:Expr}{x:Str}{t:Tok}(it:Z8)(J:["enumerate","zip","dict_itemiterator","dict_reverseitemiterator","odict_iterator","itertools.zip_longest","itertools.pairwise"].contains ty=Zn) (Wi:∀(A:cu)(E:aQ)(s:Z1)(i c:Nat)(Q:Tb->Z1->Prop),s.heap.IsStrIter it ty x t i->x.cps[i]?=V c->(∀h',h'.IsStrIter it ty x t (i+1)->mJ it s.heap h'->Q (V<|.str ⟨#[c]⟩ s.toks) {s with heap:=h',toks:=s.toks+1})->Zz (Z5 P w) A (fR<|.ref it) Q E s) (We:∀(A:cu)(E:aQ)(s:Z1)(i:Nat)(Q:Tb->Z1->Prop),aK A s.heap->s.heap.IsStrIter it ty x t i->x.cps[i]?=Zg->(∀h',f6 it s.heap h'->Q Zg {s with heap:=h'})->Zz (Z5 P w) A (fR<|.ref it) Q E s) (Ws:∀(A:cu)(E:aQ)(s:Z1)(i:Nat)(Q:aQ),s.heap.IsStrIter it ty x t i->Q (.ref it) s->Zz (Z5 P w) A (kz<|.ref it) Q E s):Turn P w K tg (vT x) [it] it (λi h=>h.IsStrIter it ty x t i) where
 mem:=03
 obj:=λi h st b Z=>by
  have e:b=it:=by simpa using Z
  subst e;let#[o,e,c,d]:=st;show#[o,e,λv z=>by rw[d]at z;cases z]
 keep:=λi h h' st k=>by let#[o,e,r]:=st;show#[o,k it 03 o e,r]
 item:=by
  intro X M C F Y i O s U H E I B st m;subst M C F;let#[S,R,f2,L,D,G]:=B it 03;have m:i<x.cps.size:=m;have u:=og m;refine Wi X.A _ s i _ _ st u λh' j sb=>?_
  have I1:Inv X O U H {s with heap:=h',toks:=s.toks+1}:=I.turned (λb o Z e=>(sb.2 b Z).trans e) S R L D G;let#[o,e,c1,d1]:=id j;show#[_,rfl,vr (s:={s with heap:=h',toks:=s.toks+1}) e c1 d1 J #[.str ⟨#[_]⟩,H,I1,#[_,rfl],#[rfl,_,u,rfl],j,λb Z=>(B b Z).1]]
 done:=by
  intro X M C F Y i O s U H E I B st m;subst M C F;let#[S,R,f2,L,D,G]:=B it 03;have hi:x.cps.size<=i:=m;have hx:x.cps[i]?=Zg:=by simp[hi]
  show We X.A _ s i _ (I.cw Y) st hx λh' eb=>#[rfl,I.turned (t':=s.toks) (λb o Z e=>eb b o Z e) S R L D G]
 self:=λA i s Q E st h=>Ws A E s i Q st h
def vU:IV->IH->Res jW|.str x,h=>.ok #[VU x,λ_=>True] h|_,_=>.stuck
def pH(e:E1):I1:=λU h=>(e U h).bind vU
def Gh:gj B X.K Y H₀ (vT x) #[VU x,λ_=>True]:=by
 refine#[λk v h H F C R m j=>?_,λk h H F C R m j=>?_]
 .have u:k<x.cps.size:=by have:=(Zs.mp j).1;simpa[VU]using this
  calc#[u,λy G E=>?_];let#[rfl,c,D,rfl]:=E;simp![VU,ZK,Et,D]at j;cases j;show#[R,.refl,rfl]
 .have:(VU x).length=x.cps.size:=by simp[VU]
  change x.cps.size<=k;rw[<-this];show j
def PU(R:ah B X l ml):ji B X tg l (pH ml):=by
 intro O s U H Y L h Q E N K;calc R O s U H Y L h _ E N ?_;unfold pH at K;cases J:ml L h with|exc n P=>rw[J]at K;show K|stuck=>rw[J]at K;show K|ok v P=>
  rw[J]at K;intro u k D M j n1 S;let#[w,I,q]:=S;have fresh:∀b∈[k.heap.objs.size],aF X O D b:=λb Z=>by
   have e:b=k.heap.objs.size:=by simpa using Z
   subst e;show j.inv.c8 (Zl _)<|j.inv.az.fresh<|Zl _
  cases v with
  |str x=>have W:w=.str x:=q;subst W;let#[t,rfl]:=I;simp![Res.bind,vU]at K;cases ha:x.cps.all (· < 128)with|true=>calc wpAny_pyIter_ascii ha<|K _ _ D M #[j.inv.kept (t':=k.toks) λb o e=>Zh _ e,j.rel,j.st] n1 ?_;show#[k.heap.objs.size,[k.heap.objs.size],_,vT x,rfl,Gg (ty:="str_ascii_iterator") (t:=t) _ 01 (λA E s i c Q st m C=>wpAny_pyNext_ascii_item st m C) (λA E s i Q G st m C=>MB G st m C) λA E s i Q st F=>wpAny_pyIter_striter_ascii st F,#[_,Zw _ rfl,rfl,rfl],fresh,Gh]|false=>calc wpAny_pyIter_wide ha<|K _ _ D M #[j.inv.kept (t':=k.toks) λb o e=>Zh _ e,j.rel,j.st] n1 ?_;show#[k.heap.objs.size,[k.heap.objs.size],_,vT x,rfl,Gg (ty:="str_iterator") (t:=t) _ 01 (λA E s i c Q st m C=>wpAny_pyNext_wide_item st m C) (λA E s i Q G st m C=>MC G st m C) λA E s i Q st F=>wpAny_pyIter_striter_wide st F,#[_,Zw _ rfl,rfl,rfl],fresh,Gh]
  |_=>simp![Res.bind,vU]at K
def As(K:W.Frag)(a:Z8):It:=#[λi H=>∃xs x,cf K H a xs/\xs[i]?=V x,λi H y H'=>∃p x,H p=Zg/\y=.ref p/\H'=upd H p (.tup [.int (i:Int),x])/\∀xs,cf K H a xs->xs[i]?=V x,λi H=>∃xs,cf K H a xs/\xs.length<=i]
def Gi(I:Inv X O U H s)(E:aF X O H e)(D:aF X O H it)(le:e<s.heap.objs.size)(F:it<s.heap.objs.size)(k2:∀b o,b≠e->b≠it->s.heap.get? b=V o->J.get? b=V o)(t2:J.get? s.heap.objs.size=V {cls:=.type "tuple",data:=.seq (bS [.int i tk,y])})(L:RelV x y):
  Inv X O U (upd H s.heap.objs.size<|.tup [.int (i:Int),x]) {s with heap:=J,toks:=t'}/\∀b∈[e,it],upd H s.heap.objs.size (.tup [.int (i:Int),x]) b=Zg:=by
 have hn:H s.heap.objs.size=Zg:=I.az.fresh<|Zl _;have j:∀b u,H b=V u->b≠s.heap.objs.size:=λb u q=>QU q hn
 have B:∀b o,b∉[e,it]->s.heap.get? b=V o->J.get? b=V o:=λb o k=>k2 b o (λz=>k<|by simp[z]) (λz=>k<|by simp[z])
 have C:∀b∈[e,it],aF X O H b/\b<s.heap.objs.size:=λb Z=>by
  simp![ZC,fu,or_false]at Z;rcases Z with rfl|rfl
  .show#[E,le]
  .show#[D,F]
 refine#[I.step (g':=s.gens) (d':=s.drawn) (ch:=[e,it]) (λb Z=>?_) (λb o _ _ k q _=>B b o k q) (λb o _ _ k q _=>#[o.slots,B b o k q]) (λb o _ q n=>?_)
  (λb o k q=>#[o,B b o k q]) (λb xs q=>by rw[Js<|j b _ q];show q) (λb o u q=>by rw[Js<|j b _ q];show q) (λb ps q=>#[#[],by rw[Js<|j b _ q,q];simp]) (λm hm=>?_) (λb u q=>?_) I.bare,λb Z=>?_]
 .have f:=(C b Z).1;show#[f.2.2.2.1,f.2.1,f.2.2.2.2.1,f.2.2.2.2.2]
 .rw[Js<|Zv<|Z0 q];show n
 .let#[o,G,M,ho,r]:=hm;show#[o,G,M,k2 _ o (bI E.2.1) (bI D.2.1) ho,r]
 .by_cases Z:b=s.heap.objs.size
  .subst Z;rw[J0]at q;cases q;show#[by change 2<=sizeLine;decide,[.int i tk,y],.cons #[_,rfl]<|.cons L .nil,#[_,t2,rfl,_,rfl]]
  .rw[Js Z]at q;refine(I.az b u q).eQ (λc v k r=>B c v (λz=>?_) r) (λc q=>by rw[Js<|j c _ q];show q) λc P q=>by rw[Js<|j c _ q];show q
   have:=(C c z).1.1;rcases k with rfl|w
   .rw[this]at q;cases q
   .rw[this]at w;cases w
 .rw[Js<|Zv (C b Z).2];show(C b Z).1.1
theorem PV{P:cz}{w:bL}{K:W.Frag}{es:Td}{k:Nat}{p:Pos}(a it e:Z8)(B:e≠it):Turn P w K (.Tuple es k p) (As K a) [e,it] e (λi h=>(∃old,IsEnum h e it (i:Int) old)/\h.IsListIter it a i) where
 mem:=03
 obj:=λi h st b Z=>by
  let#[#[old,j],o,e1,c,d]:=st;simp![ZC,fu,or_false]at Z;rcases Z with rfl|rfl
  .show#[_,j,λv z=>by have z':Data.fields _=sC v:=z;cases z']
  .show#[o,e1,λv z=>by rw[d]at z;cases z]
 keep:=λi h h' st k=>#[let ⟨old,j⟩:=st.1;#[old,k e 03 _ j],st.2.at λo e=>k it 03 o e]
 item:=by
  intro X hP L hK hc i O s U H E I G st hg;subst hP L hK;let#[#[old,j],m]:=st;let#[xs,x,D,F]:=hg;let#[its,R,pl,hz]:=I.list D;let#[u,hu,ru]:=R.get F;have fe:=G e 03;have fi:=G it 03;refine wpAny_pyNext_enum_item j m pl.isList (x:=u) (by simpa using hu) B λh' he' C ht hsz kk=>?_
  calc#[_,rfl,Ej he' λJ Q Y=>?_];have ki:=Z0 j;let#[oi,M,_]:=id m;let#[o,q,r]:=C;let#[I1,S]:=Gi (t':=s.toks+1) I fe fi ki (Z0 M) (λb o h1 h3 q=>(Y.2 b h1).trans<|kk b o h1 h3 q) ((Y.2 _<|dC ki).trans ht) ru;show#[.ref s.heap.objs.size,_,I1,rfl,#[s.heap.objs.size,x,I.az.fresh<|Zl _,rfl,rfl,λys hy=>by rw[I.ia hy D];show F],#[#[_,Q],o,(Y.2 it<|bI B).trans q,r],S]
 done:=by intro X hP L hK hc i O s U H E I G st hg;subst hP L hK;let#[#[old,j],m]:=st;let#[xs,D,F]:=hg;let#[its,R,p,hz]:=I.list D;let#[f0,S,f2,f3,f4,f5]:=G it 03;have hl:=R.length;show MD (I.cw hc) j m p.isList (by simp;show Zb (Zi hl.symm) F) λh' eb=>#[rfl,I.turned (t':=s.toks) (λb o Z e=>eb b o Z e) f0 S f3 f4 f5]
 self:=λ_ _ _ _ _ st h=>let ⟨_,j⟩:=st.1;uD j h
noncomputable def Q9 (n:Nat):Tu->Tu|[]=>[]|x::xs=>.tup [.int n,x]::Q9 (n+1) xs
theorem vV:∀(xs:Tu)(n k:Nat),(Q9 n xs)[k]?=(xs[k]?).map λx=>.tup [.int ((n+k:Nat):Int),x]|[],_,_=>by simp[Q9]|x::xs,n,0=>by simp[Q9]|x::xs,n,k+1=>by simp![Q9,List.getElem?_cons_succ];rw[vV xs (n+1) k];have:n+1+k=n+(k+1):=oJ _ _ _;rw[this]
theorem Xf:∀(xs:Tu)(n:Nat),(Q9 n xs).length=xs.length|[],_=>rfl|_::xs,n=>by simp[Q9,Xf xs]
def V4:Tu->IH->Res jW
 |[.ref i],h=>match h[i]? with
  |some (.lst xs)=>.ok #[Q9 0 xs,λh'=>h'[i]?=V (.lst xs)] h
  |_=>.stuck
 |_,_=>.stuck
def PW{i:Nat}(ha:Y[i]?=V a):gj B X.K Y H₀ (As X.K a) #[Q9 0 xs,λh'=>h'[i]?=V (.lst xs)]:=by
 refine#[λk v h H S E R j I=>?_,λk h H S E R j I=>?_]
 .let#[D,C,L]:=R.get j<|E.at ha;have m:=I;rw[vV]at m;let#[x,G,rfl]:=ZH.mp m;let#[u,M,Q]:=L.get G;calc#[#[D,u,cf.of C,M],λy U J=>?_];let#[p,W,F,rfl,rfl,J]:=J;have:=J D<|cf.of C;rw[M]at this;cases this;let#[P,O]:=R.grow F;calc#[P,O,p,_,rfl,eu.of J0,#[_,_,rfl,?_,_,_,rfl,RV.mono O _ _ Q,rfl]];change bA.int (k:Int)=bA.int ((0+k:Nat):Int);simp
 .let#[D,C,L]:=R.get j<|E.at ha;show#[D,cf.of C,by rw[L.length,<-Xf xs 0];show I]
def PY(hg:Gl X "enumerate")(hm:X.mg "enumerate"=Zg)(ha:dX B X [a] ma)(hs:ZR [a] X.env=[(Zn,bp a X.env)]:=by rfl):ji B X (.Tuple es kt pt) (.Call (.Name "enumerate" p) [a] [] pos) (c4 V4 ma):=by
 intro O s U H Y I h Q E N K;calc Call_<|Q3 N.inv hg hm boot_enumerate<|o9 ?_ hs rfl;calc ha pos O s U H Y I h _ E N ?_;unfold c4 at K;cases C:ma I h with|exc n F=>rw[C]at K;show K|stuck=>rw[C]at K;show K|ok vs F=>
  rw[C]at K;intro us k P W1 j n1 r1;let#[xs,rv,S]:=r1;cases vs with|nil=>show(K).elim|cons x t=>
   cases x with
   |ref i=>
    cases t with|cons _ _=>show(K).elim|nil=>
     let#[w,e1,q]:=S.bJ;subst e1;let#[b,R,Z]:=q;subst R;let#[u,rfl,ru]:=Qr rv;cases ru;cases m:F[i]? with|none=>simp![Res.bind,V4,m]at K|some ob=>
      cases ob with
      |lst ys=>
       simp![Res.bind,V4,m]at K;let#[ws,eH,rH]:=j.at m Z;let#[z,its,n,r,hl,W]:=j.inv.f9 eH;refine call_enumerate_1 W λJ L D M kp=>?_
       calc uD L<|K _ _ P W1 #[j.inv.kept kp,j.rel,j.st] n1 ?_;calc#[k.heap.objs.size+1,[k.heap.objs.size+1,k.heap.objs.size],_,As X.K b,rfl,PV b k.heap.objs.size (k.heap.objs.size+1)<|dC<|ZS _,#[#[_,L],D],λc G=>?_,PW Z];simp at G;rcases G with rfl|rfl
       .show j.inv.c8 (fY _)<|j.inv.az.fresh<|fY _
       .show j.inv.c8 (Zl _)<|j.inv.az.fresh<|Zl _
      |_=>simp![Res.bind,V4,m]at K
   |_=>show(K).elim
end
noncomputable def vW:IV->IH->Res jW|.str x,h=>vU (.str x) h|v,h=>iq v h
def Jw(e:E1):I1:=λU h=>(e U h).bind vW
def vX(k:ah B X l ml):ji B X tg l (Jw ml):=by
 intro O s U H Y j h Q E N K;cases m:ml j h with
 |ok v u=>cases v with|str x=>show PU k O s U H Y j h Q E N<|by unfold pH;unfold Jw at K;rw[m]at K ⊢;show K|_=>show Ae (tg:=tg) k O s U H Y j h Q E N<|by unfold kP;unfold Jw at K;rw[m]at K ⊢;show K
 |exc n u=>show Ae (tg:=tg) k O s U H Y j h Q E N<|by unfold kP;unfold Jw at K;rw[m]at K ⊢;show K
 |stuck=>show Ae (tg:=tg) k O s U H Y j h Q E N<|by unfold kP;unfold Jw at K;rw[m]at K ⊢;show K
section
variable{B:aM}{X:Cx}
def PZ{lo hi:Wz}(j:IsTup s.heap t items)(hs:s.heap.IsSliceOf sl vl vu .none)(pl:ke vl lo)(H:ke vu hi) (G:HT.bT items.size 0 lo=0/\HT.bT items.size items.size hi=items.size->Q (.ref t) s) (h:¬(HT.bT items.size 0 lo=0/\HT.bT items.size items.size hi=items.size)->Q (.ref s.heap.objs.size) {s with heap:=s.heap.push {cls:=.type "tuple",data:=.seq ((items.toList.drop<|HT.bT items.size 0 lo).take<|HT.bT items.size items.size hi-HT.bT items.size 0 lo).toArray} }) (hsz:items.size<=sizeLine):Zz (Z5 prog w) A (lQ (.ref t)<|.ref sl) Q E s:=by
 have k:sizeOk (.seq ((items.toList.drop<|HT.bT items.size 0 lo).take<|HT.bT items.size items.size hi-HT.bT items.size 0 lo).toArray):=by change(bS _).size<=sizeLine;rw[ZT,e9,lJ,o8];show Zb (Zb (jI _ _)<|nF _ _) hsz
 have I:HT.bT items.size items.size hi<=items.size:=HT.pA _ _ (Zl _) hi;let#[os,u,B,D]:=id hs;have F:s.TypeIs (.ref sl) "slice":=#[os,u,B];unfold lQ;try with_reducible refine eF ?_
 first|refine Ze (Zp ?_)|skip
 calc Ze<|wpAny_sequenceKey j.typeIs 01 ?_;calc Ze (rO (name:=ZP "__getitem__") j.typeIs Eu (rW Eu j.typeIs entry_tuple_getitem ?_<|args_tuple_getitem _ _));change Zz _ _ (Builtin.Tuple.tupleItemsOf (.ref t)>>=_) _ _ s;calc Ze<|tupleItemsOf_ j ?_;calc Ze<|yM F ?_;rw[if_pos 01];calc Ze<|HT.dW hs pl H ?_;have C:((((HT.bT items.size 0 lo:Nat):Int)==0&&(1:Int)==1&&(HT.bT items.size items.size hi-HT.bT items.size 0 lo)==items.size)=Zj)↔(HT.bT items.size 0 lo=0/\HT.bT items.size items.size hi=items.size):=by rw[Zr,Zr,beq_iff_eq,beq_iff_eq,beq_iff_eq];lia
 change Zz _ _ (if (((HT.bT items.size 0 lo:Nat):Int)==0&&(1:Int)==1&&(HT.bT items.size items.size hi-HT.bT items.size 0 lo)==items.size)=Zj then _ else _) _ _ s;by_cases c:HT.bT items.size 0 lo=0/\HT.bT items.size items.size hi=items.size
 .rw[if_pos<|C.mpr c];calc Ze<|Ze<|yM j.typeIs<|Zp ?_;rw[if_pos 01];show Ze<|lO<|Zp #[_,rfl,Zp<|G c]
 .rw[if_neg λz=>c<|C.mp z,HT.kI];have h:=h c;first
   |show Ze (m:=u9 _) (lM (Zp #[_,rfl,Zp h]) k)
   |show Ze (m:=u9 _) (lM (Ze (Zp (Zp #[_,rfl,Zp h]))) k)
   |show Ze (Ze (m:=u9 _) (lM (Zp (Zp #[_,rfl,Zp h])) k))
   |show Ze (Ze (m:=u9 _) (lM (Zp #[_,rfl,Zp h]) k))
def sX:vL B X ir:=by
 intro O s U H Y W h x v vl vu lo k sl Q E N F P pl M K;let#[xv,F,I]:=F;cases x with
 |ref i=>
  let#[a,u,ha]:=I;subst u;dsimp only[ir]at K;cases m:h[i]? with|none=>rw[m]at K;show Zf K|some ob=>rw[m]at K;cases ob with|lst xs=>let#[j,u,Z]:=N.at m ha;show FW (Fj (X:=X.bq E)) N.inv F P pl M #[a,j,rfl,cf.of u,λp D=>fB N K p D #[_,J0,aC.new D<|Z.cut lo k]]|_=>show Zf K
 |cG xs=>let#[a,j,u,sa,C]:=I;subst u;show FW (Fj (X:=X.bq E)) N.inv F P pl M #[a,j,rfl,sa.sq,λp D=>fB N K p D #[_,J0,aC.new D<|C.cut lo k]]
 |tup xs=>
  let#[a,j,u,sa,C]:=I;subst u;cases F;let#[L,r,S,R]:=N.inv.tuple sa;have J:L.toArray.size=j.length:=by rw[ZT];show r.length.symm
  have K:Kont B X RU O Y W U H (.ok (.tup<|dY xs lo k) h) Q E:=K;refine#["tuple",_,PyProof.Rows.slot_tuple_getitem.lookup,S.typeIs,PZ S P pl M (λG=>?_) (λ_=>?_)<|by rw[J];show R]
  .rw[J,C.length]at G;have e:dY xs lo k=xs:=by unfold dY;rw[G.1,G.2];show mC<|Zl _
   rw[e]at K;show aD N K #[a,j,rfl,sa,C] _ _ N.inv rfl
  .rw[J];calc mU N K _ (N.inv.az.fresh<|Zl _) (C.cut lo k) _ _ (N.inv.laid (t':=s.toks) (o:=.tup<|jR j lo k) (λb ob q=>Zh _ q) (Zl _) ?_) rfl;show#[Zb (Ff j lo k) R,_,(r.drop<|HT.bT j.length 0 lo).take<|HT.bT j.length j.length k-HT.bT j.length 0 lo,IsTup.new _ _]
 |_=>show Zf K
noncomputable def Vv:IV->IH->Res IV
 |.ref i,h=>match h[i]? with
  |some (.lst xs)=>.ok (.ref h.length)<|h++[.lst xs]
  |_=>.stuck
 |.cG xs,h=>.ok (.ref h.length)<|h++[.lst xs]
 |.tup xs,h=>.ok (.ref h.length)<|h++[.lst xs]
 |_,_=>.stuck
theorem P0:Qn B X (.type "list") (aO Vv):=Vt λO s U H Y L h x J u Q E N D F K=>by
 cases x with
 |ref i=>
  let#[a,k,ha]:=F;subst k;dsimp only[Vv]at K;cases G:h[i]? with|none=>rw[G]at K;show(K).elim|some ob=>rw[G]at K;cases ob with|lst xs=>let#[m,k,I]:=N.at G ha;show QF (zJ) N.inv (.cons D .nil) #[a,m,rfl,.inl<|cf.of k,λp j=>fB N K p j #[_,J0,aC.new j I]]|_=>show(K).elim
 |cG xs=>let#[a,m,k,sa,C]:=F;subst k;show QF (zJ) N.inv (.cons D .nil) #[a,m,rfl,.inl sa.sq,λp j=>fB N K p j #[_,J0,aC.new j C]]
 |tup xs=>let#[a,m,k,sa,C]:=F;subst k;show QF (zJ) N.inv (.cons D .nil) #[a,m,rfl,.inr sa,λp j=>fB N K p j #[_,J0,aC.new j C]]
 |_=>show(K).elim
noncomputable def VW:IV->IH->Res IV
 |.ref i,h=>match h[i]? with
  |some (.lst xs)=>.ok (.tup xs) h
  |_=>.stuck
 |.tup xs,h=>.ok (.tup xs) h
 |_,_=>.stuck
theorem P1:Qn B X (.type "tuple") (aO VW):=Vt λO s U H Y M h x L u Q E N F m K=>by
 cases x with
 |ref i=>
  let#[a,j,ha]:=m;subst j;dsimp only[VW]at K;cases C:h[i]? with|none=>rw[C]at K;show(K).elim|some ob=>rw[C]at K;cases ob with|lst xs=>let#[D,j,I]:=N.at C ha;show QF (Fl) N.inv (.cons F .nil) #[a,D,rfl,.inl #[cf.of j,λp G=>mU N K p G I]]|_=>show(K).elim
 |tup xs=>have k:=m;let#[a,D,j,sa,J]:=m;subst j;show QF (Fl) N.inv (.cons F .nil) #[a,D,rfl,.inr #[sa,aD N K k]]
 |_=>show(K).elim
noncomputable def sY:IV->IH->Res IV|.int i,h=>.ok (.int i) h|.bl b,h=>.ok (.int (if b then 1 else 0)) h|_,_=>.stuck
theorem VH:Qn B X (.type "int") (aO sY):=Vt λO s U H Y C h x m u Q E N j k K=>by cases x with|int i=>have e:=k;subst e;show QF (EY) N.inv (.cons j .nil)<|.inl #[i,rfl,aD N K rfl]|bl b=>have e:=k;subst e;show QF (EY) N.inv (.cons j .nil)<|.inr #[b,rfl,aD N K rfl]|_=>show(K).elim
noncomputable def iw:IV->IH->Res IV|.int i,h=>if i.natAbs.log2<1920 then .ok (.str<|toString i) h else .stuck|_,_=>.stuck
theorem P2:Qn B X (.type "str") (aO iw):=Vt λO s U H Y D h x C u Q E N k m K=>by
 cases x with
 |int i=>
  have e:C=.int i:=m;subst e;dsimp only[iw]at K;split at K
  .rename_i j;show QF (Nr (X:=X.bq E)) N.inv (.cons k .nil) #[i,rfl,j,aD N K rfl]
  .show Zf K
 |_=>show Zf K
noncomputable def Xz:Tu->Option (List Bool)|[]=>V []|.bl b::r=>(Xz r).map (b:: ·)|_::_=>Zg
noncomputable def allI:IV->IH->Res IV
 |.ref i,h=>match h[i]? with
  |some (.lst xs)=>(match Xz xs with
   |some bs=>.ok (.bl<|bs.all id) h
   |none=>.stuck)
  |_=>.stuck
 |_,_=>.stuck
theorem Gj{K:W.Frag}:∀{xs:Tu}{bs:List Bool}{vs:Ua}{us:Tt},Xz xs=V bs->aC K Y H xs vs->Vals vs us->us=bs.map qP
 |[],bs,vs,us,e,q,r=>by cases e;have j:=q;subst j;cases r;rfl
 |x::xs,bs,vs,us,e,q,r=>by
  let#[v,C,j,q1,m]:=q;subst j;cases r with
  |cons B k=>
   cases x with
   |bl b=>let#[D,u,rfl]:=ZH.mp<|e;cases (q1);cases B;rw[Gj u m k];rfl
   |_=>cases e
def P4(bs:List Bool):((ZM bs.length).all λi=>bs.getD i Zj)=bs.all id:=by
 induction bs with
 |nil=>rfl
 |cons b r j=>
  rw[jJ,List.range_succ_eq_map,fb,List.all_map];have e:((ZM r.length).all<|(λi=>(b::r).getD i Zj)∘Nat.succ)=(ZM r.length).all λi=>r.getD i Zj:=by congr 1
  rw[e,j];rfl
theorem P5(M:X.A.handled=Zg):Qn B X (.builtin "all") (aO allI):=Vt λO s U H Y bE h x xv u Q E N P F K=>by
 cases x with
 |ref i=>
  let#[a,C,ha]:=F;subst C;cases P;dsimp only[allI]at K;cases j:h[i]? with|none=>rw[j]at K;show(K).elim|some ob=>
   rw[j]at K;cases ob with
   |lst xs=>
    dsimp only at K;cases Z:Xz xs with|none=>rw[Z]at K;show(K).elim|some bs=>
     rw[Z]at K;let#[vs,C,W]:=N.at j ha;let#[L,S,pl,hz]:=N.inv.list<|cf.of C;have G:=Gj Z W S;subst G;calc call_all_walk<|nM pl.isList ?_;have m:a<s.heap.objs.size:=by let#[o,_,ho,_]:=pl;show Z0 ho
     have ne:=Zv m;refine#[s.heap.objs.size,_,_,_,_,_,λi=>bs.getD i Zj,rfl,Walks.list (A:=X.A.in1) M s.heap.objs.size a ne (bs.map qP).toArray,#[#[_,Zw _ rfl,rfl,rfl],?_],?_,λh' tk R=>?_]
     .let#[o,n,ho,I,_,hd]:=pl;show#[o,Zh _ ho,I,n,hd]
     .intro i v s' Q' E' D J;simp![Ef,ZK]at D;let#[b,k,rfl]:=ZH.mp D;calc oS ?_;have:bs.getD i Zj=b:=by simp[k]
      rw[<-this];show J
     .rw[show(bs.map qP).toArray.size=bs.length by simp,P4];have I1:Inv X O U H {s with heap:=s.heap.push {cls:=.type "list_iterator",data:=.fields (bS [.ref a,.int 0 0])} }:=N.inv.kept λb o e=>Zh _ e
      have f:=N.inv.c8 (Zl _)<|N.inv.az.fresh<|Zl _;show aD N K rfl _ _ (I1.turned (λb o Z e=>R b o (by simpa using Z) e) f.1 f.2.1 f.2.2.2.1 f.2.2.2.2.1 f.2.2.2.2.2) rfl
   |_=>show(K).elim
 |_=>show(K).elim
def m3(B:aM)(X:Cx)(T id:String)(g:IV->Tu->IH->Res IV):Prop:=
 ∀(O:aZ)(s:Z1)(U:L2.St)(H:Hp)(Y:Ts)(bE:aI)(h:IH)(x:IV)(xs:Tu)(v:Zu)(us:Tt)(Q:aQ)(E:aQ),aA B X O Y bE h U H s->RU X.K Y H x v->jf X.K Y H xs us ->
  Kont B X RU O Y bE U H (g x xs h) Q E->Zz (Z5 X.prog X.w) X.A (call (.builtin id)<|v::us) Q E s
noncomputable def dI (T:String):IV->IH->Bool
 |.str _,_=>T=="str"
 |.int _,_=>T=="int"
 |.ref i,h=>match h[i]? with
  |some (.lst _)=>T=="list"
  |some (.a8 _)=>T=="dict"
  |_=>Zn
 |.cG _,_=>T=="list"
 |_,_=>Zn
def pJ(T:String)(g:IV->Tu->IH->Res IV)(o:E1)(a:A1):E1:=λU h=>(o U h).bind λx h1=>if dI T x h1=Zj then(a U h1).bind λxs J=>g x xs J else .stuck
def Gk(N:aA B X O Y bE h U H s)(q:RV X.K Y H x xv)(e:dI T x h=Zj):Fm X.K T xv H:=by
 cases x with
 |str y=>cases (q);show beq_iff_eq.mp e
 |int y=>cases (q);show beq_iff_eq.mp e
 |cG y=>let#[a,k,rfl,sa,_]:=q;show .inl #[beq_iff_eq.mp e,k,sa.sq]
 |ref i=>
  let#[a,rfl,ha]:=q;cases j:h[i]? with|none=>simp[dI,j]at e|some ob=>cases ob with|lst xs=>simp![dI,j]at e;let#[k,m,_]:=N.at j ha;show .inl #[beq_iff_eq.mp e,k,cf.of m]|a8 u=>simp![dI,j]at e;let#[k,m,_]:=N.at j ha;show .inr<|.inr<|.inl #[beq_iff_eq.mp e,.inl #[k,m]]|_=>simp[dI,j]at e
 |_=>simp[dI]at e
variable{o a:Expr}{es:Td}{mo:E1}{ma:A1}{name:Str}{apos cpos:Pos}{T id:String}{g:IV->Tu->IH->Res IV}
def Au(pa:PlainAttrs T)(slot:Slot T name id)(F:lT (.builtin id)=pure (.type "method_descriptor"))(hm:m3 B X T id g)(ho:ah B X o mo)(ha:dX B X (a::es) ma)
  (hbase:qC o name X.env (bp o X.env)=bp o X.env:=by rfl)
  (k:((d8 cpos<|ZR (a::es) X.env).all (λx=>!x.1)&&(nV cpos<|nP [] X.env).all (λx=>x.1.isSome)
   && decide ((a::es).length+([]:Tn).length+(if ([]:Tn).isEmpty then 0 else 1)<30))=Zj:=by rfl)
  (hline:(apos.endLine==cpos.line)=Zj:=by rfl) (hs:ZR (a::es) X.env=(Zn,bp a X.env)::ZR es X.env:=by rfl) (hplain:(d8 cpos<|ZR es X.env).any (·.1)=Zn:=by rfl):
  ah B X (.Call (.Attribute o name apos) (a::es) [] cpos) (pJ T g mo ma):=by
 intro O s U H Y S h Q E N K;calc wpAny_Call_method_late hbase k hline rfl (ho.run N K λx h1 v s1 H1 W1 C n1 r1 m=>?_);by_cases j:dI T x h1=Zj
 .rw[if_pos j]at m;let#[xv,L,G]:=r1;let#[D,u]:=Fo C.inv L<|Gk C G j;calc#[T,id,pa,slot,F,D,u,?_];have I:=(ha cpos).run C m λxs J M P R U2 Z n2 W K2=>hm O P U R U2 S J x xs v M Q E Z #[xv,L,RV.mono n2 _ _ G] W K2
  rw[hs]at I ⊢;show EH (by simp_all)<|Calls.evalArgs_plain I
 .rw[if_neg j]at m;show(m).elim
def P6(M:PlainAttrs T)(slot:Slot T name id)(D:lT (.builtin id)=pure (.type "method_descriptor"))(hm:m3 B X T id g)(ho:ah B X o mo)
  (hbase:qC o name X.env (bp o X.env)=bp o X.env:=by rfl)(hline:(apos.endLine==cpos.line)=Zj:=by rfl):ah B X (.Call (.Attribute o name apos) [] [] cpos) (pJ T g mo Je):=by
 intro O s U H Y R h Q E N K;refine wpAny_Call_method0_late hbase hline<|ho.run N K λx I v P J S C n1 W k=>?_
 by_cases j:dI T x I=Zj
 .rw[if_pos j]at k;let#[L,F,G]:=W;let#[u,m]:=Fo C.inv F<|Gk C G j;show#[T,id,M,slot,D,u,m,EH rfl (PySem.evalArgs_none<|hm O P U J S R I x [] v [] Q E C #[L,F,G] .nil k)]
 .rw[if_neg j]at k;show(k).elim
theorem Av(p:vC (X.bq E) id r)(I:Inv X O U H s)(m:RelV x v)(rs:Vals xs us) (k:r x xs H λz H'=>∀u s',Inv X O U H' s'->RelV z u->Q u s'):Zz (Z5 X.prog X.w) X.A (call (.builtin id)<|v::us) Q E s:=dm (p O s U H x xs v us _ (I.bq E) m rs k) (λu s' ⟨_,_,j,r,q⟩=>q u s' j.bx r) λ_ _ z=>z
theorem m4(N:aA B X O Y bE h U H s)(K:Kont B X RU O Y bE U H (.ok v<|h.set i<|.lst ys) Q E) (Z:Y[i]?=V b)(j:H b=V (.lst vs))(r:aC X.K Y H ys ws)(q:RV X.K Y H v w):∀u s',Inv X O U (upd H b<|.lst ws) s'->RelV w u->Q u s':=λu s' I k=>by have n:a9 Y H Y (upd H b<|.lst ws):=#[#[[],03],Ext.cH j<|by rw[j];show eP];let#[R,_]:=N.rel.write (io:=.lst ys) Z j (by rw[j];show eP) #[_,J0,aC.mono n _ _ r];show K u s' _ Y #[I,R,N.st.mono n] n #[w,k,RV.mono n _ _ q]
noncomputable def Xa:IV->Tu->IH->Res IV
 |.ref i,[y],h=>match h[i]? with
  |some (.lst xs)=>if xs.length<sizeLine then .ok .af (h.set i<|.lst<|xs++[y])else .stuck
  |_=>.stuck
 |_,_,_=>.stuck
def P7:m3 B X "list" "list.append" Xa:=by
 intro O s U H Y R h x xs v M Q E N k L K;let#[W,k,D]:=k;let#[S,I,C]:=L;cases x with
 |ref i=>
  match xs,K with
  |[y],K=>
   let#[a,rfl,ha]:=D;let#[w,rfl,J]:=C.bJ;dsimp only[Xa]at K;cases j:h[i]? with|none=>rw[j]at K;show(K).elim|some ob=>
    rw[j]at K;cases ob with
    |lst P=>
     dsimp only at K;split at K
     .rename_i G;let#[F,u,m]:=N.at j ha;show Av (Ft) N.inv k I #[a,F,w,rfl,rfl,u,by rw[m.length];show G,m4 N K ha u (m.append<|aC.one J) rfl]
     .show(K).elim
    |_=>show(K).elim
  |[],K=>show(K).elim
  |_::_::_,K=>show(K).elim
 |_=>cases xs<;>show(K).elim
def m5:IV->IV->IV->aI->IH->bU
 |.ref i,.int k,v,U,h=>match h[i]? with
  |some (.lst xs)=>(match jS xs.length k with
   |some j=>.next U<|h.set i<|.lst<|xs.set j v
   |none=>.stuck)
  |_=>.stuck
 |_,_,_,_,_=>.stuck
end
section
variable{B:aM}{X:Cx}
noncomputable def dZ:IV->Option Key|.int i=>V<|.inl i|.str x=>V<|.inr x|_=>Zg
def vY{K:W.Frag}(e:dZ x=V k)(r:RV K Y H x v):v=kV k:=by cases x with|int i=>cases e;show r|str y=>cases e;show r|_=>cases e
def jj:IV->IV->IH->Res IV|.int i,.int j,h=>.ok (.int (if j>i then j else i)) h|_,_,_=>.stuck
def m6:IV->IV->IH->Res IV|.int i,.int j,h=>.ok (.int (if j<i then j else i)) h|_,_,_=>.stuck
def P8(u:X.calm=Zj):Qn B X (.builtin "max") (kQ jj):=by
 intro O s U H Y F h xs D Q E N r K;let#[G,k,q]:=r;match xs,K with
 |[x,y],K=>
  let#[v,w,rfl,m,C]:=q.gm;cases x with
  |int i=>cases y with|int j=>cases (m);cases (C);show QF (Np u) N.inv k #[i,j,rfl,aD N K rfl]|_=>show(K).elim
  |_=>cases y<;>show(K).elim
 |[],K=>show(K).elim
 |[_],K=>show(K).elim
 |_::_::_::_,K=>show(K).elim
def P9(u:X.calm=Zj):Qn B X (.builtin "min") (kQ m6):=by
 intro O s U H Y F h xs D Q E N r K;let#[G,k,q]:=r;match xs,K with
 |[x,y],K=>
  let#[v,w,rfl,m,C]:=q.gm;cases x with
  |int i=>cases y with|int j=>cases (m);cases (C);show QF (Nq u) N.inv k #[i,j,rfl,aD N K rfl]|_=>show(K).elim
  |_=>cases y<;>show(K).elim
 |[],K=>show(K).elim
 |[_],K=>show(K).elim
 |_::_::_::_,K=>show(K).elim
noncomputable def QL:Tu->Option (Tj)|[]=>V []|.str x::r=>(QL r).map (x:: ·)|_=>Zg
theorem Aw{K:W.Frag}:∀{xs:Tu}{zs:Tj}{vs:Ua}{us:Tt},QL xs=V zs->aC K Y H xs vs->Vals vs us->∃l:List<|Str×Tok,us=uQ l/\l.map (·.1)=zs
 |[],zs,vs,us,e,q,r=>by cases e;have j:=q;subst j;cases r;show#[[],rfl,rfl]
 |x::xs,zs,vs,us,e,q,r=>by
  let#[v,E,j,q1,m]:=q;subst j;cases r with
  |cons C k=>
   cases x with
   |str y=>let#[D,B,rfl]:=ZH.mp<|e;cases (q1);let#[t,rfl]:=C;let#[l,rfl,u]:=Aw B m k;show#[(y,t)::l,rfl,by rw[ZN,u]]
   |_=>cases e
def XD:IV->Tu->IH->Res IV
 |.str x,[.ref i],h=>match h[i]? with
  |some (.lst xs)=>(match QL xs with
   |some zs=>if JoinOk x zs=Zj then .ok (.str<|Txt.join x zs) h else .stuck
   |none=>.stuck)
  |_=>.stuck
 |_,_,_=>.stuck
def Ra:m3 B X "str" "str.join" XD:=by
 intro O s U H Y bE h x xs v us Q E N C R K;let#[xv,C,F]:=C;let#[vs,P,D]:=R;cases x with
 |str x=>
  cases (F);let#[t,rfl]:=C;match xs,K with
  |[.ref i],K=>
   let#[w,rfl,a,rfl,ha]:=D.bJ;let#[u,rfl,L]:=Qr P;cases L;dsimp only[XD]at K;cases m:h[i]? with|none=>rw[m]at K;show(K).elim|some ob=>
    rw[m]at K;cases ob with
    |lst M=>
     dsimp only at K;cases Z:QL M with|none=>rw[Z]at K;show(K).elim|some zs=>
      rw[Z]at K;dsimp only at K;split at K
      .rename_i J;let#[ws,W,S]:=N.at m ha;let#[I,j,pl,_]:=N.inv.list<|cf.of W;let#[l,rfl,G]:=Aw Z S j;show SC.join pl.isList G J λt' k=>aD N K rfl _ _ (N.inv.tok _) #[_,rfl]
      .show(K).elim
    |_=>show(K).elim
  |[],K=>show(K).elim
  |[.af],K=>show(K).elim
  |[.bl _],K=>show(K).elim
  |[.int _],K=>show(K).elim
  |[.str _],K=>show(K).elim
  |[.tup _],K=>show(K).elim
  |[.cG _],K=>show(K).elim
  |y::_::_,K=>cases y<;>show(K).elim
 |_=>show(K).elim
end
noncomputable def JL:Tu->Option (To)|[]=>V []|.int i::r=>(JL r).map (i:: ·)|_=>Zg
theorem Vg{K:W.Frag}:∀{xs:Tu}{ns:To}{vs:Ua}{us:Tt},JL xs=V ns->aC K Y H xs vs->Vals vs us->hX us ns
 |[],ns,vs,us,e,q,r=>by cases e;have j:=q;subst j;cases r;show .nil
 |x::xs,ns,vs,us,e,q,r=>by
  let#[v,C,j,q1,m]:=q;subst j;cases r with
  |cons B k=>
   cases x with
   |int i=>let#[n2,u,rfl]:=ZH.mp<|e;cases (q1);let#[t,rfl]:=B;show .cons i t<|Vg u m k
   |_=>cases e
theorem Xk:∀{us:Tt}{ns:To},hX us ns->us.length=ns.length
 |_,_,.nil=>rfl
 |_,_,.cons _ _ r=>by simp[Xk r]
section
variable{B:aM}{X:Cx}
noncomputable def gu:IV->IH->Res IV
 |.ref i,h=>match h[i]? with
  |some (.lst xs)=>(match JL xs with
   |some ns=>.ok (.int ns.sum) h
   |none=>.stuck)
  |_=>.stuck
 |_,_=>.stuck
theorem Rb(M:X.A.handled=Zg):Qn B X (.builtin "sum") (aO gu):=Vt λO s U H Y bE h x xv u Q E N R I K=>by
 cases x with
 |ref i=>
  let#[a,D,ha]:=I;subst D;cases R;dsimp only[gu]at K;cases C:h[i]? with|none=>rw[C]at K;show(K).elim|some ob=>
   rw[C]at K;cases ob with
   |lst xs=>
    dsimp only at K;cases Z:JL xs with|none=>rw[Z]at K;show(K).elim|some ns=>
     rw[Z]at K;let#[vs,D,r1]:=N.at C ha;let#[L,W,pl,hz]:=N.inv.list<|cf.of D;have j:=Vg Z r1 W;let#[k,F]:=j.allInts.items;have m:=F▸pl.isList;refine sum_intListG M m λJ tk t2 S=>?_
     have en:ns=k.toList.map (·.1):=by have q1:=j.numsOf;have G:=congrArg (λz:Th=>numsOf z.toList) F;rw[<-q1];show G.trans<|nums_intItems k
     have P:preSum (numAt k) k.size=ns.sum:=by rw[preSum_eq,en,mC 03]
     rw[P];show aD N K rfl _ _ (N.inv.kept S) #[_,rfl]
   |_=>show(K).elim
 |_=>show(K).elim
end
noncomputable def JM (f:Nat->Int):Nat->Int|0=>0|1=>f 0|j+2=>if f (j+1)>JM f (j+1)then f (j+1)else JM f (j+1)
def vZ(f)(k:0<j):JM f (j+1)=if f j>JM f j then f j else JM f j:=by cases j with|zero=>show absurd 06<|iU _|succ j=>rfl
def Rc:{F:String->CmpOp->eG // eG.«max.loop» =F "max" .Gt/\eG.«min.loop» =F "min" .Lt}:=#[_,by unfold eG.«max.loop»;show rfl,by unfold eG.«min.loop»;show rfl]
structure Mm(nm L:String)(op:CmpOp):Prop where
 en:entryFor table L=V (Rc.1 nm op)
 pl:plainId L=Zj
 nm:(toString nm++toString ".loop":String)=L
theorem Rf:Mm "max" "max.loop" .Gt:=#[u5,oh,01]
theorem Rg:Mm "min" "min.loop" .Lt:=#[PySem.F.entry_min_loop,PySem.F.plain_min_loop,01]
section
variable{pr:cz}{wd:bL}{bC:cu}{R:qM->Z1->Prop}{it:Z8}{fps wrs:Ts}{n:Nat}{P:Nat->Zu->Prop}{St:Nat->bc->Prop}
abbrev c9(l:Z8):Obj:={cls:=.type "list_iterator",data:=.fields (bS [.ref l,.int 0 0])}
abbrev Rh(v:Zu)(c:Nat):Obj:={cls:=.type "list",dict:=Zg,data:=.seq (bS [v,v]) c,slots:=#[]}
theorem Y9:(toString "max"++toString ".loop":String)="max.loop":=01
def Ri(W:Walks pr wd bC.in1 it fps wrs n P St)(f)(U:∀i v,P i v->∃t,v=.int (f i) t)(C)(I:C∉fps):∀(r j:Nat)(z:Z1)(v:Zu)(u:Tok)(c:Nat),n-j=r->0<j->j<=n->St j z.heap->v=.int (JM f j) u->z.heap.get? C=V (Rh v c) ->(∀u J tk,(∀a o,a∉wrs->a≠C->z.heap.get? a=V o->J.get? a=V o)->R (.ok<|.ret<|.int (JM f n) u) {z with heap:=J,toks:=tk}) ->iK (Z5 pr wd) bC (.builtin "max.loop" #[[.ref it,.none,.ref C],kw]) R z:=by
 have H:C∉wrs:=λq=>I<|W.sub _ q
 intro r;induction r with
 |zero=>
  intro j z v u c Q L O st ev gC fin;obtain rfl:j=n:=05;subst ev;calc jw u5 ?_;rw[mQ oh _];calc Ze<|nO gC rfl ?_;refine Ze<|ka<|W.done z _ _ st λJ tk keep=>?_
  have k:=keep C _ H gC;calc Ze ?_;calc qB k rfl (Ze<|kx<|Zp ?_);show fin u _ tk λa o ha Z e=>(ZB _ _<|bI Z).trans<|keep a o ha e
 |succ r M=>
  intro j z v u c Q L O st ev gC fin;have lt:j<n:=nA 06;subst ev;calc jw u5 ?_;rw[mQ oh _];calc Ze<|nO gC rfl ?_;refine Ze<|ka<|W.item j z _ _ lt st λy J tk S B keep=>?_
  let#[t,rfl]:=U j y S;have k:=keep C _ H gC;have F:=vi (prog:=pr) (w:=wd) (A:=bC.in1) (λi=>if i=0 then f j else JM f j) λ_ _ q=>q
  change Zz _ bC.in1 (tryCatch (jx [mM (f j) t,mM (f j) t]<|uN .Gt (.int (f j) t) (.int (JM f j) u)>>=_) _>>=_) _ _ _;calc Ze<|ka<|eF<|Ze<|F 0 1 _ _ _ _ _ #[t,03] #[u,03] ?_;calc Ze<|eF<|oS ?_;calc Ze<|kx<|Zp ?_;have step:=vZ f L;by_cases Z:f j>JM f j
  .rw[if_pos Z]at step;simp![if_true,show ¬(1:Nat)=0 by decide,if_false,decide_eq_true Z];calc Ze ?_;calc qB k rfl (Ze<|kx ?_);rw[Y9];refine Zp #[kc oh _,M (j+1) _ (.int (f j) t) t _ (congrArg rF 06) (fX _) lt (W.frame _ _ _ B λa ha o e=>?_) (by rw[step]) (lU _ k rfl) λu2 G m E=>?_]
   .show(ZB _ _ λq:C=a=>I<|by rw[q];show ha).trans e
   .show fin u2 G m λa o ha D e=>E a o ha D<|(ZB _ _<|bI D).trans<|keep a o ha e
  .rw[if_neg Z]at step;simp![if_true,show ¬(1:Nat)=0 by decide,if_false,decide_eq_false Z,lV];calc Ze<|kx ?_;rw[Y9];calc Zp #[kc oh _,M (j+1) _ (.int (JM f j) u) u c (congrArg rF 06) (fX _) lt B (by rw[step]) k λu2 G m E=>?_];show fin u2 G m λa o ha D e=>E a o ha D<|keep a o ha e
end
def Rj(a v):ky "max" #[[a],[(ZP "default",v)]]:=by unfold ky;kernel_rfl
section
variable{pr:cz}{wd:bL}{bC:cu}{E:aQ}{z:Z1}{l:Z8}{us:Tt}{ns:To}{d:Tb}{Q:aQ}{kw:Wn}
def Rk(ns:To)(d:Tb)(v:Zu):Prop:=(ns=[]/\d=V v)\/(ns≠[]/\∃u,v=.int (JM (λi=>ns.getD i 0) ns.length) u)
def Gm(X:nZ "max" ["key","default"] 0 #[[],kw]=pure [Zg,d])(ha:ky "max" #[[.ref l],kw])(hn:ns=[]->∃v,d=V v)(I:aK bC z.heap)(m:z.heap.IsList l us.toArray)(hi:hX us ns)
  (O:∀v J tk,Rk ns d v->(∀b o,z.heap.get? b=V o->J.get? b=V o)->Q v {z with heap:=J,toks:=tk}):
  Zz (Z5 pr wd) bC (call (.builtin "max") [.ref l] kw) Q E z:=by
 let#[Z,F,_]:=id m;have lt:l<z.heap.objs.size:=Z0 F;have B:=Xk hi;calc kmk_tree y9 y0 y8 ha ?_;change Zz _ bC.in1 (nZ "max" ["key","default"] 0 #[[],kw]>>=_) _ _ z;calc Ze<|qE X ?_;calc Ze<|Zp ?_;calc Ze<|nM m ?_;calc Ze<|rY ?_<|ZW _;rw[Y9];have ne:l≠z.heap.objs.size:=Zv lt;have W:=vn (prog:=pr) (w:=wd) (A:=bC.in1) z.heap.objs.size l ne us.toArray;have sz:us.toArray.size=us.length:=ZT ..;have D:(z.heap.push<|c9 l).objs.size=z.heap.objs.size+1:=qV ..;have M:(z.heap.push<|c9 l).objs.size∉z.heap.objs.size::l::i9 bC.in1:=by rw[D];simp![ZC,not_or];show#[dC<|ZS _,dC<|fP lt,λq=>iU _<|lF<|I.in1.lt _ q]
 have R:(z.heap.push<|c9 l).objs.size∉[z.heap.objs.size]:=by rw[D];simp![ZC,fu,or_false];show dC<|ZS _
 have old:∀b o,z.heap.get? b=V o->((z.heap.push<|c9 l).push<|cF "list" #[] 0).get? b=V o:=λb o e=>Zh _<|Zh _ e
 have L:((z.heap.push<|c9 l).push<|cF "list" #[] 0).get? z.heap.objs.size=V (c9 l):=Zh _<|Zw _ rfl;have gC:((z.heap.push<|c9 l).push<|cF "list" #[] 0).get? (z.heap.push<|c9 l).objs.size=V (cF "list" #[] 0):=Zw _ rfl;have ik:∀b o,z.heap.get? b=V o->b∉[z.heap.objs.size]:=λb o e q=>Zv (Z0 e)<|Z6.mp q
 have j:∀b o,z.heap.get? b=V o->b≠(z.heap.push<|c9 l).objs.size:=λb o e=>by rw[D];show Zv<|fP<|Z0 e
 calc Zp #[kc oh _,jw u5 ?_];rw[mQ oh _];change Zz _ bC.in1 (qJ (.ref _)>>=_) _ _ _;calc Ze<|nO gC rfl ?_;change Zz _ bC.in1 (tryCatch (fR<|.ref z.heap.objs.size) _>>=_) _ _ _;by_cases C:us.length=0
 .calc Ze (ka<|W.done _ _ _ (by rw[sz,C];show#[#[#[_,L,rfl,rfl],(m.push _).push _],I.in1.mono old]) λJ tk keep=>?_);let#[v,rfl]:=hn<|ui<|ZQ (Zb (Zi B.symm)<|Zi C)<|ZW _;change Zz _ bC.in1 (rule _>>=_) _ _ _;calc Ze<|lO<|Zp ?_;refine O v J tk (.inl #[ui<|ZQ (Zb (Zi B.symm)<|Zi C)<|ZW _,rfl]) λb o e=>keep b o (ik b o e)<|old b o e
 .calc Ze (ka<|W.item 0 _ _ _ (by rw[sz];show yg 06) #[#[#[_,L,rfl,rfl],(m.push _).push _],I.in1.mono old] λy J tk Y G keep=>?_);have k:=keep _ _ R gC;change Zz _ bC.in1 (updateSeq (z.heap.push<|c9 l).objs.size (λ_=>(bS [y,y]))>>=_) _ _ _;calc Ze ?_;calc qB k rfl ?_;rw[Y9];have P:∀(i:Nat)(v:Zu),us.toArray[i]?=V v->∃t,v=.int ((λi=>ns.getD i 0) i) t:=λi v q=>vh hi i v<|by simpa using q
  let#[t,rfl]:=P 0 y Y;refine Zp #[kc oh _,Ri W (λi=>ns.getD i 0) P _ M _ 1 _ _ t _ rfl 01 (by rw[sz];show yg 06) (W.frame _ _ _ G λa ha o e=>?_) rfl (lU _ k rfl) λu U H S=>?_]
  .show(ZB _ _ λq=>M<|by rw[q];show ha).trans e
  .rw[sz,B];calc O _ U H (.inr #[λq=>C (by rw[B,q];rfl),u,rfl]) λb o e=>S b o (ik b o e) (j b o e)<|(ZB _ _<|bI<|j b o e).trans<|keep b o (ik b o e)<|old b o e
end
section
variable{B:aM}{X:Cx}
def maxD(ns:To)(d:IV):IV:=if ns=[]then d else .int (JM (λi=>ns.getD i 0) ns.length)
def X6(aa:A1)(md:E1):E1:=λU h=>(aa U h).bind λxs h1=>(md U h1).bind λd J=>match xs with|[.ref i]=>(match J[i]? with|some (.lst ys)=>(match JL ys with|some ns=>.ok (maxD ns d) J|none=>.stuck)|_=>.stuck)|_=>.stuck
theorem Rl(R:X.calm=Zj)(hg:Gl X "max")(hm:X.mg "max"=Zg)(ha:dX B X [a] aa)(hd:ah B X de md)(hs:ZR [a] X.env=[(Zn,bp a X.env)]):ah B X (.Call (.Name "max" p) [a] [#[V "default",de,kp]] pos) (X6 aa md):=λO s U H Y S h Q E N K=>by
 calc iZ<|Q3 N.inv hg hm rfl ?_;calc u3 ?_ (by rw[hs];rfl) (by rw[hs];rfl) rfl rfl;refine(ha pos).run N K λxs h1 us s1 H1 W1 W n1 r1 K1=>?_
 refine qS<|Ze<|PX.run hd W K1 λd J du L P U2 k n2 r2 j=>Ze<|jM<|Zp<|uY ?_
 let#[vs,rv,M]:=r1.mono n2;cases xs with|nil=>show Zf j|cons x t=>
  cases t with|cons _ _=>cases x<;>show Zf j|nil=>
   cases x with
   |ref i=>
    let#[w,rfl,ad,rfl,D]:=M.bJ;let#[u,rfl,ru]:=Qr rv;cases ru;dsimp only at j;cases F:J[i]? with|none=>rw[F]at j;show Zf j|some ob=>
     rw[F]at j;cases ob with
     |lst ys=>
      dsimp only at j;cases Z:JL ys with|none=>rw[Z]at j;show Zf j|some ns=>
       rw[Z]at j;dsimp only at j;let#[ws,e1,r3]:=k.at F D;let#[its,m,pl,_]:=k.inv.list<|cf.of e1;refine Gm (d:=V du) rfl (Rj _ _) (λ_=>#[_,rfl]) (k.inv.cw R) pl.isList (Vg Z r3 m) λv h3 I mi kk=>?_
       have G:aA B X O U2 S J U P {L with heap:=h3,toks:=I}:=#[k.inv.kept (t':=I) kk,k.rel,k.st];rcases mi with⟨e,ev⟩|⟨e,t,rfl⟩
       .cases ev;have C:maxD ns d=d:=if_pos e;rw[C]at j;show j _ _ _ _ G .refl r2
       .have C:maxD ns d=.int (JM (λi=>ns.getD i 0) ns.length):=if_neg e;rw[C]at j;show j _ _ _ _ G .refl #[.int _,#[t,rfl],rfl]
     |_=>show Zf j
   |_=>show Zf j
end
noncomputable def jk (f:Nat->Str)(i:Nat)(k:Str):Bool:=(ZM i).any λj=>decide (k=f j)
def gw(f:Nat->Str):Nat->Nat|0=>0|i+1=>if jk f i (f i)then gw f i else gw f i+1
def Rm(f)(i)(k):jk f (i+1) k=(jk f i k||decide (k=f i)):=by simp[jk,uw]
theorem Ax(f):∀i,gw f i<=i|0=>Zl _|i+1=>by have:=Ax f i;unfold gw;split<;>(first|show lG 06|show oK 06|lia)
abbrev Vi(led:Bool):Obj:={cls:=.type "set",dict:=Zg,data:=.set #[] 0 (.fresh 0 0 led)}
abbrev kX(wd:bL):Bool:=wd.params.followText "set-order"
structure sZ(pr:cz)(wd:bL)(n:Nat)(P:Nat->Zu->Prop)(SA:bc->Z8->Nat->Prop):Prop where
 mv:∀{h J:bc}{C:Z8}{i:Nat},SA h C i->(∀o,h.get? C=V o->J.get? C=V o)->SA J C i
 add:∀{A:cu}{E:aQ}{i:Nat}{v:Zu}{C:Z8}{z:Z1}{Q:Bool->Z1->Prop},P i v->i<n->SA z.heap C i->(∀b h3,mJ C z.heap h3->SA h3 C (i+1)->Q b {z with heap:=h3,toks:=z.toks+1})->Zz (Z5 pr wd) A (setAdd C v) Q E z
 new:∀{h:bc}{C:Z8},h.get? C=V (Vi (!kX wd))->SA h C 0
section
variable{pr:cz}{wd:bL}{A bC:cu}{R:qM->Z1->Prop}{it:Z8}{fps wrs:Ts}{G:Wj->Wj->Prop}{n:Nat}{P:Nat->Zu->Prop}{St:Nat->Z1->Prop}{SA:bc->Z8->Nat->Prop}{E:aQ}{s z:Z1}{l:Z8}{us:Tt}{Q:aQ}
def Rn(bA:sZ pr wd n P SA)(W:WalksS pr wd bC.in1 it fps wrs G n P St)(C)(E:C∉fps):∀(r i:Nat)(z:Z1),n-i=r->i<=n->St i z->SA z.heap C i->(∀j,Moved (C::wrs) G z j->SA j.heap C n->R (.ok<|.ret .none) j) ->iK (Z5 pr wd) bC (.builtin "set.update.loop" #[[.ref C,.ref it],[]]) R z:=by
 have D:C∉wrs:=λq=>E<|W.sub _ q
 have more:∀b∈wrs,b∈C::wrs:=λb q=>Zt _ q
 intro r;induction r with|zero=>intro i z H I st m fin;obtain rfl:i=n:=05;calc jw EE ?_;rw[mQ za _];show Ze<|W.done z _ _ st λj mv=>Zp<|fin j (mv.mono more)<|bA.mv m λo e=>mv.heap C _ D e|succ r O=>
  intro i z H I st m fin;have lt:i<n:=nA 06;calc jw EE ?_;rw[mQ za _];refine Ze<|W.item i z _ _ lt st λv j L u mv=>?_
  refine Ze<|eF<|bA.add L lt (bA.mv m λo e=>mv.heap C _ D e) λ_ Q F k=>?_
  refine Zp #[kc za _,O (i+1) _ (congrArg rF 06) lt (W.frame _ j _ _ u (fY _) λb q o e=>?_) k λJ M B=>?_]
  .rw[F.2 b λe2:b=C=>E<|by rw[<-e2];show q];show e
  .calc fin J (Moved.trans W.gtrans ((mv.mono more).then_heap (fY _) λb o q e=>?_) M) B;rw[F.2 b λe2:b=C=>q<|by rw[e2];show ZD];show e
def Ro(a)(h:Q₁ (.ref s.heap.objs.size) {s with heap:=s.heap.push (Vi (!kX wd))}):iK (Z5 pr wd) A (.call (.builtin "set.__new__") #[[.type "set",a],[]]) (wants Q₁ E) s:=by
 calc yG ?_;calc Ze<|qE (PySem.F.newCall_set_1 a)<|Zp #[kc PySem.F.plain_set_new _,jw PySem.F.entry_set_new ?_];unfold eG.«set.__new__» Builtin.Frozenset.newClass;have j:=PySem.sub_set_self;let#[k,g,d,m,os]:=s;dsimp only
 wp_walk
 calc wpAny_askSetting<|Zp ?_;dsimp only;calc Ze<|wpAny_alloc<|Zp ?_;show Zp h
set_option maxRecDepth 100000 in
def Rp(hh:bC.handled=Zg)(hl:z.heap.IsList l us.toArray)(bA:sZ pr wd us.toArray.size (λi v=>us.toArray[i]?=V v) SA)
  (fin:∀(J:bc)(tk:Nat),SA J z.heap.objs.size us.toArray.size->(∀b o,z.heap.get? b=V o->J.get? b=V o)->Q (.ref z.heap.objs.size) {z with heap:=J,toks:=tk}):
  Zz (Z5 pr wd) bC (call (.type "set") [.ref l]) Q E z:=by
 let#[c,tl,hmro]:=PySem.F.called_set.mro;have O:=PySem.F.called_set.made;have W:=PySem.F.called_set.sub;calc oX<|yG ?_;change Zz _ _ (callAny (.type "set") _) _ _ _;calc Zp #[vf _ (by decide +kernel),jw PySem.F.entry_type_call ?_];rw[Around.under_plain (weight_type_call_type "set" [.ref l] []) rfl];have no1:=PySem.F.called_set.notType;have no2:=PySem.F.called_set.canCreate;have ok1:=PySem.F.typeCall_set_1<|.ref l;repeat (any_goals (first|assumption|wp_step))
 refine oU (Ro (.ref l) (E:=E) (Q₁:=λobj X=>obj=.ref z.heap.objs.size/\X={z with heap:=z.heap.push (Vi (!kX wd))}) #[rfl,rfl]) λu X H=>?_
 cases u with|error e=>show H|ok fl=>
  cases fl with
  |ret obj=>
   let#[rfl,rfl]:=H;have Z:(z.heap.push<|Vi (!kX wd)).get? z.heap.objs.size=V (Vi (!kX wd)):=Zw _ rfl;have tS:Shared.TypeIs {z with heap:=z.heap.push (Vi (!kX wd))} (.ref z.heap.objs.size) "set":=#[_,Z,rfl];have in1:=PySem.F.called_set.init.lookup;have in2:=PySem.F.called_set.init.bind<|.ref z.heap.objs.size;repeat (any_goals (first|assumption|wp_step))
   refine oU (qA (R:=wants (λu z2=>u=.none/\∃J tk,z2={z with heap:=J,toks:=tk}/\SA J z.heap.objs.size us.toArray.size/\(∀b o,z.heap.get? b=V o->J.get? b=V o)) E)
    PySem.F.called_set.init.plain PySem.F.entry_set_init (check_set_init_1 tS ?_)) λG z2 m=>?_
   .let#[ol,C,D,Y,B]:=hl;let#[ocls,k,P,j]:=ol;simp only at D B;subst D;subst B;have gl:(z.heap.push<|Vi (!kX wd)).get? l=V {cls:=.type "list",dict:=k,data:=.seq us.toArray Y,slots:=j}:=Zh _ C;have sb1:=PySem.F.sub_list_set;have sb2:=PySem.F.sub_list_frozenset;have dne:(mL "list"==mL "dict")=Zn:=01;have F:(z.heap.push<|Vi (!kX wd)).IsList l us.toArray:=#[_,gl,rfl,Y,rfl];unfold eG.«set.__init__» noKeywords Builtin.Frozenset.updateFrom;generalize U:kz=PI
    wp_walk
    subst U;calc nM F ?_;calc Ze<|yH ?_;have lS:l<z.heap.objs.size:=Z0 C;have h3:bC.in1.in1.in1.handled=Zg:=by simp[hh]
    have Ay:l≠(z.heap.push<|Vi (!kX wd)).objs.size:=by rw[nY];show Zv<|fP lS
    have nC:z.heap.objs.size∉[(z.heap.push<|Vi (!kX wd)).objs.size,l]:=by rw[nY];simp![ZC,fu,or_false,not_or];show#[Zv<|ZS _,dC lS]
    calc Rn bA ((Walks.list h3 _ l Ay us.toArray).toS) z.heap.objs.size nC (us.toArray.size-0) 0 _ 04 (ZW _) #[#[_,Zw _ rfl,rfl,rfl],(F.push _)] (bA.new<|Zh _ Z) ?stop;case stop=>
     intro z5 mv I;let#[h5,g5,d5,L,M]:=z5;have eg:g5=z.gens:=mv.gens;have ed:d5=z.drawn:=mv.drawn;have eo:M=z.os:=mv.os;subst eg;subst ed;subst eo;change Zz _ _ _ _ _ _;calc Zp ?_;change Zz _ _ (ret dD) _ _ _;calc Zp #[rfl,h5,L,rfl,I,λb o e=>?_];have lb:=Z0 e;have b1:b≠z.heap.objs.size:=Zv lb;have b2:b≠(z.heap.push<|Vi (!kX wd)).objs.size:=by rw[nY];show Zv<|fP lb
     show mv.heap b o (by simp![ZC,fu,or_false,not_or];show#[b1,b2])<|Zh _<|Zh _ e
   .cases G with|error e=>show m|ok oy=>
     cases oy with
     |ret rv=>
      let#[rfl,J,tk,rfl,S,keep]:=m;repeat (any_goals (first|assumption|wp_step))
      show fin _ _ S keep
     |_=>show m.elim
  |_=>show H.elim
end
section
variable{pr:cz}{wd:bL}{bC:cu}{E:aQ}{z:Z1}{l:Z8}{us:Tt}{zs:Tj}{Q:aQ}
abbrev Gn(pr:cz)(wd:bL)(hp:bc)(a:Z8)(f:Nat->Str)(i:Nat):Prop:=hp.SetOf (uI pr wd) a (λk=>jk f i k)<|gw f i
abbrev QY(zs:Tj):Nat->Str:=λi=>zs.getD i iM
def Rq(O:bC.handled=Zg)(P:z.heap.IsList l us.toArray)(D:us=uQ l2)(F:l2.map (·.1)=zs)(room:zs.length+1<nU) (fin:∀(J:bc)(tk:Nat),Gn pr wd J z.heap.objs.size (QY zs) zs.length->(∀b o,z.heap.get? b=V o->J.get? b=V o)->Q (.ref z.heap.objs.size) {z with heap:=J,toks:=tk}):Zz (Z5 pr wd) bC (call (.type "set") [.ref l]) Q E z:=by
 have len:us.toArray.size=zs.length:=by rw[D,<-F];simp[uQ]
 refine Rp (SA:=λh a i=>Gn pr wd h a (QY zs) i) O P #[λ⟨o,G,I,t,ho,j⟩ m=>#[o,G,I,t,m o ho,j],λ{A E i v C z Q} q lt L k=>?_,λg=>SetOf_congr ((setObjOf_fresh (knd:=uI pr wd) _).setOf g<|by unfold nU;show lI 06) (λ_=>rfl) rfl]<|by rw[len];show fin
 rw[D]at q;simp![uQ,Ef,ZK]at q;let#[p,M,rfl]:=ZH.mp q;have e:p.1=QY zs i:=by rw[<-F];simp[QY,Zq,ZK,M]
 have u:(uI pr wd).is p.1 (.str p.1 p.2)=Zj:=strKind_is _ _ _ _;have:=Ax (QY zs) i;rw[e]at u ⊢;show eF (Ze<|(uI pr wd).pyHash u<|wpAny_setAddHashed_of (s:={z with toks:=z.toks+1}) u rfl L (Z3<|Zb (Zc (Zb (Zb (Zc this 2)<|Zc lt 1)<|Zc (Zi len) 1) 1) room) λH R B=>k _ H R<|SetOf_congr B (λk=>(Rm _ i k).symm) rfl)
end
section
variable{B:aM}{X:Cx}
def Yw(aa:A1):E1:=λU h=>(aa U h).bind λxs h1=>match xs with|[.ref i]=>(match h1[i]? with|some (.lst ys)=>(match QL ys with|some zs=>if zs.length+1<nU then .ok (.int<|gw (QY zs) zs.length) h1 else .stuck|none=>.stuck)|_=>.stuck)|_=>.stuck
theorem Rr(hh:X.A.handled=Zg)(g1:Gl X "len")(m1:X.mg "len"=Zg)(g2:Gl X "set")(m2:X.mg "set"=Zg)(ha:dX B X [a] aa)(hs:ZR [a] X.env=[(Zn,bp a X.env)]):
  ah B X (.Call (.Name "len" p) [.Call (.Name "set" p2) [a] [] pos2] [] pos) (Yw aa):=λO s U H Y bE h Q E N K=>by
 calc iZ<|Q3 N.inv g1 m1 rfl ?_;calc uX ?_ rfl rfl;calc Ew ?_;calc iZ<|Q3 N.inv g2 m2 rfl ?_;calc o9 ?_ hs rfl;refine(ha pos2).run N K λxs W us s1 H1 W1 k n1 r1 j=>?_
 let#[vs,S,qs]:=r1;cases xs with|nil=>show(j).elim|cons x t=>
  cases t with|cons _ _=>cases x<;>show(j).elim|nil=>
   cases x with
   |ref i=>
    let#[w,rfl,ad,rfl,C]:=qs.bJ;let#[u,rfl,ru]:=Qr S;cases ru;dsimp only at j;cases G:W[i]? with|none=>rw[G]at j;show(j).elim|some ob=>
     rw[G]at j;cases ob with
     |lst ys=>
      dsimp only at j;cases Z:QL ys with|none=>rw[Z]at j;show(j).elim|some I=>
       rw[Z]at j;dsimp only at j;split at j
       .rename_i room;let#[ws,e1,r3]:=k.at G C;let#[its,m,pl,_]:=k.inv.list<|cf.of e1;let#[l2,P,ez]:=Aw Z r3 m;refine Rq hh pl.isList P ez room λJ tk M keep=>Ey ?_
        let#[o,R,ep,t,ho,F,hd,hel,L,hbb,hf,hn]:=M;have D:(R.size:Int)<2^63:=by
         have:=Ax (QY I) I.length;have sb:nU<=2^40:=by unfold nU;decide
         lia
        calc call_len_set ho F hd hf D ?_;rw[hn];show j _ _ _ _ #[(k.inv.kept (t':=_) keep),k.rel,k.st] .refl #[.int _,#[_,rfl],rfl]
       .show(j).elim
     |_=>show(j).elim
   |_=>show(j).elim
end
section
variable{α β:Type}{h h1:IH}{U:aI}
def Rt(e:h[n]?=V (.exc c fs)):(bU.exc n U h).fin=.exc n h:=by simp[bU.fin,e]
theorem Ru(v)(U):Ja 0 (V v::U) h=.ok v h:=rfl
end
def jY(x:Str)(n:Int):Bool:=decide (x.length<=1000/\ -1000<=n/\n<=1000)
def jY.ok(h:jY x n=Zj):MulOk x n:=by
 simp![jY,decide_eq_true_eq]at h;let#[j,J,k]:=h;refine#[?_,λhn _=>?_,λhn _=>?_]
 .simp;lia
 .have e:(1000:Int)<=(2^63-1)/n:=by rw[Es<|cT.mp 06];lia
  lia
 .have:x.length*n.toNat<=1000*1000:=Nat.mul_le_mul j 05;have Z:1000000<sizeLine:=01;unfold Builtin.Str.tooLong;lia
def Rv:fm X (fy .Mult) (λx y H Q=>∃i j,x=.str i/\y=.int j/\jY i j=Zj/\Q (.str<|Txt.mul i j) H):=by intro O s U H x y v u Q I C B h;let#[i,j,rfl,rfl,m,q]:=h;let#[t,rfl]:=C;let#[k,rfl]:=B;show SB.mul (jY.ok m) λk D=>#[.str<|Txt.mul i j,H,I.tok _,#[_,rfl],q]
def Q6(x y:IV)(h:IH):Res IV:=match x with|.str i=>(match y with|.int j=>if jY i j then .ok (.str<|Txt.mul i j) h else .stuck|_=>.stuck)|x=>XI x y h
section
variable{B:aM}{X:Cx}
def Rw:dz B X (fy .Mult) Q6:=by
 intro O s U H Y I h x y v u Q E N m k K;cases x with
 |str i=>
  let#[L,m,D]:=m;let#[M,k,G]:=k;cases y with
  |int j=>
   have F:=D;have J:=G;subst F J;dsimp only[Q6]at K;split at K
   .rename_i C;show Qk (Rv) N.inv m k #[i,j,rfl,rfl,C,aD N K rfl]
   .show(K).elim
  |_=>show(K).elim
 |_=>show OC O s U H Y I h _ y v u Q E N m k K
end
noncomputable def aJ (kvs:Wp)(k:Key):Te:=(kvs.find? λkv=>decide (kv.1=k)).map (·.2)
def QZ(e:p.1=k):aJ (p::r) k=V p.2:=by simp[aJ,e]
def QN(e:¬p.1=k):aJ (p::r) k=aJ r k:=by simp[aJ,e]
theorem b9.get{K:W.Frag}(k):∀{xs:Wp}{vs:Wt},b9 K Y H xs vs->(aJ xs k=Zg/\eR vs k=Zg)\/∃v w,aJ xs k=V v/\eR vs k=V w/\RV K Y H v w
 |[],_,h=>by have e:=h;subst e;show .inl #[rfl,rfl]
 |x::xs,_,h=>by
  let#[v,r,rfl,q,t]:=h;by_cases e:x.1=k
  .show .inr #[x.2,v,QZ e,zN e,q]
  .rw[QN e,zO e];show b9.get k t
theorem b9.snoc{K:W.Frag}(q:RV K Y H v w):∀{xs:Wp}{vs:Wt},b9 K Y H xs vs->b9 K Y H (xs++[(k,v)]) (vs++[(k,w)])
 |[],_,h=>by have e:=h;subst e;show#[w,[],rfl,q,rfl]
 |x::xs,_,h=>by let#[m,r,rfl,j,t]:=h;show#[m,r++[(k,w)],rfl,j,b9.snoc q t]
def Gp{k:Key}(e:eR vs k=Zg):putK vs k w=vs++[(k,w)]:=by unfold putK;rw[if_neg];rw[Fu,e];show Zx
section
variable{B:aM}{X:Cx}
def Yu:E1:=λ_ h=>.ok (.ref h.length)<|h++[.a8 []]
theorem Rx:ah B X (.Dict [] [] pos) Yu:=λO s U H Y k h Q E N K=>by
 have hn:=N.inv.az.fresh<|Zl s.heap.objs.size;have I1:=N.inv.laid (t':=s.toks) (λ_ _ q=>Zh _ q) (Zl _)<|NZ s.heap N.inv.big;let#[j,n1]:=N.rel.alloc (io:=.a8 []) hn #[[],J0,rfl];have u:aA B X O (Y++[s.heap.objs.size]) k (h++[.a8 []]) U (upd H s.heap.objs.size<|.dK []) _:=#[I1,j,N.st.mono n1];have m:(Y++[s.heap.objs.size])[h.length]?=V s.heap.objs.size:=by rw[<-N.rel.len,ZU<|Zl _];simp
 show wpAny_Dict_empty<|K _ _ _ (Y++[s.heap.objs.size]) u n1 #[.ref _,rfl,_,rfl,m]
def VT:IV->Tu->IH->Res IV
 |.ref i,[y,v],h=>match h[i]? with
  |some (.a8 kvs)=>(match dZ y with
   |some k=>(match aJ kvs k with
    |some w=>.ok w h
    |none=>if kvs.length<sizeLine then .ok v (h.set i<|.a8<|kvs++[(k,v)])else .stuck)
   |none=>.stuck)
  |_=>.stuck
 |_,_,_=>.stuck
def Ry:m3 B X "dict" "dict.setdefault" VT:=by
 intro O s U H Y bE h x xs v us Q E N R rs K;let#[xv,R,qx]:=R;let#[vs,rv,qs]:=rs;cases x with
 |ref i=>
  match xs,K with
  |[y,y2],K=>
   let#[a,rfl,ha]:=qx;let#[w,J,rfl,qw,G]:=qs.gm;dsimp only[VT]at K;cases S:h[i]? with|none=>rw[S]at K;show Zf K|some ob=>
    rw[S]at K;cases ob with
    |a8 u=>
     dsimp only at K;cases W:dZ y with|none=>rw[W]at K;show Zf K|some k=>
      rw[W]at K;dsimp only at K;let#[L,m,I]:=N.at S ha;cases vY W qw;cases rv with|@cons _ _ _ _ ru t=>
      cases t with|@cons _ u2 _ _ F t=>
      cases t;cases (R);let#[z,hd,ps,rel,Z]:=vE N.inv.az m;have hz:ps.length<=sizeLine:=by rw[<-rel.length];show z
      refine call_meetsIn Ez Z.typeIs PySem.F.entry_dict_setdefault (PySem.F.args_dict_setdefault_3 _ _ _) (kt_meets_setdefault (Vw X.prog X.w) a (vD ru) hd u2) #[ps,Z,hz,λv' M=>?_,λhn h' C hs=>?_]
      .rcases I.get k with⟨p,q⟩|⟨v1,w1,p,q,r⟩
       .have j:=rel.val k;rw[q]at j;rw[dt.none_of j]at M;cases M
       .rw[p]at K;have j:=rel.val k;rw[q,M]at j;show aD (w:=w1) N K r _ _ (N.inv.tok _) j
      .rcases I.get k with⟨p,q⟩|⟨v1,w1,p,q,r⟩
       .rw[p]at K;dsimp only at K;split at K
        .rename_i hl;have he:∃q,h'.get? a=V q:=let ⟨q,_,_,hq,_⟩:=C;#[q,hq];have D:(putK L k J).length<=sizeLine:=by rw[Gp q,Z7,I.length];show hl
         have I4:=Fv (t':=s.toks+1) N.inv (by rw[m];show eP) hs he<|Fw D hd (rel.put k F) C;have n:a9 Y H Y (upd H a<|.dK<|putK L k J):=#[#[[],03],Ext.cH m<|by rw[m];show eP];let#[R4,_]:=N.rel.write (io:=.a8<|u++[(k,y2)]) ha m (by rw[m];show eP) #[_,J0,(congrArg (λP=>b9 X.K Y (upd H a<|.dK<|putK L k J) (u++[(k,y2)]) P)<|Gp q).mpr<|b9.mono n _ _<|I.snoc G];show K _ _ _ Y #[I4,R4,N.st.mono n] n #[J,F,RV.mono n _ _ G]
        .show Zf K
       .have j:=rel.val k;rw[q,hn]at j;show Zf j
    |_=>show Zf K
  |[],K=>show Zf K
  |[_],K=>show Zf K
  |_::_::_::_,K=>show Zf K
 |_=>cases xs<;>show Zf K
end
noncomputable def putD (kvs:Wp)(k:Key)(v:IV):Wp:=if (kvs.any λkv=>decide (kv.1=k))=Zj then kvs.map (λkv=>if kv.1=k then(kv.1,v)else kv)else kvs++[(k,v)]
theorem b9.any{K:W.Frag}(k):∀{xs:Wp}{vs:Wt},b9 K Y H xs vs->(xs.any λj=>decide (j.1=k))=vs.any λj=>decide (j.1=k)|[],_,h=>by have e:=h;subst e;rfl|x::xs,_,h=>by let#[v,r,rfl,q,t]:=h;rw[lL,lL,b9.any k t]
theorem b9.upd{K:W.Frag}(q:RV K Y H v w):∀{xs:Wp}{vs:Wt},b9 K Y H xs vs->b9 K Y H (xs.map λj=>if j.1=k then(j.1,v)else j) (vs.map λj=>if j.1=k then(j.1,w)else j)
 |[],_,h=>by have e:=h;subst e;show rfl
 |x::xs,_,h=>by
  let#[u,r,rfl,m,t]:=h;rw[ZN,ZN];by_cases e:x.1=k
  .rw[if_pos e,if_pos e];show#[w,_,rfl,q,b9.upd q t]
  .rw[if_neg e,if_neg e];show#[u,_,rfl,m,b9.upd q t]
def b9.td{K:W.Frag}(q:RV K Y H v w)(r:b9 K Y H xs vs):b9 K Y H (putD xs k v) (putK vs k w):=by
 unfold putD putK;rw[r.any k];split
 .show r.upd q
 .show r.snoc q
section
variable{B:aM}{X:Cx}
def Vj(x y:IV)(h:IH):Res IV:=match x with|.ref i=>(match h[i]? with|some (.a8 kvs)=>(match dZ y with|some k=>(match aJ kvs k with|some v=>.ok v h|none=>.stuck)|none=>.stuck)|_=>.stuck)|_=>.stuck
def Rz:vJ B X Vj:=by
 intro C j O s U H Y bE h x y v u Q E N I G K hs;let#[xv,I,S]:=I;let#[yv,G,Z]:=G;cases x with
 |ref i=>
  let#[a,J,ha]:=S;subst J;dsimp only[Vj]at K;cases m:h[i]? with|none=>rw[m]at K;show(K).elim|some ob=>
   rw[m]at K;cases ob with
   |a8 P=>
    dsimp only at K;cases F:dZ y with|none=>rw[F]at K;show(K).elim|some k=>
     rw[F]at K;dsimp only at K;let#[ws,J,r1]:=N.at m ha;cases vY F Z;cases (I);let#[z,hd,ps,rel,M]:=vE N.inv.az J;rcases r1.get k with⟨p,q⟩|⟨v1,w1,p,q,r⟩
     .rw[p]at K;show(K).elim
     .rw[p]at K;have L:=rel.val k;rw[q]at L;let#[W,R,D]:=dt.some_of L;show yX (x:=W) M.typeIs PySem.F.slot_dict_getitem.lookup (wpAny_getItem_of (vD G) M.mapOf R #[rfl,aD N K r _ _ (N.inv.tok _) D]) hs
   |_=>show(K).elim
 |_=>show(K).elim
noncomputable def gy (x c:IV)(h:IH):Res IV:=match c with|.ref i=>(match h[i]? with|some (.a8 kvs)=>(match dZ x with|some k=>.ok (.bl (aJ kvs k).isSome) h|none=>.stuck)|_=>.stuck)|_=>.stuck
def RA:dz B X (d6 .In) gy:=by
 intro O s U H Y W h x y v u Q E N F D K;let#[Z,F,I]:=F;let#[S,D,P]:=D;cases y with
 |ref i=>
  let#[a,G,ha]:=P;subst G;dsimp only[gy]at K;cases m:h[i]? with|none=>rw[m]at K;show(K).elim|some ob=>
   rw[m]at K;cases ob with
   |a8 j=>
    dsimp only at K;cases C:dZ x with|none=>rw[C]at K;show(K).elim|some k=>
     rw[C]at K;dsimp only at K;let#[J,G,R]:=N.at m ha;cases vY C I;cases (D);let#[z,hd,ps,rel,M]:=vE N.inv.az G;calc wpAny_in_of (vD F) hd M.mapOf ?_;rw[<-(rel.val k).jT];have L:(eR J k).isSome=(aJ j k).isSome:=by rcases R.get k with⟨p,q⟩|⟨v1,w1,p,q,r⟩<;>rw[p,q]<;>rfl
     rw[L];show aD N K rfl _ _ (N.inv.tok _) rfl
   |_=>show(K).elim
 |_=>show(K).elim
def YI:IV->IV->IV->aI->IH->bU
 |.ref i,iv,v,U,h=>match h[i]? with
  |some (.a8 kvs)=>(match dZ iv with
   |some k=>if kvs.length<sizeLine then .next U (h.set i<|.a8<|putD kvs k v)else .stuck
   |none=>.stuck)
  |_=>.stuck
 |_,_,_,_,_=>.stuck
def iy(o i:E1):G1:=λv U h=>rS U (o U h) λov h1=>rS U (i U h1) λiv J=>YI ov iv v U J
def RC(ho:ah B X oe mo)(hi:ah B X ie mi)
  (ha:∀v,lR (.Subscript oe ie pos) X.env v=(do
   let ov<-jx [v] (bp oe X.env)
   let iv<-jx [v,ov] (bp ie X.env)
   nX pos
   jx [v,ov,iv] (setItem ov iv v)
   release [v,ov,iv] [])):jh B X (.Subscript oe ie pos) (iy mo mi):=by
 intro O s U H Y bE h v u Q E N r K;rw[ha];refine Ze<|eF<|cV ho N K λov h1 ou s1 H1 W1 N1 n1 r1 K1=>?_
 refine Ze<|eF<|cV hi N1 K1 λiv J iu s2 S L D n2 r2 j=>?_
 have r':RU X.K L S v u:=(r.mono n1).mono n2;let#[ox,ro,qo]:=r1.mono n2;let#[ix,ri,qi]:=r2;let#[vx,R,qv]:=r';calc Ze<|jM<|Ze<|eF ?_;cases ov with
 |ref i=>
  let#[a,rfl,I]:=qo;dsimp only[YI]at j;cases W:J[i]? with|none=>rw[W]at j;show(j).elim|some ob=>
   rw[W]at j;cases ob with
   |a8 M=>
    dsimp only at j;cases Z:dZ iv with|none=>rw[Z]at j;show(j).elim|some k=>
     rw[Z]at j;dsimp only at j;split at j
     .rename_i hl;let#[P,m,F]:=D.at W I;cases vY Z qi;cases (ro);let#[z,hd,ps,rel,dd]:=vE D.inv.az m;have hz:ps.length<=sizeLine:=by rw[<-rel.length];show z
      have G:(putK P k vx).length<=sizeLine:=by have h1:=NW P k vx;have J:=F.length;show Zb (Zb h1<|Zc (Zi J) 1) hl
      refine wpAny_setItem_pairs (hsz:=hz) (vD ri) dd λh' C hs=>?_
      have he:∃q,h'.get? a=V q:=let ⟨q,_,_,hq,_⟩:=C;#[q,hq];have I4:=Fv (t':=s2.toks+1) D.inv (by rw[m];show eP) hs he<|Fw G hd (rel.put k R) C;have n:a9 L S L (upd S a<|.dK<|putK P k vx):=#[#[[],03],Ext.cH m<|by rw[m];show eP];let#[R3,_]:=D.rel.write (io:=.a8<|putD M k v) I m (by rw[m];show eP) #[_,J0,b9.td (RV.mono n _ _ qv)<|b9.mono n _ _ F];show wpAny_release<|j _ U _ L #[I4,R3,D.st.mono n] n
     .show(j).elim
   |_=>show(j).elim
 |_=>show(j).elim
end
def leZ(a b:Int):Bool:=decide (a<=b)
def Vm(ns:To):To:=ns.mergeSort leZ
def Gq(ns):(Vm ns).Pairwise (· <= ·):=by have:=List.pairwise_mergeSort (le:=leZ) (λa b c j J=>by simp![leZ]at *;lia) (λa b=>by simp![leZ];lia) ns;show this.imp λh=>by simpa[leZ]using h
theorem RD(p:ns'.Perm ns)(s:ns'.Pairwise (· <= ·)):ns'=Vm ns:=List.Perm.eq_of_pairwise (λa b _ _ j J=>i7 j J) s (Gq ns) (p.trans (List.mergeSort_perm ns leZ).symm)
theorem Ya:∀{us:Tt}{ns:To},hX us ns->Vals (ns.map bA.int) us|_,_,.nil=>.nil|_,_,.cons _ _ r=>.cons #[_,rfl]<|Ya r
theorem Az{K:W.Frag}:∀ns:To,aC K Y H (ns.map IV.int) (ns.map bA.int)|[]=>rfl|_::ns=>#[_,_,rfl,rfl,Az ns]
def pL(xs:Tu):Option (Tu):=match JL xs with|some ns=>V<|(Vm ns).map .int|none=>Zg
section
variable{B:aM}{X:Cx}
def XU:IV->IH->Res IV
 |.ref i,h=>match h[i]? with
  |some (.lst xs)=>if xs.length<64 then(match pL xs with
   |some ys=>.ok (.ref h.length)<|h++[.lst ys]
   |none=>.stuck)else .stuck
  |_=>.stuck
 |_,_=>.stuck
theorem RE:Qn B X (.builtin "sorted") (aO XU):=Vt λO s U H Y bE h x xv u Q E N W P K=>by
 cases x with
 |ref i=>
  let#[a,G,ha]:=P;subst G;cases W;dsimp only[XU]at K;cases D:h[i]? with|none=>rw[D]at K;show(K).elim|some ob=>
   rw[D]at K;cases ob with
   |lst xs=>
    dsimp only at K;split at K
    .rename_i j;let#[vs,G,M]:=N.at D ha;let#[m,L,pl,hz]:=N.inv.list<|cf.of G;have I:m.length=xs.length:=by rw[<-L.length,M.length]
     have Z:64<=sizeLine:=01;have fresh:=N.inv.az.fresh<|fY _;unfold pL at K;cases F:JL xs with
     |some ns=>
      rw[F]at K;have C:=Vg F M L;have ln:=Xk C;refine sorted_ints pl.isList C (Zb (Zc (Zi I) 1) j) λk S hI J hs=>?_
      have en:=RD J hs;subst en;let#[e,he]:=sortedAll_at s.heap m k;have R:((Vm ns).map bA.int).length<=sizeLine:=by rw[Zm,J.length_eq];show Z3<|Zb (Zb (Zc (Zb (Zi ln.symm)<|Zi I) 1) j) Z
      have I':=N.inv.laid (o:=.lst<|(Vm ns).map bA.int) (t':=s.toks) (λ_ _=>sortedAll_old) (fY _) #[R,k.toList,e,Ya hI,he];show fB N K (s.heap.objs.size+1) fresh #[_,J0,Az _] _ _ I' rfl
     |none=>rw[F]at K;show(K).elim
    .show(K).elim
   |_=>show(K).elim
 |_=>show(K).elim
end
def QJ(f:Nat->Int):Nat->Int|0=>0|1=>f 0|j+2=>if f (j+1)<QJ f (j+1)then f (j+1)else QJ f (j+1)
def AA(f)(k:0<j):QJ f (j+1)=if f j<QJ f j then f j else QJ f j:=by cases j with|zero=>show absurd 06<|iU _|succ j=>rfl
theorem Gr(f):∀k,QJ f (k+1)=f (nW (λi j=>decide (f i<f j)) k)|0=>rfl|k+1=>by rw[AA f<|fX k,Gr f k];change _=f (if decide (f (k+1)<f (nW _ k))=Zj then k+1 else nW _ k);simp;split<;>rfl
section
variable{pr:cz}{wd:bL}{bC:cu}{E:aQ}{z:Z1}{l:Z8}{us:Tt}{ns:To}{Q:aQ}
def RF(F:bC.handled=Zg)(B:z.heap.IsList l us.toArray)(hi:hX us ns)(C:ns≠[])
  (L:∀v J tk,(∃u,v=.int (QJ (λi=>ns.getD i 0) ns.length) u)->(∀b o,z.heap.get? b=V o->J.get? b=V o)->Q v {z with heap:=J,toks:=tk}):
  Zz (Z5 pr wd) bC (call (.builtin "min") [.ref l]) Q E z:=by
 let#[M,m,_]:=id B;have lt:=Z0 m;have k:=Xk hi;have j:0<ns.length:=List.length_pos_iff.mpr C;have sz:us.toArray.size=us.length:=ZT ..;have D:∀(i:Nat)(v:Zu),us.toArray[i]?=V v->∃t,v=.int ((λi=>ns.getD i 0) i) t:=λi v q=>vh hi i v<|by simpa using q
 refine call_min_walk (nM B #[_,[_,l],[_],_,_,_,_,rfl,Walks.list (A:=bC.in1) F _ l (Zv lt) us.toArray,#[#[_,Zw _ rfl,rfl,rfl],B.push _],λb Z=>?_,by rw[sz];show Zb j<|Zi k.symm,zf (λi=>ns.getD i 0) D,λv G tk I H=>?_])
 .change b<(z.heap.push _).objs.size;rw[qV];rcases ZC.mp Z with rfl|Z
  .show ZS _
  .cases Z6.mp Z;show fP lt
 .let#[u,rfl]:=D _ _ I;have e:us.toArray.size-1+1=ns.length:=by rw[sz];show ZQ (Zb (Zi<|qh<|Zb j<|Zi k.symm)<|Zi k)<|Zb (Zi k.symm)<|oH<|Zl _
  refine L _ G tk #[u,?_] λb o e=>H b o (λq=>Zv (Z0 e)<|Z6.mp q)<|Zh _ e
  rw[<-e,Gr]
end
section
variable{B:aM}{X:Cx}
def VP:IV->IH->Res IV
 |.ref i,h=>match h[i]? with
  |some (.lst xs)=>(match JL xs with
   |some ns=>if ns=[]then .stuck else .ok (.int<|QJ (λi=>ns.getD i 0) ns.length) h
   |none=>.stuck)
  |_=>.stuck
 |_,_=>.stuck
theorem RG(F:X.A.handled=Zg):Qn B X (.builtin "min") (aO VP):=Vt λO s U H Y P h x xv u Q E N G C K=>by
 cases x with
 |ref i=>
  let#[a,m,ha]:=C;subst m;cases G;dsimp only[VP]at K;cases k:h[i]? with|none=>rw[k]at K;show(K).elim|some ob=>
   rw[k]at K;cases ob with
   |lst xs=>
    dsimp only at K;cases Z:JL xs with|none=>rw[Z]at K;show(K).elim|some ns=>
     rw[Z]at K;dsimp only at K;split at K
     .show(K).elim
     .rename_i j;let#[S,m,M]:=N.at k ha;let#[D,L,pl,W]:=N.inv.list<|cf.of m;refine RF F pl.isList (Vg Z M L) j λv J R ⟨t,ev⟩ I=>?_
      subst ev;show aD N K rfl _ _ (N.inv.kept I) #[t,rfl]
   |_=>show(K).elim
 |_=>show(K).elim
end
theorem aC.erase{K:W.Frag}:∀{xs:Tu}{vs:Ua}(k:Nat),aC K Y H xs vs->aC K Y H (xs.eraseIdx k) (vs.eraseIdx k)|[],vs,k,h=>by cases (h);show rfl|_::_,_,0,h=>by let#[v,r,rfl,q,t]:=h;show t|_::_,_,k+1,h=>by let#[v,r,rfl,q,t]:=h;show#[v,r.eraseIdx k,rfl,q,aC.erase k t]
section
variable{B:aM}{X:Cx}
noncomputable def X9:IV->Tu->IH->Res IV
 |.ref i,[.ref j],h=>match h[i]? with
  |some (.lst xs)=>(match h[j]? with
   |some (.lst ys)=>if xs.length+ys.length<=sizeLine then .ok .af (h.set i<|.lst<|xs++ys)else .stuck
   |_=>.stuck)
  |_=>.stuck
 |_,_,_=>.stuck
def RJ:m3 B X "list" "list.extend" X9:=by
 intro O s U H Y bE h x xs v us Q E N C W K;let#[xv,C,J]:=C;let#[vs,S,I]:=W;cases x with
 |ref i=>
  match xs,K with
  |[y],K=>
   cases y with
   |ref j=>
    let#[a,rfl,ha]:=J;let#[w,rfl,b,rfl,Z]:=I.bJ;dsimp only[X9]at K;cases u:h[i]? with|none=>rw[u]at K;show Zf K|some ob=>
     rw[u]at K;cases ob with
     |lst M=>
      dsimp only at K;cases k:h[j]? with|none=>rw[k]at K;show Zf K|some P=>
       rw[k]at K;cases P with
       |lst ys=>
        dsimp only at K;split at K
        .rename_i L;let#[R,F,G]:=N.at u ha;let#[m,e2,D]:=N.at k Z;show Av (NR (X:=X.bq E)) N.inv C S #[a,b,R,m,rfl,rfl,F,e2,by rw[G.length,D.length];show L,m4 (ys:=M++ys) N K ha F (G.append D) rfl]
        .show Zf K
       |_=>show Zf K
     |_=>show Zf K
   |_=>show Zf K
  |[],K=>show Zf K
  |y::_::_,K=>cases y<;>show Zf K
 |_=>cases xs with|nil=>show Zf K|cons y r=>cases y<;>cases r<;>show Zf K
def AB(k:Int):Zu->Bool|.int a _=>a==k|_=>Zn
theorem Gs:∀(us:Tt)(ns:To),us.length=ns.length->(∀i v,us[i]?=V v->∃t:Tok,v=mM (ns.getD i 0) t)->hX us ns|[],[],_,_=>.nil|u::us,n::ns,hl,h=>by let#[t,e]:=h 0 u rfl;cases (e);show .cons n t (Gs us ns (by simpa using hl) λi v q=>h (i+1) v q)|[],_::_,hl,_=>by cases hl|_::_,[],hl,_=>by cases hl
def XO(j):aX 0 j=((ZM j.toNat).map λk=>((k:Nat):Int)).map IV.int:=by simp[aX]
end
section
variable{prog:cz}{w:bL}{A:cu}{E:aQ}{s:Z1}
def AD(k:s.heap.IsTupleIter it t i)(G:s.heap.IsTuple t items) (h:match items[i]? with|some x=>∀h',h'.IsTupleIter it t (i+1)->mJ it s.heap h'->Q x {s with heap:=h'}|none=>aK A s.heap/\∀h' e,f6 it s.heap h'->(∃o,h'.get? e=V o/\o.cls=.type "StopIteration")->E (.ref e) {s with heap:=h'}):Zz (Z5 prog w) A (zc<|.ref it) Q E s:=by let#[I,m,H,j]:=id k;let#[J,u,_,L,D]:=G;unfold zc;calc Ze<|rO (name:=ZP "__next__") k.typeIs F.slot_tuple_iterator_next<|rW F.slot_tuple_iterator_next k.typeIs F.entry_tuple_iterator_next ?_<|F.args_tuple_iterator_next_1 _;change Zz _ A.in1 (field (.ref it) 0>>=_) _ _ s;calc Ze<|fg m j (x:=.ref t) rfl ?_;change Zz _ A.in1 (if (gT t==dD)=Zj then _ else _) _ _ s;rw[if_neg<|show ¬(gT t==dD)=Zj from Zx];change Zz _ A.in1 (field (.ref it) 1>>=_) _ _ s;calc Ze<|fg m j (x:=.int i 0) rfl ?_;change Zz _ A.in1 (qJ (.ref t)>>=_) _ _ s;calc Ze<|nO u D ?_;simp![lX];cases B:items[i]? with|some x=>rw[B]at h;calc Ze<|lN m j 03<|Zp #[x,rfl,Zp<|h _ #[_,lU _ m<|qQ<|kg j _,(uW ..).trans H,?_]<|vd ..];rw[kg j];simp[dU]|none=>rw[B]at h;calc Ze<|lO<|Ze<|lN m j 03 ?_;have C:=(vd s.heap it<|gU λx=>x.setIfInBounds 0 dD).extBut;show vk (h.1.but C m j 03) C h.2
theorem aK.ne(c:aK A h)(g:h.get? e=V o)(d:o.data=.fields vs)(n:vs[2]?≠V .none):e∉i9 A:=λz=>by cases c with|calm q=>simp[i9,q]at z|warm q g2 d2 x=>simp[i9,q]at z;subst z;rw[g]at g2;cases g2;rw[d]at d2;cases d2;show n x
end
theorem RK{prog:cz}{w:bL}{A:cu}(it l:Z8)(u:l≠it)(items:Th):Draws prog w A it (it::l::i9 A) items.size (λi v=>items[i]?=V v) (λi h=>(h.IsTupleIter it l i/\h.IsTuple l items)/\aK A h) where
 live:=λ_ _ st=>let ⟨o,ho,_⟩:=st.1.1;#[o,ho]
 frame:=λ_ _ _ st m=>#[#[st.1.1.at λo e=>m it 03 o e,let ⟨o,e,r⟩:=st.1.2;#[o,m l 03 o e,r]],st.2.at λb Z=>m b<|by simp[Z]]
 item:=λi s Q E B st F=>AD st.1.1 st.1.2 (by rw[getElem?_pos items i B];let#[o,ho,_,hd]:=id st.1.1;show λC k j=>F _ C s.toks (getElem?_pos items i B) #[#[k,st.1.2.extBut j.extBut u],st.2.but j.extBut ho hd 03] j)
 done:=λs Q E st D=>AD st.1.1 st.1.2<|by rw[getElem?_neg items items.size<|iU _];show#[st.2,D]
theorem RL{prog:cz}{w:bL}{A:cu}(it l:Z8)(i:Nat)(items:Th)(u:items[i]?=Zg):Draws prog w A it (it::l::i9 A) i (λ_ _=>True) (λj h=>j=i/\(h.IsTupleIter it l i/\h.IsTuple l items)/\aK A h) where
 live:=λ_ _ st=>let ⟨o,ho,_⟩:=st.2.1.1;#[o,ho]
 frame:=λ_ _ _ st k=>#[st.1,#[st.2.1.1.at λo e=>k it 03 o e,let ⟨o,e,r⟩:=st.2.1.2;#[o,k l 03 o e,r]],st.2.2.at λb Z=>k b<|by simp[Z]]
 item:=λj s Q E B st C=>by have:=st.1;lia
 done:=λs Q E st m=>AD st.2.1.1 st.2.1.2<|by rw[u];show#[st.2.2,m]
open AutoSeq1 (wpAny_loadPart') in
theorem RM(l)(items)(n)(a8)(sl):
  Meets (eG.«enumerate.__new__» #[[.type "enumerate",.ref l],[]]) (λ_ R s=>s.heap.get? l=V {cls:=.type "tuple",dict:=a8,data:=.seq items n,slots:=sl} /\
   R (.ok<|.ret<|.ref (s.heap.push {cls:=.type "tuple_iterator",data:=.fields (bS [.ref l,.int 0 0])}).objs.size)
    {s with heap:=(s.heap.push {cls:=.type "tuple_iterator",data:=.fields (bS [.ref l,.int 0 0])}).push {cls:=.type "enumerate",data:=.fields (bS [.none,.bool Zn,.ref s.heap.objs.size,dU 0,.none,.none])} }):=
 .of_wp λprog w A R s h=>by
  let#[hp,g,d,tk,os]:=s;let#[hl,h]:=h;have hsub:=sub_enumerate;have hT:Heap.IsTuple (Shared.heap #[hp,g,d,tk,os]) l items:=#[_,hl,rfl,n,rfl]
  wp_walk using rQ hl
  refine wpAny_stack_any λst=>Zp ?_
  split
  .rename_i c _ _ _ _ _;cases (c==mL "enumerate")<;>(wp_walk using rQ hl,rR hT;show#[_,rfl,h])
  .wp_walk using rQ hl,rR hT
   show#[_,rfl,h]
section
variable{prog:cz}{w:bL}{A:cu}{E:aQ}{s:Z1}
def RN(u:s.heap.IsTuple l items) (h:∀h',IsEnum h' (s.heap.objs.size+1) s.heap.objs.size 0 .none->h'.IsTupleIter s.heap.objs.size l 0->(∀b o,s.heap.get? b=V o->h'.get? b=V o)->Q (.ref<|s.heap.objs.size+1) {s with heap:=h'}):Zz (Z5 prog w) A (call (.type "enumerate") [.ref l]) Q E s:=by
 let#[#[c,a8,m,C],D,B,n,hd]:=u;cases (show c=.type "tuple" from B);cases (show m=.seq items n from hd);calc callType_new F.called_enumerate 01 (F.typeCall_enumerate_1 _) (F.newCall_enumerate_1 _) (λobj=>F.args_object_init_2 obj _) F.entry_enumerate_new (RM l items n a8 C) #[D,?_];have j:(s.heap.push {cls:=.type "tuple_iterator",data:=.fields (bS [.ref l,.int 0 0])}).objs.size=s.heap.objs.size+1:=nY ..;change _/\_;rw[j];have k:IsEnum ((s.heap.push {cls:=.type "tuple_iterator",data:=.fields (bS [.ref l,.int 0 0])}).push {cls:=.type "enumerate",data:=.fields (bS [.none,.bool Zn,.ref s.heap.objs.size,dU 0,.none,.none])}) (s.heap.objs.size+1) s.heap.objs.size 0 .none:=by have:=Zw (s.heap.push {cls:=.type "tuple_iterator",data:=.fields (bS [.ref l,.int 0 0])}) (o:={cls:=.type "enumerate",data:=.fields (bS [.none,.bool Zn,.ref s.heap.objs.size,dU 0,.none,.none])}) rfl;rw[j]at this;show this
 show#[#[_,k,rfl],h _ k #[_,Zh _<|Zw _ rfl,rfl,rfl] λb o x=>Zh _<|Zh _ x]
end
section
variable{B:aM}{X:Cx}
def pM(K:W.Frag)(a:Z8):It:=#[λi H=>∃xs x,eu K H a xs/\xs[i]?=V x,λi H y H'=>∃p x,H p=Zg/\y=.ref p/\H'=upd H p (.tup [.int (i:Int),x])/\∀xs,eu K H a xs->xs[i]?=V x,λi H=>∃xs,eu K H a xs/\xs.length<=i]
theorem RP{P:cz}{w:bL}{K:W.Frag}{es:Td}{k:Nat}{p:Pos}(a it e:Z8)(C:e≠it):Turn P w K (.Tuple es k p) (pM K a) [e,it] e (λi h=>(∃old,IsEnum h e it (i:Int) old)/\h.IsTupleIter it a i) where
 mem:=03
 obj:=λi h st b Z=>by
  let#[#[old,m],o,e1,c,d]:=st;simp![ZC,fu,or_false]at Z;rcases Z with rfl|rfl
  .show#[_,m,λv z=>by have z':Data.fields _=sC v:=z;cases z']
  .show#[o,e1,λv z=>by rw[d]at z;cases z]
 keep:=λi h h' st k=>#[let ⟨old,m⟩:=st.1;#[old,k e 03 _ m],st.2.at λo e=>k it 03 o e]
 item:=by
  intro X hP hw hK Q i O s U H E I S st hg;subst hP hw hK;let#[#[old,m],B]:=st;let#[xs,x,M,R]:=hg;let#[j,rv,pl,hz]:=I.tuple M;have L:s.heap.IsTuple a j.toArray:=pl;let#[u,hu,ru]:=rv.get R;have fe:=S e 03;have fi:=S it 03;let#[oi,F,ci,di]:=id B;have nea:a≠it:=λz=>by
   let#[oa,ha,ca,_]:=L;rw[z,F]at ha;cases ha;rw[ci]at ca;injection ca with z1
   show absurd z1 01
  have nee:e∉it::a::i9 X.A.in1:=λz=>by
   simp![ZC]at z;rcases z with z|z|z
   .show C z
   .let#[oa,ha,ca,_]:=L;have D:s.heap.get? e=V _:=m;rw[<-z,D]at ha;cases ha;injection ca with z1
    show absurd z1 01
   .show aK.ne (I.cw Q).in1 m rfl 03 z
  have Y:i<j.toArray.size:=by have:=(Zs.mp hu).1;simpa using this
  refine wpAny_pyNext_enum_itemD (RK (A:=X.A.in1) it a nea j.toArray) m #[#[B,L],(I.cw Q).in1] Y C nee λy h' tk hy D st' ht hsz kk=>?_
  have ey:y=u:=by
   have J:j[i]?=V y:=by simpa using hy
   rw[hu]at J;cases J;rfl
  subst ey;have G:=st'.1.1;calc#[_,rfl,Ej D λJ he2 sb=>?_];have ki:=Z0 m;let#[o,q,r]:=G;let#[I1,f1]:=Gi (t':=tk+1) I fe fi ki (Z0 F) (λb o h1 h3 q=>(sb.2 b h1).trans<|kk b o h1 h3 q) ((sb.2 _<|dC ki).trans ht) ru;show#[.ref s.heap.objs.size,_,I1,rfl,#[s.heap.objs.size,x,I.az.fresh<|Zl _,rfl,rfl,λys hy=>by rw[I.fS hy M];show R],#[#[_,he2],o,(sb.2 it<|bI C).trans q,r],f1]
 done:=by intro X hP hw hK Q i O s U H E I S st hg;subst hP hw hK;let#[#[old,m],B]:=st;let#[xs,M,R]:=hg;let#[j,rv,p,hz]:=I.tuple M;let#[f0,f1,f2,f3,f4,f5]:=S it 03;have hl:=rv.length;have L:s.heap.IsTuple a j.toArray:=p;show wpAny_pyNext_enum_endD (RL (A:=X.A.in1) it a i j.toArray<|by simp;show Zb (Zi hl.symm) R) m #[rfl,#[B,L],(I.cw Q).in1] λh' eb=>#[rfl,I.turned (t':=s.toks) (λb o Z e=>eb b o Z e) f0 f1 f3 f4 f5]
 self:=λ_ _ _ _ _ st h=>let ⟨_,m⟩:=st.1;uD m h
def V5:Tu->IH->Res jW|[.tup xs],h=>.ok #[Q9 0 xs,λ_=>True] h|vs,h=>V4 vs h
def RQ(ha:eu X.K H₀ a vs)(r:aC X.K Y H₀ xs vs):gj B X.K Y H₀ (pM X.K a) #[Q9 0 xs,λ_=>True]:=by
 refine#[λk v h H P m R E F=>?_,λk h H P m R E F=>?_]
 .have j:(Q9 0 xs)[k]?=V v:=F;rw[vV]at j;let#[x,D,rfl]:=ZH.mp j;have O:=aC.mono m _ _ r;have sa:=m.ext.sP ha;let#[u,I,M]:=O.get D;calc#[#[vs,u,sa,I],λy Q G=>?_];let#[p,S,C,rfl,rfl,G]:=G;have:=G vs sa;rw[I]at this;cases this;let#[L,J]:=R.grow (o:=.tup [.int (k:Int),u]) C;calc#[L,J,p,_,rfl,eu.of J0,#[_,_,rfl,?_,_,_,rfl,RV.mono J _ _ M,rfl]];change bA.int (k:Int)=bA.int ((0+k:Nat):Int);simp
 .show#[vs,m.ext.sP ha,by rw[r.length,<-Xf xs 0];show F]
def RS(M:Gl X "enumerate")(hm:X.mg "enumerate"=Zg)(ha:dX B X [a] ma)(hs:ZR [a] X.env=[(Zn,bp a X.env)]:=by rfl):ji B X (.Tuple es kt pt) (.Call (.Name "enumerate" p) [a] [] pos) (c4 V5 ma):=by
 intro O s U H Y m h Q E N K;by_cases P:∃xs C,ma m h=.ok [.tup xs] C
 .let#[xs,C,D]:=P;calc Call_<|Q3 N.inv M hm boot_enumerate<|o9 ?_ hs rfl;calc ha pos O s U H Y m h _ E N ?_;unfold c4 at K;rw[D]at K ⊢;intro us k H1 W1 j n1 r1;let#[ws,rv,qs]:=r1;let#[w,e1,q]:=qs.bJ;subst e1;let#[b,G,rfl,S,Z]:=q;let#[u,rfl,ru]:=Qr rv;cases ru;let#[F,W,pl,hz]:=j.inv.tuple S;refine RN (show k.heap.IsTuple b F.toArray from pl) λJ R I kp=>?_
  calc uD R<|K _ _ H1 W1 #[j.inv.kept (t':=k.toks) kp,j.rel,j.st] n1 ?_;calc#[k.heap.objs.size+1,[k.heap.objs.size+1,k.heap.objs.size],_,pM X.K b,rfl,RP b k.heap.objs.size (k.heap.objs.size+1)<|dC<|ZS _,#[#[_,R],I],λc L=>?_,RQ S Z];simp![ZC,fu,or_false]at L;rcases L with rfl|rfl
  .show j.inv.c8 (fY _)<|j.inv.az.fresh<|fY _
  .show j.inv.c8 (Zl _)<|j.inv.az.fresh<|Zl _
 .calc PY (es:=es) (kt:=kt) (pt:=pt) M hm ha hs O s U H Y m h Q E N ?_;have e:c4 V4 ma m h=c4 V5 ma m h:=by
   unfold c4;cases D:ma m h with
   |ok G C=>
    change V4 G C=V5 G C;unfold V5;split
    .show absurd #[_,_,D] P
    .rfl
   |_=>rfl
  rw[e];show K
end
noncomputable def QT (a:uP):Wx:=match a with| {posonlyargs:=[],args:=[p],vararg:=Zg,kwonlyargs:=[],kw_defaults:=[],kwarg:=Zg,defaults:=[]}=>V p.arg|_=>Zg
noncomputable abbrev m7 (q:Str):Str:=q++".<locals>."++"<lambda>"
abbrev gz(q:Str)(params:uP)(body:Expr)(scope:eL)(cl:Wq)(pm ctv:Zu)(c:Z8):Obj:=W.kla_obj "<lambda>" (m7 q) params body scope cl pm c ctv
def QH(mg:Str->Tb)(base:bc):Prop:=∃bm ob,mg "__builtins__"=V (.ref bm)/\bm≠nR/\bm≠Z2/\base.get? bm=V ob/\ob.cls=.type "module"/\ob.dict=V nR/\ob.data=.plain
def QP.rec(l:QP H q cv)(az:cZ P w H h):h.CodeRec cv (m7 q):=by let#[c,u,C,t,B,m,k,j]:=l;show#[c,u,C,t,B,(az c _ m).1,k,j]
def QP.mono(m:∀b o u,H b=V (.bw o u)->H' b=V (.bw o u))(l:QP H q cv):QP H' q cv:=by let#[c,k,C,t,j,B,r]:=l;show#[c,k,C,t,j,m _ _ _ B,r]
theorem Gu:∀(l:Tt),TriplesOk l->qG pos (l++[dU a,dU b,c])=V cv->qG pos l=V cv\/cv=c
 |[],_,e=>by
  simp![lK,dU,qG]at e;split at e
  .cases e;show .inr rfl
  .cases e
 |.int x t::.int y u::z::rest,h,e=>by
  simp![iY,qG]at e ⊢;split at e
  .rename_i j;rw[if_pos j];show .inl e
  .rename_i j;rw[if_neg j];show Gu rest h e
 |[.int _ _],h,_=>(h).elim
 |[.int _ _,.int _ _],h,_=>(h).elim
section
variable{B:aM}{X:Cx}
def aA.gB{O:aZ}(N:aA B X O Y bE h U H s)(e:s.heap.get? f=V fo)(F:aF X O H f)(d:∀v,fo.data≠.cell v):aA B X (O++[(f,fo)]) Y bE h U H s:=by
 have I:=N.inv.pinned (λb Z=>by rw[Z6.mp Z];show F) (λb Z=>by rw[Z6.mp Z];show#[fo,e,d]);have j:QV [f] s.heap=[(f,fo)]:=by simp[QV,e]
 rw[j]at I;show#[I,N.rel,N.st]
def AE{j:Nat}
  (N:aA B X O Y bE h U H s)(hj:h[j]?=V (.tab q))(hcd:W.codeIn X.K X.env.code q=Zj)(hq:X.env.qual=q++".<locals>.")(hdef:defaultsOf params X.env=([],[]))(hcl:oY scope X.env=pure cl)(bC:QH X.mg X.base)
  (K:∀f c pm k s' H',aA B X (O++[(f,gz q params body scope cl pm k c)]) Y bE h U H' s'->a9 Y H Y H'->QP H' q (.ref c)->Q (.ref f) s'):
  Zz (Z5 X.prog X.w) X.A (bp (.Lambda params body scope pos) X.env) Q E s:=by
 let#[a,ha,hc,ps,G,ht,F]:=N.rel.at_ j _ hj;let#[c,ec,hhd]:=hc _ hcd;have I:=N.inv;have C:=W.codeHd_of_K I.cN hhd;have gP:s.heap.get? a=V (W.tabObj ps):=I.az a _ G;have hg:s.heap.Ns Z2 X.mg:=I.ok.mod.glob.keeps I.bk;let#[bm,ob,b1,b2,b3,b4,b5,b6,b7]:=bC;have gb:=I.bs bm ob b4;have nba:bm≠a:=λz=>by rw[z,G]at gb;cases gb.2
 have Z:s.heap.BuiltinsAt X.mg a:=#[bm,ob,b1,b2,b3,nba,gb.1,b5,b6,b7];have nga:Z2≠a:=λz=>by let#[o,es,ep,e,d,_]:=hg;rw[z,gP]at e;cases e;cases d
 calc W.kla_eval hdef ?_;rw[hq];cases ea:qG pos ps.toList with
 |some cv=>
  have LC:=F pos cv ea;let#[D,oc,vs,t,ecv,_]:=id LC;subst ecv;refine W.kla_makeFunctionHit hcl I.ok.glob hg ec C gP ht ea Z λk h' tk hk hsz=>?_
  have I1:=I.kept (h':=h'.push<|gz q params body scope cl ((X.mg "__name__").getD .none) k D) (t':=tk) λb o e=>Zh _<|hk b o e
  have N1:aA B X O Y bE h U H _:=#[I1,N.rel,N.st];show K h'.objs.size D _ k _ H (N1.gB (Zw _ rfl) (I.c8 hsz<|I.az.fresh hsz) λv z=>by have z':Data.func _=sC v:=z;cases z') .refl LC
 |none=>
  refine W.kla_makeFunction hcl I.ok.glob hg ec C gP ht ea nga Z λD k h' tk hx S hlt hrec htb=>?_
  let#[c2,oc,vs,t,e2,hoc,hd,hv]:=hrec;cases e2;generalize hps:ps++(bS [dU pos.line,dU pos.col,.ref D])=L at htb;generalize hob:gz q params body scope cl ((X.mg "__name__").getD .none) k D=fo;have fc:H D=Zg:=I.az.fresh S;have nca:D≠a:=λz=>by rw[z,G]at fc;cases fc
  have P:s.heap.objs.size<=h'.objs.size:=Zb S<|Z3 hlt;obtain⟨H',hH⟩:∃H',H'=upd (upd H a<|.hY L) D (.bw oc<|.own 0):=#[_,rfl];have Ha:H' a=V (.hY L):=by rw[hH,Js<|bI nca,J0]
  have Hc:H' D=V (.bw oc<|.own 0):=by rw[hH,J0]
  have M:∀b,b≠a->b≠D->H' b=H b:=λb h1 J=>by rw[hH,Js J,Js h1]
  have kp:∀b o,b≠a->s.heap.get? b=V o->(h'.push fo).get? b=V o:=λb o Z e=>Zh _<|hx b o Z e
  have ga:(h'.push fo).get? a=V (W.tabObj L):=Zh _ htb;have bw:∀b o u,H b=V (.bw o u)->H' b=V (.bw o u):=λb o u e=>by rw[M b (λz=>by rw[z,G]at e;cases e) λz=>by rw[z,fc]at e;cases e];show e
  have tup:∀b xs,H b=V (.tup xs)->H' b=V (.tup xs):=λb xs e=>by rw[M b (λz=>by rw[z,G]at e;cases e) λz=>by rw[z,fc]at e;cases e];show e
  have own:∀b x,H b=V (.own x)->H' b=V (.own x):=λb x e=>by rw[M b (λz=>by rw[z,G]at e;cases e) λz=>by rw[z,fc]at e;cases e];show e
  have I1:Inv X O U H' {s with heap:=h'.push fo,toks:=tk}:=by
   refine I.step (g':=s.gens) (d':=s.drawn) (ch:=[]) (λb Z=>absurd Z 03) (λb o _ _ _ e n=>kp b o (λz=>by rw[z,G]at n;cases n) e) (λb o _ _ _ e n=>#[o.slots,kp b o (λz=>by rw[z,G]at n;cases n) e]) (λb o _ e n=>?_) (λb o _ e=>?_) tup bw (λb qs e=>?_) (λm hm=>?_) (λb u e=>?_) I.bare
   .rw[M b (λz=>by rw[z,G]at n;cases n)<|Zv<|ZL (Z0 e) S];show n
   .by_cases Z:b=a
    .subst Z;show#[_,ga]
    .show#[o,kp b o Z e]
   .by_cases Z:b=a
    .subst Z;rw[G]at e;cases e;show#[_,by rw[Ha,<-hps]]
    .show#[#[],by rw[M b Z (λz=>by rw[z,fc]at e;cases e),e];simp]
   .let#[o,es,ep,ho,r]:=hm;show#[o,es,ep,kp _ o (λz=>by have:=I.free;rw[z,G]at this;cases this) ho,r]
   .by_cases Z:b=a
    .subst Z;rw[Ha]at e;cases e;show ga
    .by_cases hb2:b=D
     .subst hb2;rw[Hc]at e;cases e;show#[Zh _ hoc,_,Zh _ hoc]
     .rw[M b Z hb2]at e;calc(I.az b u e).eQ (λd v hd r=>kp d v (λz=>?_) r) (λd z=>own d _ z) tup;subst z;rcases hd with z|z
      .show Z z.symm
      .rw[G]at z;cases z
  have n:a9 Y H Y H':=#[#[[],03],#[tup,bw]];have LC:QP H' q (.ref D):=#[D,oc,vs,t,rfl,Hc,hd,hv];have R:Rel B X.K Y h H':=by
   calc#[N.rel.len,N.rel.nd,λi o e=>?_];let#[b,eb,ro]:=N.rel.at_ i o e;calc#[b,eb,?_];by_cases Z:b=a
   .subst Z;have hij:i=j:=N.rel.inj eb ha;subst hij;rw[hj]at e;cases e;refine#[hc,L,Ha,?_,λpos' cv ea'=>?_]
    .rw[<-hps,Array.toList_append];show TriplesOk_snoc _ _ _ _ ht
    .rw[<-hps,Array.toList_append]at ea';rcases Gu ps.toList ht ea' with z|z
     .show(F pos' cv z).mono bw
     .rw[z];show LC
   .refine ro.mono n λu hu=>?_
    rw[M b Z λz=>by rw[z,fc]at hu;cases hu];show hu
  have N1:aA B X O Y bE h U H' _:=#[I1,R,N.st.mono n];subst hob;show K h'.objs.size D _ k _ H' (N1.gB (Zw _ rfl) (I.c8 P<|by rw[M _ (dC<|ZL (Z0 gP) P)<|dC hlt];show I.az.fresh P) λv z=>by have z':Data.func _=sC v:=z;cases z') n LC
end
abbrev pN(q:Str)(scope:eL)(L f:Z8)(cd:Zu)(cl:Wq):Env:=newEnv scope L Z2 cl (m7 q++".<locals>.") (V f) cd Zg nR
def mj(X:Cx)(A:cu)(N':Tj)(q:Str)(scope:eL)(f:Z8)(cd:Zu)(s:Z1)(H:Hp):Cx:={X with A:=A.deeper<|pN q scope s.heap.objs.size f cd<|bZ X.env.cells scope.names [],N:=N',s₀:=s,H₀:=H,env:=pN q scope s.heap.objs.size f cd<|bZ X.env.cells scope.names [],outer:=X.stack,stack:=pN q scope s.heap.objs.size f cd (bZ X.env.cells scope.names [])::X.stack,ex:=[],calm:=Zj,fn:=λ_=>Zn,pn:=[],xe:=λ_ _=>False}
structure iz(N0:Tj)(sc₀:Wh)(x:Str)(caps:Tj)(js:Tp)(scope:eL):Prop where
 kind:scope.kind=.function
 co:scope.isCoroutine=Zn
 gen:scope.isGenerator=Zn
 kY:∀y∈scope.names,y.2≠.cell
 par:scope.names.lookup x=V .local
 free:∀y∈scope.names,y.2=.free->sc₀.lookup y.1=V .cell
 fr:∀y,scope.names.lookup y=V .free->(y,.free)∈scope.names
 RT:∀(k j:Nat)(y:Str),js[k]?=V j->caps[k]?=V y->N0[j]?=V y/\scope.names.lookup y=V .free
 len:js.length=caps.length
 nd:(x::caps).Nodup
def RW:r7 (W.kla_fn nm qu {posonlyargs:=[],args:=[p],vararg:=Zg,kwonlyargs:=[],kw_defaults:=[],kwarg:=Zg,defaults:=[]} body scope cl pm cd ctv) #[[u],[]]=pure [(p.arg,u)]:=by have e:(qt p.arg [(p.arg,u)]).isNone=Zn:=03;unfold r7;simp[qJ,e];rfl
section
variable{B:aM}{X:Cx}
def AF (hA:A.frames=V X.stack)(hr:bu κ (k+1) A)(hc:Qt A H)(N:aA B X O Y bE h U H s)(hf:s.heap.get? f=V (gz q params body scope (bZ X.env.cells scope.names []) pm ctv c))(LC:QP H q<|.ref c)(hx:QT params=V x)(S:iz X.N X.env.scope.names x caps js scope) (Z:∀s' H',ah B (mj X A (x::caps) q scope f (.ref c) s' H') body m)(ru:RU X.K Y H v u)(K:Kont B X RU O Y bE U H ((m (V v::js.map λj=>(bE[j]?).join) h).nx) Q E):Zz (Z5 X.prog X.w) A (call (.ref f) [u]) Q E s:=by
 have I:=N.inv;have lim:s.heap.NoLimit:=I.ok.mod.nolimit.keeps λb o e=>(I.bs b o e).1
 calc oX<|W.kla_callFunE hr.depth hf rfl S.co S.gen rfl (LC.rec I.az) ?_;have G:r7 (W.kla_fn "<lambda>" (m7 q) params body scope (bZ X.env.cells scope.names []) pm (.ref c) ctv) #[[u],[]]=pure [(x,u)]:=by
  unfold QT at hx;split at hx
  .cases hx;show RW
  .cases hx
 rw[G];calc Zp (wpAny_newFunctionEnv S.kY (λy hy=>by rw[Z6.mp hy];show S.par) (λh3 hns R=>#[lim.fresh _ R,?_]) S.kind);let#[w,rw',qw]:=ru;have keep:∀b o,s.heap.get? b=V o->h3.get? b=V o:=λb o z=>(R.2 b<|Zv<|Z0 z).trans<|Zh _ z
 have C:∀y d,(bZ X.env.cells scope.names []).lookup y=V d->X.env.cells.lookup y=V d:=Ap _ _ (λy d z=>by simp at z);have okX:(mj X A (x::caps) q scope f (.ref c) s H).Ok:=by
  have ic:∀b:Z8,b∉(mj X A (x::caps) q scope f (.ref c) s H).ex:=λb z=>absurd (show b∈([]:Ts)from z) 03
  calc#[I.ok.mod,S.kind,rfl,rfl,Zl _,λy y' d a b=>I.ok.inj y y' d (C y d a)<|C y' d b,λy hy=>?_,λy d z=>absurd (show Zn=Zj from z) Zx,λ_=>hc,Around.frames_deeper hA,.inr #[rfl,rfl],λb z=>absurd z<|ic b,I.bs,Zb I.ok.kh I.sz,λb _ _=>ic b,λb z=>absurd z<|ic b,I.stack,I.dE];have hy':scope.names.lookup y=V .cell\/scope.names.lookup y=V .free:=hy;rcases hy' with z|z
  .show absurd rfl (S.kY _<|jL z)
  .have hm:=jL z;let#[d,hd]:=I.ok.has y<|.inl<|S.free (y,.free) hm rfl;show qf.mp<|Yo _ _ y d hm hd
 have I3:Inv (mj X A (x::caps) q scope f (.ref c) s H) [] (V w::js.map λj=>(U[j]?).join) H {s with heap:=h3,toks:=s.toks+[(x,u)].length}:=by
  refine#[okX,rfl,I.bare,Un.kept keep,#[_,hns,λi y z a b cc=>?_],λy d z=>?_,I.az.fresh<|Zl _,λy d z=>I.bY y d<|C y d z,λp hp=>absurd (show p∈([]:aZ)from hp) 03,I.az.kept keep,by change _=(x::caps).length;simp[S.len]]
  .cases i with|zero=>have D:V x=V y:=a;cases D;have F:V (V w)=V (V z):=b;cases F;show#[u,rw',.inl #[S.par,03]]|succ i=>
    have D:caps[i]?=V y:=a;have F:(js.map λj=>(U[j]?).join)[i]?=V (V z):=b;rw[ZK]at F;cases J:js[i]? with|none=>rw[J]at F;cases F|some j=>
     rw[J]at F;have b2:(U[j]?).join=V z:=hV F;have hZ:U[j]?=V (V z):=by cases L:U[j]? with|none=>rw[L]at b2;cases b2|some o=>rw[L]at b2;rw[show o=V z from b2]
     let#[hx1,hx2]:=S.RT i j y J D;have hm:=jL hx2;have hk:=S.free (y,.free) hm rfl;let#[m0,hn,hl]:=I.loc;let#[P,ru',lk]:=hl j y z hx1 hZ<|.inr<|.inl hk;rcases lk with⟨e,_⟩|⟨e,d,hd,hcell⟩
     .have hk':X.env.scope.names.lookup y=V .cell:=hk;have e':X.env.scope.names.lookup y=V .local:=e;rw[hk']at e';cases e'
     .let#[d',M]:=qf.mp<|Yo (cells:=X.env.cells) scope.names [] y d hm hd;have:=C y d' M;rw[hd]at this;cases this;let#[oc,hoc,hdd]:=hcell;show#[P,ru',.inr #[.inr hx2,d,M,oc,keep _ _ hoc,hdd]]
  .let#[z',o,ho,hd]:=I.cell y d<|C y d z;show#[z',o,keep _ _ ho,hd]
 have N3:aA B (mj X A (x::caps) q scope f (.ref c) s H) [] Y (V v::js.map λj=>(bE[j]?).join) h (V w::js.map λj=>(U[j]?).join) H {s with heap:=h3,toks:=s.toks+[(x,u)].length}:=by
  calc#[I3,N.rel,03,λi z a=>?_];cases i with|zero=>have D:V (V v)=V (V z):=a;cases D;show#[w,rfl,qw]|succ i=>
   have D:(js.map λj=>(bE[j]?).join)[i]?=V (V z):=a;rw[ZK]at D;cases J:js[i]? with|none=>rw[J]at D;cases D|some j=>
    rw[J]at D;have a2:(bE[j]?).join=V z:=hV D;have hZ:bE[j]?=V (V z):=by cases L:bE[j]? with|none=>rw[L]at a2;cases a2|some o=>rw[L]at a2;rw[show o=V z from a2]
    let#[z',ez,qz]:=N.st.2 j z hZ;calc#[z',?_,qz];change(js.map λj=>(U[j]?).join)[i]?=V (V z');rw[ZK,J];change V ((U[j]?).join)=_;rw[ez];rfl
 refine W.kla_codeExpr<|dm (Z s H [] _ _ H Y _ h (λP s'=>Q P s') (λ_ _=>False) N3 ?_) (λ_ _ z=>z) λ_ _ z=>z.elim
 cases er:m (V v::js.map λj=>(bE[j]?).join) h with|ok v' h'=>rw[er]at K;intro P s' H' Y' N' n' ⟨z,rz,qz⟩;have bB:=N'.inv;let#[_,_,I',rz',e1,e2]:=I.after (Q:=λz2 H2=>z2=z/\H2=H') #[z,H',bB.os,bB.bare,bB.base,bB.az,rz,rfl,rfl];subst e1;subst e2;show K P s' _ Y' #[I',N'.rel,N.st.mono n'] n' #[_,rz',qz]|exc n h'=>rw[er]at K;show Zf K|stuck=>rw[er]at K;show Zf K
end
noncomputable def m8:IV->IV->Ww|.int a,.int b=>V<|decide (a>b)|_,_=>Zg
def QC(gt:IV->IV->Ww)(mk:IV->IH->Res IV)(i n:Nat):Nat->IV->IV->IH->Res IV|0,b,_,h=>(match h[i]? with|some (.lst ys)=>if ys.length=n then .ok b h else .stuck|_=>.stuck)|r+1,b,kb,h=>(match h[i]? with|some (.lst ys)=>if ys.length=n then(match ys[n-(r+1)]? with|some y=>(mk y h).nx.bind λk h'=>(match gt k kb with|some Zj=>QC gt mk i n r y k h'|some Zn=>QC gt mk i n r b kb h'|none=>.stuck)|none=>.stuck)else .stuck|_=>.stuck)
def QR(gt:IV->IV->Ww)(mk:IV->IH->Res IV)(i:Nat)(d:Te)(h:IH):Res IV:=match h[i]? with|some (.lst ys)=>(match ys[0]? with|some y=>(mk y h).nx.bind λk h'=>QC gt mk i ys.length (ys.length-1) y k h'|none=>(match d with|some d=>.ok d h|none=>.stuck))|_=>.stuck
def aF.more(F:aF X O H b)(ne:p.1≠b):aF X (O++[p]) H b:=by
 calc#[F.1,F.2.1,F.2.2.1,F.2.2.2.1,F.2.2.2.2.1,λq j=>?_];rcases ZY.mp j with z|z
 .show F.2.2.2.2.2 q<|iJ _ z
 .rcases ZY.mp z with z|z
  .show F.2.2.2.2.2 q<|Zo _ z
  .rw[Z6.mp z];show ne
theorem aF.at(F:aF X O H b)(n:H' b=Zg):aF X O H' b:=#[n,F.2]
def AG{i:Nat}(r:Vals xs us)(e:us[i]?=V u):∃x,xs[i]?=V x/\RelV x u:=by have C:=(Zs.mp e).1;have B:=r.length;have j:i<xs.length:=Zb C<|Zi B.symm;have m:=Zd j;let#[D,k,q]:=r.get m;rw[e]at k;cases k;show#[_,m,q]
section
variable{B:aM}{X:Cx}
theorem aA.turned{O:aZ}(N:aA B X O Y bE h U H s)(F:aF X O H it)(k:∀b o,b≠it->s.heap.get? b=V o->h'.get? b=V o):aA B X O Y bE h U H {s with heap:=h',toks:=t'}:=#[N.inv.turned k F.1 F.2.1 F.2.2.2.1 F.2.2.2.2.1 F.2.2.2.2.2,N.rel,N.st]
theorem aA.jF{O:aZ}(N:aA B X O Y bE h U H s)(k:∀b o,s.heap.get? b=V o->h'.get? b=V o):aA B X O Y bE h U H {s with heap:=h',toks:=t'}:=#[N.inv.kept k,N.rel,N.st]
def jl(B:aM)(X:Cx)(A:cu)(op:CmpOp)(gt:IV->IV->Ww):Prop:=∀(O:aZ)(Y:Ts)(bE:aI)(h:IH)(U:L2.St)(H:Hp)(s:Z1)(k kb:IV)(u ub:Zu)(b:Bool)(Q:aQ)(E:aQ),aA B X O Y bE h U H s->RU X.K Y H k u->RU X.K Y H kb ub->gt k kb=V b ->(∀h' t',(∀a o,s.heap.get? a=V o->h'.get? a=V o)->Q (.bool b) {s with heap:=h',toks:=t'})->Zz (Z5 X.prog X.w) A (uN op u ub) Q E s
theorem RX:jl B X A .Gt m8:=λO Y R h U H s k I u S b Q E N r F e q=>by
 cases k with
 |int a=>
  cases I with
  |int c=>
   let#[x,G,ex]:=r;let#[y,L,M]:=F;have m:x=.int a:=ex;have j:y=.int c:=M;subst m;subst j;let#[t,rfl]:=G;let#[D,rfl]:=L;have J:V (decide (a>c))=V b:=e;cases J;have C:=vi (prog:=X.prog) (w:=X.w) (A:=A) (P:=λi v=>∃t,v=.int (if i=0 then a else c) t) (λi=>if i=0 then a else c) λ_ _ q=>q
   have:=C 0 1 (.int a t) (.int c D) s Q E #[t,03] #[D,03];simp![if_true,show ¬(1:Nat)=0 by decide,if_false]at this;show this<|q s.heap s.toks λ_ _ e=>e
  |_=>cases e
 |_=>cases e
def Xu(B:aM)(X:Cx)(A:cu)(bE:aI)(U:L2.St)(O:aZ)(G:Hp->Prop)(fv:Zu)(mk:IV->IH->Res IV):Prop:=∀(pl:aZ)(s:Z1)(H:Hp)(Y:Ts)(h:IH)(v:IV)(u:Zu)(Q:aQ),aA B X (O++pl) Y bE h U H s->G H->RU X.K Y H v u->Kont B X RU (O++pl) Y bE U H (mk v h).nx Q (λ_ _=>False) ->Zz (Z5 X.prog X.w) A (call fv [u]) Q (λ_ _=>False) s
def AH{r:Res α} (K:Kont B X R' O Y bE U H (r.nx.bind g) Q E) (step:∀x h1 u s1 H1 j,aA B X (O++pl) j bE h1 U H1 s1->a9 Y H j H1->R X.K j H1 x u->Kont B X R' O j bE U H1 (g x h1) Q E->Q1 u s1):Kont B X R (O++pl) Y bE U H r.nx Q1 (λ_ _=>False):=by cases r with|ok v k=>show λu F C G D m q=>step v k u F C G D m q<|Kont.mono K m|exc n k=>show(K).elim|stuck=>show(K).elim
section
variable{A:cu}{R:qM->Z1->Prop}{Q E:aQ}{O:aZ}{bE:aI}{U:L2.St}{G:Hp->Prop}{fq:Z8}{mk:IV->IH->Res IV}{gt:IV->IV->Ww}{i n:Nat}{l I C:Z8}{kw:Wn}
def RY(M:Mm nm L op)(hh:∀{H:Hp}{z:Z1},Inv X O U H z->aK A z.heap)(cm:jl B X A.in1 op gt)(ko:Xu B X A.in1 bE U O G (.ref fq) mk)(hG:∀H H',Ext H H'->G H->G H')(hR:∀v s',Q v s'->R (.ok<|.ret v) s')(P:I≠C):
  ∀(r j:Nat)(z:Z1)(H:Hp)(Y:Ts)(h:IH)(b kb:IV)(vb S:Zu)(c:Nat),n-j=r->0<j->j<=n->aA B X O Y bE h U H z->G H->Y[i]?=V l->aF X O H I->aF X O H C->z.heap.IsListIter I l j ->
   z.heap.get? C=V (cF "list" (bS [vb,S]) c)->RU X.K Y H b vb->RU X.K Y H kb S->Kont B X RU O Y bE U H (QC gt mk i n r b kb h) Q E ->
   iK (Z5 X.prog X.w) A (.builtin L #[[.ref I,.ref fq,.ref C],kw]) R z:=by
 intro r;induction r with
 |zero=>
  intro j z H Y h b kb vb S c hr h0 hj N g hi fI fC st gC rb rk K;obtain rfl:j=n:=05;unfold QC at K;cases eh:h[i]? with|none=>rw[eh]at K;show Zf K|some ob=>
   rw[eh]at K;cases ob with
   |lst ys=>
    dsimp only at K;split at K
    .rename_i D;let#[ws,e1,r3]:=N.at eh hi;let#[m,F,pl,_]:=N.inv.list<|cf.of e1;have ne:l≠I:=λq=>by have:=fI.1;rw[<-q,e1]at this;cases this
     have sz:m.toArray.size=j:=by rw[ZT,<-F.length,r3.length,D]
     have W:=vn (prog:=X.prog) (w:=X.w) (A:=A.in1) I l ne m.toArray;calc jw M.en ?_;rw[mQ M.pl _];change Zz _ A.in1 (qJ (.ref C)>>=_) _ _ z;calc Ze<|nO gC rfl ?_;change Zz _ A.in1 (tryCatch (fR<|.ref I) _>>=_) _ _ z;calc Ze (ka<|W.done z _ _ #[#[by rw[sz];show st,pl.isList],(hh N.inv).in1] λJ tk keep=>?_);have gC2:=keep C _ (λq=>P (Z6.mp q).symm) gC;have N1:=N.turned (h':=J) (t':=tk) fI λb o Z e=>keep b o (λq=>Z<|Z6.mp q) e
     change Zz _ A.in1 (updateSeq C (λ_=>#[])>>=_) _ _ _;calc Ze ?_;calc qB gC2 rfl (Ze<|kx<|Zp ?_);have N2:=N1.turned (h':=J.update C<|fj λ_=>#[]) (t':=tk) fC λb o Z e=>(ZB _ _<|bI Z).trans e
     show hR _ _<|K _ _ _ _ N2 .refl rb
    .show Zf K
   |_=>show Zf K
 |succ r ih=>
  intro j z H Y h b kb vb S c hr h0 hj N g hi fI fC st gC rb rk K;unfold QC at K;cases eh:h[i]? with|none=>rw[eh]at K;show Zf K|some ob=>
   rw[eh]at K;cases ob with
   |lst ys=>
    dsimp only at K;split at K
    .rename_i D;let#[ws,e1,r3]:=N.at eh hi;let#[m,F,pl,_]:=N.inv.list<|cf.of e1;have ne:l≠I:=λq=>by have:=fI.1;rw[<-q,e1]at this;cases this
     have sz:m.toArray.size=n:=by rw[ZT,<-F.length,r3.length,D]
     have ej:n-(r+1)=j:=by(rw[<-(by assumption:_-_=_+1)];show Nat.sub_sub_self 06)
     rw[ej]at K;have W:=vn (prog:=X.prog) (w:=X.w) (A:=A.in1) I l ne m.toArray;calc jw M.en ?_;rw[mQ M.pl _];change Zz _ A.in1 (qJ (.ref C)>>=_) _ _ z;calc Ze<|nO gC rfl ?_;change Zz _ A.in1 (tryCatch (fR<|.ref I) _>>=_) _ _ z;calc Ze (ka<|W.item j z _ _ (by rw[sz];show nA 06) #[#[st,pl.isList],(hh N.inv).in1] λy J tk hP st2 keep=>?_);have ey:m[j]?=V y:=by simpa using hP
     let#[x,ex,rx]:=AG F ey;let#[yv,eyv,qy]:=r3.get' ex;rw[eyv]at K;dsimp only at K;have gC2:=keep C _ (λq=>P (Z6.mp q).symm) gC;have N1:=N.turned (h':=J) (t':=tk) fI λb o Z e=>keep b o (λq=>Z<|Z6.mp q) e
     let#[oI,hoI,hoc,hod]:=id st2.1.1;have N2:=(N1.gB gC2 fC λv z=>by cases z).gB hoI (aF.more (p:=(C,cF "list" (bS [vb,S]) c)) fI<|bI P) λv z=>by rw[hod]at z;cases z
     rw[iW]at N2;change Zz _ A.in1 (tryCatch (jx [y]<|call (.ref fq) [y]) _>>=_) _ _ _;refine Ze<|ka<|eF<|mW<|ko _ _ _ _ _ yv y _ N2 g #[x,rx,qy]<|AH K λk h3 u s3 H3 U3 N3 n3 ru K3=>?_
     have pC:=N3.inv.pin (C,cF "list" (bS [vb,S]) c)<|Zo _<|Zo _ 03;have pI:=N3.inv.pin (I,oI)<|Zo _<|Zo _ 03;have N4:=N3.pins;have hi3:=n3.at hi;have g3:=hG _ _ n3.ext g;have fI3:=aF.at (H':=H3) fI pI.2.1;have fC3:=aF.at (H':=H3) fC pC.2.1;have it3:s3.heap.IsListIter I l (j+1):=#[oI,pI.1,hoc,hod];have ry3:RU X.K U3 H3 yv y:=RU.mono n3 #[x,rx,qy];cases eg:gt k kb with|none=>rw[eg]at K3;show Zf K3|some bb=>
      change Zz _ A.in1 (tryCatch (jx [y,u]<|uN op u S>>=_) _>>=_) _ _ _;refine Ze<|ka<|eF<|Ze<|cm _ _ _ _ _ _ _ k kb u S bb _ _ N4 ru (rk.mono n3) eg λh5 t5 k5=>?_
      calc Ze<|eF<|oS ?_;calc Ze<|kx<|Zp ?_;have N5:=N4.jF (h':=h5) (t':=t5) k5;have gC5:=k5 _ _ pC.1;let#[oI5,hoI5,hoc5,hod5]:=id it3;have it5:h5.IsListIter I l (j+1):=#[oI5,k5 _ _ hoI5,hoc5,hod5];rw[eg]at K3;cases bb with
      |true=>
       simp![if_true];calc Ze ?_;calc qB gC5 rfl (Ze<|kx ?_);rw[M.nm];have N6:=N5.turned (h':=h5.update C<|fj λ_=>(bS [y,u])) (t':=t5) fC3 λb o Z e=>(ZB _ _<|bI Z).trans e
       obtain⟨c2,hc2⟩:∃c2,(h5.update C<|fj λ_=>(bS [y,u])).get? C=V (cF "list" (bS [y,u]) c2):=#[_,sy gC5 λ_=>(bS [y,u])];calc Zp #[kc M.pl _,ih (j+1) _ H3 U3 h3 yv k y u c2 00 (fX _) (nA 06) N6 g3 hi3 fI3 fC3 ?_ hc2 ry3 ru K3];show#[oI5,(ZB _ _<|bI P).trans<|k5 _ _ hoI5,hoc5,hod5]
      |false=>simp![lV,if_false];calc Ze<|kx ?_;rw[M.nm];show Zp #[kc M.pl _,ih (j+1) _ H3 U3 h3 b kb vb S c 00 (fX _) (nA 06) N5 g3 hi3 fI3 fC3 it5 gC5 (rb.mono n3) (rk.mono n3) K3]
    .show Zf K
   |_=>show Zf K
def Gv(M:Mm nm L op)(hh:∀{H:Hp}{z:Z1},Inv X O U H z->aK A z.heap)(cm:jl B X A.in1 op gt)(ko:Xu B X A.in1 bE U O G (.ref fq) mk)(hG:∀H H',Ext H H'->G H->G H')(N:aA B X O Y bE h U H z)(g:G H)(hi:Y[i]?=V l)(rd:∀y,d=V y->∃u,dv=V u/\RU X.K Y H y u)
  (hR:∀v s',Q v s'->R (.ok<|.ret v) s')(hF:∀c s',c.quiet=Zj->iK (Z5 X.prog X.w) A c R s'->F (.again c) s')(K:Kont B X RU O Y bE U H (QR gt mk i d h) Q E):
  Zz (Z5 X.prog X.w) A.in1 (kz (.ref l)>>=λit=>newList []>>=λc=>again<|.builtin (toString nm++toString ".loop") #[[it,.ref fq,c],dv.toList.map λu=>(ZP "default",u)]) F E z:=by
 unfold QR at K;cases eh:h[i]? with|none=>rw[eh]at K;show Zf K|some ob=>
  rw[eh]at K;cases ob with
  |lst ys=>
   dsimp only at K;let#[ws,e1,r3]:=N.at eh hi;let#[m,D,pl,_]:=N.inv.list<|cf.of e1;have hl:=pl.isList;let#[ol,hol,_]:=id hl;have lt:l<z.heap.objs.size:=Z0 hol;have sz:m.toArray.size=ys.length:=by rw[ZT,<-D.length,r3.length]
   calc Ze<|nM hl ?_;calc Ze<|rY ?_<|ZW _;rw[M.nm];have ne:l≠z.heap.objs.size:=Zv lt;have W:=vn (prog:=X.prog) (w:=X.w) (A:=A.in1) z.heap.objs.size l ne m.toArray;have hS:(z.heap.push<|c9 l).objs.size=z.heap.objs.size+1:=qV ..;obtain⟨C,hC⟩:∃C,C=(z.heap.push<|c9 l).objs.size:=#[_,rfl];have j:z.heap.objs.size≠C:=by rw[hC,hS];show Zv<|ZS _
   have old:∀b o,z.heap.get? b=V o->((z.heap.push<|c9 l).push<|cF "list" #[] 0).get? b=V o:=λb o e=>Zh _<|Zh _ e
   have gI:((z.heap.push<|c9 l).push<|cF "list" #[] 0).get? z.heap.objs.size=V (c9 l):=Zh _<|Zw _ rfl;have gC:((z.heap.push<|c9 l).push<|cF "list" #[] 0).get? C=V (cF "list" #[] 0):=by rw[hC];show Zw _ rfl
   rw[<-hC];have fI:aF X O H z.heap.objs.size:=N.inv.c8 (Zl _)<|N.inv.az.fresh<|Zl _;have fC:aF X O H C:=N.inv.c8 (by rw[hC,hS];show fY _) (N.inv.az.fresh<|by rw[hC,hS];show fY _);have N0:=N.jF (t':=z.toks) old;calc Zp<|hF _ _ (kc M.pl _)<|jw M.en ?_;rw[mQ M.pl _];change Zz _ A.in1 (qJ (.ref _)>>=_) _ _ _;calc Ze<|nO gC rfl ?_;change Zz _ A.in1 (tryCatch (fR<|.ref z.heap.objs.size) _>>=_) _ _ _;cases S:ys[0]? with
   |none=>
    have h0:ys.length=0:=by have:=List.getElem?_eq_none_iff.mp S;show qg 06
    rw[S]at K;cases d with|none=>show Zf K|some dy=>
     let#[u,rfl,ru]:=rd dy rfl;calc Ze (ka<|W.done _ _ _ (by rw[sz,h0];show#[#[#[_,gI,rfl,rfl],(hl.push _).push _],(hh N.inv).in1.mono old]) λJ tk keep=>?_);have N1:=N0.turned (h':=J) (t':=tk) fI λb o Z e=>keep b o (λq=>Z<|Z6.mp q) e
     change Zz _ A.in1 (rule _>>=_) _ _ _;show Ze<|lO<|Zp<|hR _ _<|K _ _ _ _ N1 .refl ru
   |some yv=>
    have h0:0<ys.length:=(Zs.mp S).1;rw[S]at K;dsimp only at K;calc Ze (ka<|W.item 0 _ _ _ (by rw[sz];show h0) #[#[#[_,gI,rfl,rfl],(hl.push _).push _],(hh N.inv).in1.mono old] λy J tk hP st2 keep=>?_);have ey:m[0]?=V y:=by simpa using hP
    let#[x,ex,rx]:=AG D ey;let#[yv',P,qy]:=r3.get' ex;rw[S]at P;cases P;have gC2:=keep C _ (λq=>j (Z6.mp q).symm) gC;have N1:=N0.turned (h':=J) (t':=tk) fI λb o Z e=>keep b o (λq=>Z<|Z6.mp q) e
    let#[oI,hoI,hoc,hod]:=id st2.1.1;have N2:=(N1.gB gC2 fC λv z=>by cases z).gB hoI (aF.more (p:=(C,cF "list" #[] 0)) fI<|bI j) λv z=>by rw[hod]at z;cases z
    rw[iW]at N2;change Zz _ A.in1 (tryCatch (jx [y]<|call (.ref fq) [y]) _>>=_) _ _ _;refine Ze<|ka<|eF<|mW<|ko _ _ _ _ _ yv y _ N2 g #[x,rx,qy]<|AH K λk h3 u s3 H3 U3 N3 n3 ru K3=>?_
    have pC:=N3.inv.pin (C,cF "list" #[] 0)<|Zo _<|Zo _ 03;have pI:=N3.inv.pin (z.heap.objs.size,oI)<|Zo _<|Zo _ 03;have N4:=N3.pins;have fI3:=aF.at (H':=H3) fI pI.2.1;have I:=aF.at (H':=H3) fC pC.2.1;have ry3:RU X.K U3 H3 yv y:=RU.mono n3 #[x,rx,qy];change Zz _ A.in1 (updateSeq C (λ_=>(bS [y,u]))>>=_) _ _ _;calc Ze ?_;calc qB pC.1 rfl ?_;rw[M.nm];have N6:=N4.turned (h':=s3.heap.update C<|fj λ_=>(bS [y,u])) (t':=s3.toks) I λb o Z e=>(ZB _ _<|bI Z).trans e
    obtain⟨c2,hc2⟩:∃c2,(s3.heap.update C<|fj λ_=>(bS [y,u])).get? C=V (cF "list" (bS [y,u]) c2):=#[_,sy pC.1 λ_=>(bS [y,u])];calc Zp #[kc M.pl _,RY M hh cm ko hG hR j (ys.length-1) 1 _ H3 U3 h3 yv k y u c2 rfl (ZS _) (h0) N6 (hG _ _ n3.ext g) (n3.at hi) fI3 I ?_ hc2 ry3 ru K3];show#[oI,(ZB _ _<|bI j).trans pI.1,hoc,hod]
  |_=>show Zf K
def RZ(a v d):ky "max" #[[a],[(ZP "key",v),(ZP "default",d)]]:=by unfold ky;kernel_rfl
def R0(k:∀{H:Hp}{z:Z1},Inv X O U H z->aK A z.heap)(cm:jl B X A.in1 .Gt gt)(m:Xu B X A.in1 bE U O G (.ref fq) mk)(j:∀H H',Ext H H'->G H->G H')(N:aA B X O Y bE h U H z)(g:G H)(hi:Y[i]?=V l)(rd:RU X.K Y H dv d) (K:Kont B X RU O Y bE U H (QR gt mk i (V dv) h) Q E):Zz (Z5 X.prog X.w) A (call (.builtin "max") [.ref l] [(ZP "key",.ref fq),(ZP "default",d)]) Q E z:=by calc kmk_tree y9 y0 y8 (RZ _ _ _) ?_;change Zz _ A.in1 (nZ "max" ["key","default"] 0 #[[],[(ZP "key",.ref fq),(ZP "default",d)]]>>=_) _ _ z;calc Ze<|qE (show nZ "max" ["key","default"] 0 #[[],[(ZP "key",.ref fq),(ZP "default",d)]]=pure [V<|.ref fq,V d]from rfl) ?_;calc Ze<|Zp ?_;show Gv (dv:=V d) Rf k cm m j N g hi (λy e=>#[d,rfl,by cases e;show rd]) (λv u q=>q) (λc u q r=>#[q,r]) K
end
def Kont.more(K:Kont B X R O Y bE U H r Q E):Kont B X R (O++pl) Y bE U H r Q E:=by cases r with|ok v F=>show λu C j D N n q=>K u C j D N.pins n q|exc m F=>show λk a C j D N n q=>K (pl++k) a C j D (by simp_all) n q|stuck=>show K
def Yx(gt:IV->IV->Ww)(q:Str)(j:Nat)(js:Tp)(aa:A1)(m md:E1):E1:=λU h=>(aa U h).bind λxs h1=>match h1[j]? with|some (.tab q')=>if q'=q then(md U h1).bind λd J=>(match xs with|[.ref i]=>QR gt (λv h'=>m (V v::js.map λj=>(U[j]?).join) h') i (V d) J|_=>.stuck)else .stuck|_=>.stuck
def AI(j:QT params=V x):defaultsOf params env=([],[]):=by
 unfold QT at j;split at j
 .rfl
 .cases j
theorem R7(hg:Gl X "max")(hm:X.mg "max"=Zg)(ha:dX B X [a] aa)(hd:ah B X de md)(hs:ZR [a] X.env=[(Zn,bp a X.env)])
  (F:Roo κ (k+2) X)(P:W.codeIn X.K X.env.code q=Zj)(hq:X.env.qual=q++".<locals>.")(bC:QH X.mg X.base)(hx:QT params=V x)(S:iz X.N X.env.scope.names x caps js scope)
  (Z:∀f cd s' H',ah B (mj X X.A.in1 (x::caps) q scope f cd s' H') body m):
  ah B X (.Call (.Name "max" p) [a] [#[V "key",.Lambda params body scope lp,kp],#[V "default",de,kp2]] pos) (Yx m8 q j js aa m md):=λO s U H Y bE h Q E N K=>by
 have L:oY scope X.env=pure (bZ X.env.cells scope.names []):=vS λy hm hk=>N.inv.ok.has y.1<|.inl<|S.free y hm hk
 calc iZ<|Q3 N.inv hg hm rfl ?_;calc u3 ?_ (by rw[hs];rfl) (by rw[hs];rfl) rfl rfl;refine(ha pos).run N K λxs h1 us s1 H1 W1 N1 n1 r1 C=>?_
 cases ej:h1[j]? with|none=>rw[ej]at C;show Zf C|some ob=>
  rw[ej]at C;cases ob with
  |tab q'=>
   dsimp only at C;split at C
   .rename_i eq;subst eq;refine qS<|Ze<|AE N1 ej P hq (AI hx) L bC λf c pm R s2 H2 N2 n2 LC=>Ze<|jM<|Zp ?_
    refine qS<|Ze<|PX.run hd N2 (Kont.more<|Kont.mono C n2) λd h3 du s3 H3 U3 N3 n3 r3 D=>Ze<|jM<|Zp<|uY ?_
    let#[vs,rv,qs]:=r1.mono<|n2.trans n3;cases xs with|nil=>show Zf D|cons x t=>
     cases t with|cons _ _=>cases x<;>show Zf D|nil=>
      cases x with
      |ref i=>
       let#[w,rfl,ad,rfl,J]:=qs.bJ;let#[u,rfl,ru]:=Qr rv;cases ru;refine R0 (G:=λH=>QP H q'<|.ref c) (mk:=λv h'=>m (V v::js.map λj=>(bE[j]?).join) h') (λI=>I.cw F.c) RX ?_ (λH H' e g=>g.mono e.bf) N3 (LC.mono n3.ext.bf) J r3 ?_
       .intro pl s4 H4 U4 h4 v u Q4 M g4 ru4 K4;have pf:=M.inv.pin (f,gz q' params body scope (bZ X.env.cells scope.names []) pm R c)<|Zo _<|iJ _<|Zo _<|Z6.mpr rfl;show AF (A:=X.A.in1) N.inv.ok.frames F.r.in1 (M.inv.cS F.c) M pf.1 g4 hx S (Z f<|.ref c) ru4 K4
       .show D
      |_=>show Zf D
   .show Zf C
  |_=>show Zf C
end
def tf:Tt:=[.type "ValueError",.type "Exception",.type "BaseException",.type "object"]
abbrev JY(X:Cx)(a:Z8):Cx:={X with A:=X.A.mark<|V<|.ref a,calm:=Zn}
section
variable{B:aM}{X:Cx}{a C:Z8}{O:aZ}{U:L2.St}{H:Hp}{s:Z1}{Y:Ts}{bE:aI}{h:IH}{n:Nat}{c:Str}{fs:Wo}{tv:Zu}
theorem v5(I:Inv X O U H s)(a):Inv (JY X a) O U H s:=#[#[I.ok.mod,I.ok.kind,I.ok.glob,I.ok.blt,I.ok.above,I.ok.inj,I.ok.has,I.ok.pv,nofun,I.ok.frames,I.ok.qW,I.ok.qX,I.ok.bs,I.ok.kh,I.ok.jb,I.ok.h2,I.ok.dw,I.ok.l8],I.os,I.bare,I.base,I.loc,I.cell,I.free,I.bY,I.pin,I.az,I.len]
theorem AJ(ok:X.Ok)(I:Inv (JY X a) O U H s):Inv X O U H s:=#[ok,I.os,I.bare,I.base,I.loc,I.cell,I.free,I.bY,I.pin,I.az,I.len]
theorem _root_.L2.Inv.ti(I:Inv X O U H s)(k:∀p∈X.pn++pj',p∈X.pn++O):Inv X pj' U H s:=#[I.ok,I.os,I.bare,I.base,I.loc,I.cell,I.free,I.bY,λp j=>I.pin p<|k p j,I.az,I.len]
def R8(N:aA B X O Y bE h U H s)(u:h[n]?=V (.exc c fs))(hi:Y[n]?=V a)(J:W.nsIn X.K Z2 c=V (V<|.ref C))(ha:H a=V (cB a C tv d))(p:mV X H s.heap a C d T oT h'):aA B X O Y bE h U (upd (upd H T<|.bw oT<|.own 0) a<|cB a C (.ref T) d) {s with heap:=h'}/\a9 Y H Y (upd (upd H T<|.bw oT<|.own 0) a<|cB a C (.ref T) d):=by
 let#[M,L,d',D,_,k,_]:=Vk N.rel u hi;rw[O0 N.inv.az k ha]at D;let#[G,F]:=N.rel.grow p.new;have j:upd H T (.bw oT<|.own 0) a=V (cB a C tv d):=by rw[Js<|bI p.ne];show ha
 let#[E,m]:=G.write hi j (by rw[j];trivial) (io:=.exc c fs) #[C,.ref T,d,D.mono p.un.bf,J,J0,.inr #[T,oT,_,rfl,by rw[Js p.ne,J0],p.fld.choose_spec]];rw[Ag u]at E;have I:=N.inv.call (t':=s.toks) (d':=s.drawn) p.un p.az N.inv.bare λb z=>absurd z 03
 show#[#[I,E,N.st.mono<|F.trans m],F.trans m]
def AK(ok:cZ X.prog X.w H s.heap)(ha:H a=V (cB a C tv d))(B:ij H tv)(k:∀h',(∀b o,s.heap.get? b=V o->h'.get? b=V o)->Q () {s with heap:=h'}):Zz M A (r0 (.ref a) Zg) Q E s:=by
 let#[F,I,D,G,u,m,_]:=cB.get ok ha;calc Ze<|fg D u m ?_;rcases B with rfl|⟨T,oT,ts,rfl,q1,q2,q3⟩
 .rw[if_neg 01];show Zp<|k s.heap λ_ _ q=>q
 .have j:s.heap.get? T=V oT:=(ok T _ q1).1;calc lN j q2 (qR.mp q3).1 (k _ λb o q=>?_);by_cases z:b=T
  .subst z;rw[j]at q;cases q;show Aa j q2 q3
  .rw[ZB _ _<|bI z];show q
def R9(I:Inv X O U H s)(hN:X.N.Nodup)(hi:X.N[i]?=V x)(B:X.env.kindOf x=V .local)(k:∀s',Inv X O (U.set i Zg) H s'->Q () s'):
  Zz M A (do bindName X.env x .none;unbindBehindTheSuite X.env x pos) Q E s:=by
 let#[m,hn,hl]:=id I.loc;have F:(X.env.scope.kind==.class||(X.env.scope.kind==.module&&X.env.locals != X.env.globals))=Zn:=by rw[I.ok.kind];rfl
 have kG:=I.kG;refine wpAny_nameGoes_keeps B hn F λh' v P C=>?_
 have S:∀{b:Z8}{o:Obj},X.s₀.heap.get? b=V o->b≠X.env.locals:=λe=>Zv<|ZL (Z0 e) I.ok.above
 refine k _ #[I.ok,I.os,I.bare,#[λb o e nn Z B=>?_,λb o e nn Z B=>?_,I.base.free,λb o e B=>?_,I.base.cI,I.base.bf,I.base.cU],#[_,P,λj y w D L e3=>?_],λy G e=>?_,I.free,I.bY,λp hp=>?_,λb ob e=>?_,by rw[oR];show I.len]
 .show(C.2 b<|S e).trans<|I.base.keep b o e nn Z B
 .let#[sl,D]:=I.base.slot b o e nn Z B;show#[sl,(C.2 b<|S e).trans D]
 .let#[o',D]:=I.base.there b o e B;show#[o',(C.2 b<|S e).trans D]
 .by_cases z:j=i
  .subst z;have Y:j<U.length:=by rw[I.len];show(Zs.mp hi).1
   rw[iV Y]at L;cases L
  .rw[hL<|bI z]at L;let#[u,r,q]:=hl j y w D L e3;calc#[u,r,?_];rcases q with⟨q1,J⟩|⟨q1,G,J,q3⟩
   .calc .inl #[q1,?_];change(if y=x then v else m y)=V u;rw[if_neg λz2=>z<|zq hN D<|by rw[z2];show hi];show J
   .show .inr #[q1,G,J,q3.sameBut C<|kG y G J]
 .let#[W,z]:=I.cell y G e;show#[W,z.sameBut C<|kG y G e]
 .let#[e,nn,ne,nf,d]:=I.pin p hp;show#[(C.2 p.1 ne).trans e,nn,ne,nf,d]
 .have nb:∀{d:Z8}{u:HO},H d=V u->d≠X.env.locals:=λq z=>by rw[z,I.free]at q;cases q
  refine(I.az b ob e).eQ (λd W R q=>(C.2 d ?_).trans q) (λ_ q=>q) λ_ _ q=>q
  rcases R with rfl|R
  .show nb e
  .show nb R
end
def jU.unset{K:W.Frag}(r:jU K Y H bE U)(i):jU K Y H (bE.set i Zg) (U.set i Zg):=by
 calc#[by simp[r.len],λj w e=>?_];by_cases z:j=i
 .subst z;have k:j<bE.length:=by have:=(Zs.mp e).1;simpa using this
  rw[iV k]at e;cases e
 .rw[hL<|bI z]at e;let#[u,m,q1]:=r.at_ j w e;show#[u,by rw[hL<|bI z];show m,q1]
abbrev Gw:=(Str->Ww)×Option Nat×S1
abbrev _root_.Tq:=List Gw
noncomputable def Xn (sl:Ta)(x:Te)(U:aI):aI:=match sl with|some i=>U.set i x|none=>U
def bU.drop(sl:Ta)(r:bU):bU:=match r with|.next U h=>.next (Xn sl Zg U) h|.brk U h=>.brk (Xn sl Zg U) h|.cont U h=>.cont (Xn sl Zg U) h|.ret v h=>.ret v h|_=>.stuck
def Xh:Tq->Str->Nat->S1|[],_,_=>λ_ _=>.stuck|q::r,c,n=>λU h=>match q.1 c with|some Zj=>(q.2.2 (Xn q.2.1 (V<|.ref n) U) h).drop q.2.1|some Zn=>Xh r c n U h|none=>.stuck
def jZ(b:S1)(hs:Tq):S1:=λU h=>match b U h with|.exc n U1 h1=>(match h1[n]? with|some (.exc c _)=>Xh hs c n U1 h1|_=>.stuck)|r=>r
def tj(B:aM)(X:Cx)(a:Z8)(sl:Ta)(suite:Tl)(m:S1):Prop:=∀(O:aZ)(s:Z1)(U:L2.St)(H:Hp)(Y:Ts)(bE:aI)(h:IH)(Q:Flow->Z1->Prop)(E:aQ)(n:Nat)(c:Str)(fs:Wo),X.Ok->aA B (JY X a) O Y bE h U H s->h[n]?=V (.exc c fs)->Y[n]?=V a->(∀i,sl=V i->i<bE.length->bE[i]?=V (V<|.ref n)) ->JF B (JY X a) O Y H (m bE h) Q E->Zz (Z5 X.prog X.w) (JY X a).A (execs suite X.env) Q E s
theorem jD.h(p:jD B (JY X a) suite m):tj B X a sl suite m:=λO s U H Y j h Q E _ _ _ _ N _ _ _ K=>p O s U H Y j h Q E N K
structure m9(B:aM)(X:Cx)(t:Expr)(nm:Wx)(suite:Tl)(f:Str->Ww)(sl:Ta)(m:S1):Prop where
 test:∀(a:Z8)(c:Str)(C:Z8)(b:Bool)(O:aZ)(U:L2.St)(H:Hp)(s:Z1)(Q:Bool->Z1->Prop)(E:aQ),f c=V b->W.nsIn X.K Z2 c=V (V<|.ref C)->Inv (JY X a) O U H s->(∃oe,s.heap.get? a=V oe/\oe.cls=.ref C)->Q b s ->Zz (Z5 X.prog X.w) (JY X a).A (bp t X.env) (λv s₁=>Zz (Z5 X.prog X.w) (JY X a).A (excMatches (.ref a) v) Q E s₁) E s
 nm:(nm=Zg/\sl=Zg)\/∃n i,nm=V n/\sl=V i/\X.N[i]?=V n/\X.env.kindOf n=V .local
 run:∀a,tj B X a sl suite m
inductive fT(B:aM)(X:Cx):Tr->Tq->Prop|nil:fT B X [] []|cons {t:Expr}{nm:Wx}{b₀:eI}{suite:Tl}{pos:Pos}{f:Str->Ww}{sl:Ta}{m:S1}{hs:Tr}{ms:Tq}:m9 B X t nm (b₀::suite) f sl m->fT B X hs ms->fT B X (.ExceptHandler (V t) nm (b₀::suite) pos::hs) ((f,sl,m)::ms)
section
variable{B:aM}{X:Cx}
def Sa(hN:X.N.Nodup)(bD:fT B X hs ms)
  (N:aA B X O Y bE h U H s)(hj:h[n]?=V (.exc c fs))(hi:Y[n]?=V a)(K:JF B X O Y H (Xh ms c n bE h) Q E):Zz (Z5 X.prog X.w) X.A (handleBy (.ref a) X.env hs) Q E s:=by
 let#[C,tv,d,fe,hC,ha,ht]:=Vk N.rel hj hi;let#[oe,vs,e1,e2,_]:=cB.get N.inv.az ha;induction bD with|nil=>show(K).elim|@cons t nm b₀ suite pos f sl m hs ms o bD ih=>
  unfold Xh at K;dsimp only at K;cases Z:f c with|none=>rw[Z]at K;show(K).elim|some b=>
   rw[Z]at K;calc wpAny_handleBy_cons (codeAny_handlers_test<|o.test a c C b O U H s _ _ Z hC (v5 N.inv a) #[oe,e1,e2] ?_) (by intro q;cases q);cases b with|false=>show ih K|true=>
    dsimp only at K;rcases o.nm with⟨rfl,rfl⟩|⟨x,i,rfl,rfl,hx,hk⟩
    .have K:JF B X O Y H ((m bE h).drop Zg) Q E:=K;refine codeAny_handlers_suite<|AK N.inv.az ha ht λh' kp=>?_
     have N2:aA B (JY X a) O Y bE h U H {s with heap:=h'}:=#[v5 (N.inv.kept kp) a,N.rel,N.st];calc o.run a O _ U H Y bE h _ _ n c fs N.inv.ok N2 hj hi (λi z=>by cases z) ?_;have un:∀{O:aZ}{Y:Ts}{bE:aI}{h:IH}{U:L2.St}{H:Hp}{s:Z1},aA B (JY X a) O Y bE h U H s->aA B X O Y bE h U H s:=λq=>#[AJ N.inv.ok q.inv,q.rel,q.st]
     cases P:m bE h with|next R J=>rw[P]at K;show λI M D F G L=>K I M D F (un G) L|brk R J=>rw[P]at K;show λI M D F G L=>K I M D F (un G) L|cont R J=>rw[P]at K;show λI M D F G L=>K I M D F (un G) L|ret v J=>rw[P]at K;show λu I R M D F G L r3=>K u I R M D F (un G) L r3|exc k R J=>rw[P]at K;show(K).elim|stuck=>rw[P]at K;show(K).elim
    .have K:JF B X O Y H ((m (bE.set i<|V<|.ref n) h).drop<|V i) Q E:=K;refine codeAny_handlers_suite_as<|AK N.inv.az ha ht λh' kp=>?_
     have I2:Inv (JY X a) O U H {s with heap:=h'}:=v5 (N.inv.kept kp) a;calc YK (X:=JY X a) (v:=bA.ref a) I2 hN hx (.inl hk) rfl (λI I3=>?_) (.inr hk);have G:aA B (JY X a) O Y (bE.set i<|V<|.ref n) h (U.set i<|V<|bA.ref a) H I:=#[I3,N.rel,N.st.set i #[a,rfl,hi]];calc o.run a O _ _ H Y _ h _ _ n c fs N.inv.ok G hj hi (λj z l=>by cases z;show iV<|by simpa using l) ?_;have fin:∀{F:Ts}{R:aI}{J:IH}{M:L2.St}{D:Hp}{I:Z1}{W:Unit->Z1->Prop},aA B (JY X a) O F R J M D I->(∀S,aA B X O F (R.set i Zg) J (M.set i Zg) D S->W () S)->Zz (Z5 X.prog X.w) X.A (do bindName X.env x .none;unbindBehindTheSuite X.env x pos) W E I:=λq k=>
      R9 (AJ N.inv.ok q.inv) hN hx hk λS I4=>k S #[I4,q.rel,q.st.unset i]
     cases P:m (bE.set i<|V<|.ref n) h with|next R J=>rw[P]at K;show λI M D F G L=>fin G λS N4=>K S _ D F N4 L|brk R J=>rw[P]at K;show λI M D F G L=>fin G λS N4=>K S _ D F N4 L|cont R J=>rw[P]at K;show λI M D F G L=>fin G λS N4=>K S _ D F N4 L|ret v J=>rw[P]at K;show λu I R M D F G L r3=>fin G λS N4=>K u S _ _ D F N4 L r3|exc k R J=>rw[P]at K;show(K).elim|stuck=>rw[P]at K;show(K).elim
def Sb(P:X.N.Nodup)(hk:X.stack=X.env::X.outer)(hf:X.env.frame=V X.env.locals)(Z:jD B X body mb)(bD:fT B X (h₀::hs) ms):cK B X (.Try body (h₀::hs) [] [] pos) (jZ mb ms):=by
 intro O s U H Y M h Q E N K;unfold jZ at K;calc wpAny_Try_except<|Z O s U H Y M h _ _ N ?_;cases e:mb M h with|next m J=>rw[e]at K;show λG u D L j F=>rX<|K G u D L j F|brk m J=>rw[e]at K;show K|cont m J=>rw[e]at K;show K|ret v J=>rw[e]at K;show K|stuck=>rw[e]at K;show K|exc n m J=>
  rw[e]at K;dsimp only at K;cases k:J[n]? with|none=>rw[k]at K;show(K).elim|some ob=>
   cases ob with
   |exc c fs=>
    rw[k]at K;intro pl a G u D L j F I s4 S;have j:aA B X O L m J u D G:=#[j.inv.ti λp hp=>ZY.mpr<|(ZY.mp hp).imp_right λz=>iJ _ z,j.rel,j.st];let#[C,tv,d,fe,W,ha,ht]:=Vk j.rel k I;refine FP j.inv S hk hf ha ht λT oT h' p=>?_
    let#[N4,R]:=R8 j k I W ha p;show Sa P bD N4 k I<|JF.mono K<|F.trans R
   |_=>rw[k]at K;show(K).elim
def oz:IV->Wz->Wz->IH->Res IV|.str x,lo,hi,h=>if x.length<=sizeLine then .ok (.str<|sA x lo hi) h else .stuck|x,lo,hi,h=>ir x lo hi h
def Sd:vL B X oz:=by
 intro O s U H Y R h x v S M lo W Z Q E N D m pl J K;cases x with
 |str x=>
  let#[xv,D,P]:=D;cases (P);let#[t,rfl]:=D;dsimp only[oz]at K;split at K
  .rename_i C;calc#["str",_,F.slot_str_getitem.lookup,typeIs_str _ _ _,?_];cases pl with
   |none=>cases J with|none=>show uC (l:=Zg) (u:=Zg) (st:=Zg) m rfl (uF #[Zb (vj x _ _) C,λI k=>aD N K rfl _ _ (N.inv.tok _) #[_,rfl]])|int j G=>show uC (l:=Zg) (u:=V (j,G)) (st:=Zg) m rfl (uF #[Zb (vj x _ _) C,λI k=>aD N K rfl _ _ (N.inv.tok _) #[_,rfl]])
   |int i L=>cases J with|none=>show uC (l:=V (i,L)) (u:=Zg) (st:=Zg) m rfl (uF #[Zb (vj x _ _) C,λI k=>aD N K rfl _ _ (N.inv.tok _) #[_,rfl]])|int j G=>show uC (l:=V (i,L)) (u:=V (j,G)) (st:=Zg) m rfl (uF #[Zb (vj x _ _) C,λI k=>aD N K rfl _ _ (N.inv.tok _) #[_,rfl]])
  .show(K).elim
 |_=>show sX O s U H Y R h _ v S M lo W Z Q E N D m pl J K
end
def Se(a b c d):ky "max" #[[a,b,c,d],[]]:=by unfold ky;kernel_rfl
theorem Gx(f):∀k,JM f (k+1)=f (nW (λi j=>decide (f i>f j)) k)|0=>rfl|k+1=>by rw[vZ f<|fX k,Gx f k];change _=f (if decide (f (k+1)>f (nW _ k))=Zj then k+1 else nW _ k);simp![decide_eq_true_eq];split<;>rfl
section
variable{pr:cz}{wd:bL}{bC:cu}{E:aQ}{z:Z1}{t:Z8}{us:Tt}{ns:To}{Q:aQ}
def Gy(D:aK bC z.heap)(C:z.heap.IsTuple t us.toArray)(hi:hX us ns)(hn:ns≠[])
  (R:∀u J tk,(∀b o,z.heap.get? b=V o->J.get? b=V o)->Q (.int (JM (λi=>ns.getD i 0) ns.length) u) {z with heap:=J,toks:=tk}):
  Zz (Z5 pr wd) bC.in1 (kz<|.ref t) (λit s₂=>∃I F L n P St G,it=.ref I/\Walks pr wd bC.in1 I F L n P St/\St 0 s₂.heap/\(∀b∈F,b<s₂.heap.objs.size)/\0<n/\CmpOf pr wd bC.in1 .Gt P G /\
   ∀v h' tk,P (nW G<|n-1) v->(∀b o,b∉L->s₂.heap.get? b=V o->h'.get? b=V o)->Q v {s₂ with heap:=h',toks:=tk}) E z:=by
 let#[S,B,_]:=id C;have lt:t<z.heap.objs.size:=Z0 B;have m:=Xk hi;have k:0<ns.length:=List.length_pos_iff.mpr hn;have sz:us.toArray.size=us.length:=ZT ..;have H:∀(i:Nat)(v:Zu),us.toArray[i]?=V v->∃t,v=.int ((λi=>ns.getD i 0) i) t:=λi v q=>vh hi i v<|by simpa using q
 refine rR C #[_,_,[_],_,_,_,_,rfl,EM (A:=bC.in1) _ t (Zv lt) us.toArray,#[#[#[_,Zw _ rfl,rfl,rfl],C.push _],D.in1.mono λb o e=>Zh _ e],λb Z=>?_,by rw[sz];show Zb k<|Zi m.symm,vi (λi=>ns.getD i 0) H,λv h' tk O M=>?_]
 .change b<(z.heap.push _).objs.size;rw[qV];rcases ZC.mp Z with rfl|Z
  .show ZS _
  .rcases ZC.mp Z with rfl|Z
   .show fP lt
   .show fP<|D.in1.lt b Z
 .let#[u,rfl]:=H _ _ O;have e:us.toArray.size-1+1=ns.length:=by rw[sz];show ZQ (Zb (Zi<|qh<|Zb k<|Zi m.symm)<|Zi m)<|Zb (Zi m.symm)<|oH<|Zl _
  have j:=R u h' tk λb o e=>M b o (λq=>Zv (Z0 e)<|Z6.mp q)<|Zh _ e
  rw[<-e,Gx]at j;show j
def Sf(H:aK bC z.heap)(hi:hX [a,b,c,d] ns)(hn:ns≠[])
  (G:∀u J tk,(∀b o,z.heap.get? b=V o->J.get? b=V o)->Q (.int (JM (λi=>ns.getD i 0) ns.length) u) {z with heap:=J,toks:=tk}):
  Zz (Z5 pr wd) bC (call (.builtin "max") [a,b,c,d]) Q E z:=by
 calc kmk_tree y9 y0 y8 (Se _ _ _ _) ?_;change Zz _ bC.in1 (nZ "max" ["key","default"] 0 #[[],[]]>>=_) _ _ z;calc Ze<|qE (show nZ "max" ["key","default"] 0 #[[],[]]=pure [Zg,Zg]from rfl) ?_;change Zz _ bC.in1 (newTuple [a,b,c,d]>>=_) _ _ z;calc Ze<|lM ?_;refine Ze<|dm (Gy (E:=E) (Q:=Q) (us:=[a,b,c,d]) (H.mono λb o e=>Zh _ e) #[_,Zw _ rfl,rfl,0,rfl] hi hn λu J tk k=>G u J tk λb o e=>k b o<|Zh _ e) (λit s₂ h₂=>?_) λ_ _ e=>e
 let#[I,L,S,n,P,St,O,rfl,W,m,C,hn,j,G]:=h₂;calc Ze<|lM ?_;have B:s₂.heap.objs.size∉L:=λhm=>iU _<|C _ hm
 rw[Y9];calc Zp #[kc F.plain_max_loop _,codeAny_max_loop_first W O j s₂.heap.objs.size B hn (W.frame _ _ _ m λb _ o e=>Zh _ e) (Zw _ rfl) λv M tk R k=>?_];show G v M tk R λb o D e=>k b o D (Zv<|Z0 e)<|Zh _ e
end
def Sg(a):ky "max" #[[a],[]]:=by unfold ky;kernel_rfl
section
variable{B:aM}{X:Cx}
def Vh:IV->IH->Res IV
 |.ref i,h=>match h[i]? with
  |some (.lst xs)=>(match JL xs with
   |some ns=>if ns=[]then .stuck else .ok (.int<|JM (λi=>ns.getD i 0) ns.length) h
   |none=>.stuck)
  |_=>.stuck
 |.tup xs,h=>(match JL xs with
   |some ns=>if ns=[]then .stuck else .ok (.int<|JM (λi=>ns.getD i 0) ns.length) h
   |none=>.stuck)
 |_,_=>.stuck
theorem Sh(L:X.calm=Zj):Qn B X (.builtin "max") (aO Vh):=Vt λO s U H Y bE h x xv u Q E N M I K=>by
 cases x with
 |ref i=>
  let#[a,m,ha]:=I;subst m;cases M;dsimp only[Vh]at K;cases G:h[i]? with|none=>rw[G]at K;show Zf K|some ob=>
   rw[G]at K;cases ob with
   |lst xs=>
    dsimp only at K;cases Z:JL xs with|none=>rw[Z]at K;show Zf K|some ns=>
     rw[Z]at K;dsimp only at K;split at K
     .show Zf K
     .rename_i j;let#[R,m,r1]:=N.at G ha;let#[k,F,pl,W]:=N.inv.list<|cf.of m;refine Gm (d:=Zg) rfl (Sg _) (λq=>absurd q j) (N.inv.cw L) pl.isList (Vg Z r1 F) λv J C S D=>?_
      rcases S with⟨e,_⟩|⟨_,t,ev⟩
      .show absurd e j
      .subst ev;show aD N K rfl _ _ (N.inv.kept (t':=C) D) #[t,rfl]
   |_=>show Zf K
 |tup xs=>
  let#[a,R,m,sa,P]:=I;subst m;cases M;dsimp only[Vh]at K;cases Z:JL xs with|none=>rw[Z]at K;show Zf K|some ns=>
   rw[Z]at K;dsimp only at K;split at K
   .show Zf K
   .rename_i j;let#[k,F,pl,W]:=N.inv.tuple sa;have pt:s.heap.IsTuple a k.toArray:=pl;show call_max_walk<|Gy (N.inv.cw L) pt (Vg Z P F) j λu J C D=>aD N K rfl _ _ (N.inv.kept (t':=C) D) #[u,rfl]
 |_=>show Zf K
def Y6(xs:Tu)(h:IH):Res IV:=if xs.length=4 then(match JL xs with|some ns=>.ok (.int<|JM (λi=>ns.getD i 0) ns.length) h|none=>.stuck)else .stuck
def Si(G:X.calm=Zj):Qn B X (.builtin "max") Y6:=by
 intro O s U H Y P h xs C Q E N r K;let#[L,m,q]:=r;unfold Y6 at K;split at K
 .rename_i M;cases Z:JL xs with|none=>rw[Z]at K;show Zf K|some ns=>rw[Z]at K;have k:=Vg Z q m;have l1:=q.length;have l2:=m.length;have D:=Xk k;have j:C.length=4:=05;clear l2 m;match C,k,j with|[a,b,c,d],k,_=>show Sf (N.inv.cw G) k (λe=>by rw[e]at D;simp at D) λu J I F=>aD N K rfl _ _ (N.inv.kept (t':=I) F) #[u,rfl]|[],k,j=>simp at j|[_],k,j=>simp at j|[_,_],k,j=>simp at j|[_,_,_],k,j=>simp at j|_::_::_::_::_::_,k,j=>simp at j
 .show Zf K
structure j1(K:W.Frag)(C:Z8):Prop where
 sp:W.specialIn K (.ref C) "__getattribute__"=V (V<|.builtin "type.__getattribute__")
 rd:W.readsIn K C (.type "type")=Zj
 fc:∃fa,W.findIn K (.ref C) "__init__"=V (V<|.ref fa)/\W.findCls K (.ref C) (.type "type") "__init__"=V (.val<|.ref fa)/\W.keepIn K (.ref fa)=Zj
variable{k:Nat}{fa C:Z8}{fd:i6}{ps:Tj}{f:Tu->IH->Res IV}{aU:Tu}{ds:Tt}{x:Str}{p pos apos:Pos}{e:Expr}{es:Td}{ma:A1}{pl:Sem Bool}
def Sj(F:bM X.prog X.w X.K X.mg X.base (eB X.prog X.w) κ k fa fd ps<|iQ B X.K ps f)(P:Roo κ k X)(hg:Gl X x)(hm:X.mg x=V (.ref C))(bC:j1 X.K C)(M:Mk X.K C fa)(Z:Qa X.K fd ps ds)(hd:∃vs,Vals vs ds/\∀Y H,aC X.K Y H aU vs) (ha:dX B X (e::es) ma)(m:∀U h xs h',ma U h=.ok xs h'->xs.length+ds.length=ps.length)(G:(x==("__debug__":Str))=Zn:=by decide)(he:ZR (e::es) X.env=(Zn,bp e X.env)::ZR es X.env:=by rfl)(L:(d8 pos<|ZR es X.env).any (·.1)=Zn:=by rfl) (ht:bp (.Call (.Attribute (.Name x p) "__init__" apos) (e::es) [] pos) X.env=(do
   let ov<-bp (.Name x p) X.env
   nX apos.atName
   let (f,first)<-jx [ov] (oZ ov "__init__" pl)
   r8 pos f first (d8 pos<|ZR (e::es) X.env) (nV pos<|nP [] X.env)):=by rfl):
  ah B X (.Call (.Attribute (.Name x p) "__init__" apos) (e::es) [] pos) (Jm f aU ma):=by
 intro O s U H Y u h Q E N K;let#[I,f1,S,hk]:=bC.fc;have ef:I=fa:=by have:=f1.symm.trans M.init;cases this;rfl
 subst ef;calc W.methodCall_KW (pl:=pl) (V7 N.inv hg hm ?_ G) ht;calc W.method_cls N.inv.cN bC.sp<|W.cls_value N.inv.cN bC.rd S rfl ?_;have N':aA B X O Y u h U H {s with toks:=s.toks+1}:=#[N.inv.tok _,N.rel,N.st];calc W.callWith_K (h₀:=X.base) N.inv.ok.mod.pj hk ?_ he L;have j:=K;unfold Jm at j;calc ha pos O _ U H Y u h _ E N' ?_;cases D:ma u h with|exc n h'=>rw[D]at j;show j|stuck=>rw[D]at j;show j|ok xs h'=>
  rw[D]at j;intro us s1 H1 W1 J n1 R;have hl:xs.length=us.length:=by let#[vs,rv,q]:=R;rw[<-rv.length,q.length]
  have hl2:=m u h xs h' D;show#[J.inv.cN,YF (us:=us) F P.r (J.inv.cS P.c) Z hd 05 J R<|Kont.mono (r:=f (xs++aU) h') j n1]
end
section
variable{prog:cz}{w:bL}{A:cu}{E:aQ}{s:Z1}{x y:Str}{t u:Tok}{Q:aQ}
open Builtin Builtin.Str in
end
section
variable{B:aM}{X:Cx}
def Y2:IV->IH->Res IV|.str x,h=>if x.length<=640 then(match yJ x with|some n=>.ok (.int n) h|none=>.stuck)else .stuck|v,h=>sY v h
def Sk:Qn B X (.type "int") (aO Y2):=by
 intro O s U H Y k h xs m Q E N j K;match xs,K with
 |[.str x],K=>
  let#[I,F,G]:=j;let#[w,rfl,e]:=G.bJ;cases (e);let#[u,rfl,D]:=Qr F;let#[t,rfl]:=D;have K:Kont B X RU O Y k U H (if x.length<=640 then(match yJ x with|some n=>.ok (.int n) h|none=>.stuck)else .stuck) Q E:=K;split at K
  .rename_i C;cases en:yJ x with|none=>rw[en]at K;show(K).elim|some n=>rw[en]at K;show W.KIN.call_text en C<|aD N K rfl _ _ (N.inv.tok _) #[_,rfl]
  .show(K).elim
 |[],K=>show VH O s U H Y k h [] m Q E N j K
 |[.af],K=>show VH O s U H Y k h _ m Q E N j K
 |[.bl _],K=>show VH O s U H Y k h _ m Q E N j K
 |[.int _],K=>show VH O s U H Y k h _ m Q E N j K
 |[.ref _],K=>show VH O s U H Y k h _ m Q E N j K
 |[.tup _],K=>show VH O s U H Y k h _ m Q E N j K
 |[.cG _],K=>show VH O s U H Y k h _ m Q E N j K
 |y::z::r,K=>show VH O s U H Y k h (y::z::r) m Q E N j K
def eS:IV->IH->Res IV|.str x,h=>if x.length<=sizeLine then .ok (.str x) h else .stuck|.int i,h=>if i.natAbs.log2<1920 then .ok (.str<|toString i) h else .stuck|_,_=>.stuck
theorem Sl(ha:ah B X a ma):ah B X (.FormattedValue a (-1) Zg pos) (jg eS ma):=λO s U H Y L h Q E N K=>wpAny_FormattedValue_plain (ha.run N K λx P u J G M k n1 F j=>by
  let#[I,C,D]:=F;cases x with
  |str x=>
   cases (D);let#[t,rfl]:=C;dsimp only[eS]at j;split at j
   .rename_i m;show wpAny_formatField_str (aD k j rfl _ _ k.inv #[_,rfl]) (aD k j rfl _ _ (k.inv.tok _) #[_,rfl]) m
   .show(j).elim
  |int i=>
   cases (D);let#[t,rfl]:=C;dsimp only[eS]at j;split at j
   .rename_i m;show wpAny_formatField_int m<|aD k j rfl _ _ (k.inv.tok _) #[_,rfl]
   .show(j).elim
  |_=>show(j).elim)
def XA:Tv->Str->E1|[],acc=>λ_ h=>if acc.length<=sizeLine then .ok (.str acc) h else .stuck|m::r,acc=>λU h=>(m U h).bind λv h1=>match v with|.str y=>if (acc++y).length<=sizeLine then XA r (acc++y) U h1 else .stuck|_=>.stuck
def kZ(ms:Tv):E1:=XA ms iM
theorem Gz(m:∀e,ah B X e<|f e):∀(es:Td)(acc:Str)(s:Z1)(H:Hp)(Y:Ts)(h:IH),aA B X O Y bE h U H s->Kont B X RU O Y bE U H (XA (es.map f) acc bE h) Q E ->Joins (Z5 X.prog X.w) X.A E (evalEach es X.env) acc (λout s₁=>out.length<=sizeLine/\Q (.str out s₁.toks) {s₁ with toks:=s₁.toks+1}) s
 |[],acc,s,H,Y,h,N,K=>by
  have K:Kont B X RU O Y bE U H (if acc.length<=sizeLine then .ok (.str acc) h else .stuck) Q E:=K;split at K
  .rename_i k;show#[k,aD N K rfl _ _ (N.inv.tok _) #[_,rfl]]
  .show(K).elim
 |e::es,acc,s,H,Y,h,N,K=>by
  refine(m e).run N K λx C u G D I J n1 M j=>?_
  let#[P,L,F]:=M;cases x with
  |str y=>
   cases (F);let#[t,rfl]:=L;dsimp only at j;split at j
   .rename_i k;show#[y,t,rfl,k,Gz m es (acc++y) G D I C J j]
   .show(j).elim
  |_=>show(j).elim
theorem Sm(j:∀e,ah B X e<|f e):ah B X (.JoinedStr (a::b::r) pos) (kZ<|(a::b::r).map f):=λO s U H Y k h Q E N K=>wpAny_JoinedStr<|Gz j (a::b::r) iM s H Y h N K
end
abbrev v7(X:Cx)(a:Z8)(oe:Obj):Cx:={X with A:=X.A.mark<|V<|.ref a,H₀:=upd X.H₀ a (.bw oe<|.own 0)}
section
variable{fs ex:Ts}{H₀ H H':Hp}{h h0 h':bc}{a:Z8}{oe:Obj}
theorem Xg(ha:H a=V (.bw oe<|.own 0))(q:H b=o)(n:∀oe u,o≠V (.bw oe u)):b≠a:=λz=>by subst z;show n _ _<|q.symm.trans ha
def YE(q:upd H₀ a (.bw oe<|.own 0) b=o)(n:∀oe u,o≠V (.bw oe u)):H₀ b=o:=by
 by_cases z:b=a
 .subst z;rw[J0]at q;show absurd q.symm<|n _ _
 .rw[Js z]at q;show q
theorem _root_.L2.Un.warm(u:Un fs ex H₀ H h h')(ha:H a=V (.bw oe<|.own 0)):Un fs ex (upd H₀ a<|.bw oe<|.own 0) H h h' where
 keep:=λb o q m=>u.keep b o q (YE m λ_ _ z=>by cases z)
 slot:=λb o q m=>u.slot b o q (YE m λ_ _ z=>by cases z)
 free:=λb o q m=>u.free b o q (YE m λ_ _ z=>by cases z)
 there:=u.there
 cI:=λb xs q=>u.cI b xs (YE q λ_ _ z=>by cases z)
 bf:=λb o y q=>by
  by_cases z:b=a
  .subst z;rw[J0]at q;cases q;show ha
  .rw[Js z]at q;show u.bf b o y q
 cU:=λb ps q=>u.cU b ps (YE q λ_ _ z=>by cases z)
theorem _root_.L2.Un.AL(j:Un fs ex H₀ H h h0)(ha:H a=V (.bw oe<|.own 0))(u:Un fs ex (upd H₀ a<|.bw oe<|.own 0) H' h h'):Un fs ex H₀ H' h h' where
 keep:=λb o q m f x=>u.keep b o q (by rw[Js<|Xg ha (j.free b o q m x) λ_ _ z=>by cases z];show m) f x
 slot:=λb o q m f x=>u.slot b o q (by rw[Js<|Xg ha (j.free b o q m x) λ_ _ z=>by cases z];show m) f x
 free:=λb o q m x=>u.free b o q (by rw[Js<|Xg ha (j.free b o q m x) λ_ _ z=>by cases z];show m) x
 there:=u.there
 cI:=λb xs q=>u.cI b xs (by rw[Js<|Xg ha (j.cI b xs q) λ_ _ z=>by cases z];show q)
 bf:=λb o y q=>by
  by_cases z:b=a
  .subst z;have:=j.bf b o y q;rw[ha]at this;cases this;show u.bf b _ _ J0
  .show u.bf b o y<|by rw[Js z];show q
 cU:=λb ps q=>u.cU b ps (by let#[m,e]:=j.cU b ps q;rw[Js<|Xg ha e λ_ _ z=>by cases z];show q)
end
section
variable{B:aM}{X:Cx}{O:aZ}{U:L2.St}{H:Hp}{s:Z1}{Y:Ts}{bE:aI}{h:IH}{n:Nat}{c:Str}{fs:Wo}{a:Z8}
def Sn(N:aA B X O Y bE h U H s)(E:h[n]?=V (.exc c fs))(hi:Y[n]?=V a):∃oe vs,aA B X O Y bE (h.set n<|.iP c fs) U (upd H a<|.bw oe<|.own 0) s/\a9 Y H Y (upd H a<|.bw oe<|.own 0)/\oe.data=.fields vs/\vs[2]?=V .none:=by let#[C,P,d,J,I,ha,M]:=Vk N.rel E hi;let#[oe,vs,j,F,m,L,k,G]:=cB.get N.inv.az ha;let#[R2,n2]:=N.rel.write hi ha (by rw[ha];trivial) (o:=.bw oe<|.own 0) (io:=.iP c fs) #[C,oe,.own 0,vs,G▸J.mono (λb o u q=>by rw[Js λz=>by subst z;rw[ha]at q;cases q];show q),I,J0,F,m,k];have D:Inv X O U (upd H a<|.bw oe<|.own 0) s:=N.inv.write (x:=a) (e:=a) (h':=s.heap) (t':=s.toks) (by rw[ha];trivial) (.inl rfl) (λ_ _ _ q=>q) #[oe,j] #[j,oe,j];show#[oe,vs,#[D,R2,N.st.mono n2],n2,m,k]
theorem So(I:Inv X O U H s)(ha:H a=V (.bw oe<|.own 0))(d:oe.data=.fields vs)(x:vs[2]?=V .none):Inv (v7 X a oe) O U H s:=#[#[I.ok.mod,I.ok.kind,I.ok.glob,I.ok.blt,I.ok.above,I.ok.inj,I.ok.has,I.ok.pv,λ_=>.inr #[a,oe,_,vs,rfl,J0,d,x],I.ok.frames,I.ok.qW,I.ok.qX,λb o q=>#[(I.ok.bs b o q).1,(Js<|Xg ha (I.bs b o q).2 (λ_ _ z=>by cases z)).trans (I.ok.bs b o q).2],I.ok.kh,I.ok.jb,I.ok.h2,I.ok.dw,λb Z=>let ⟨_,o,ho,_⟩:=I.ok.dw.mem Z;(Js<|Xg ha (I.base.free b o ho (I.ok.l8 b Z) λz=>I.ok.h2 b z Z) λ_ _ z=>by cases z).trans (I.ok.l8 b Z)],I.os,I.bare,I.base.warm ha,I.loc,I.cell,I.free,I.bY,I.pin,I.az,I.len]
theorem Sq(I:Inv X O U H s)(ha:H a=V (.bw oe<|.own 0))(bB:Inv (v7 X a oe) pj' U' H' s'):Inv X pj' U' H' s':=#[I.ok,bB.os,bB.bare,I.base.AL ha bB.base,bB.loc,bB.cell,bB.free,bB.bY,bB.pin,bB.az,bB.len]
end
def oA(h:bc)(C:Z8):Prop:=∃nm q N bs bm hdct sn sub ab col dd k0 k1 k2 k3 k5 newId,h.get? C=V (uO nm q C N bs bm hdct sn sub ab col dd k0 k1 k2 k3 k5 newId)/\bm.contains (.type "BaseException")=Zj
def Sr(O:A.handled=Zg) (h:Zz M A x (λv s₁=>∃e oe vs C,v=.ref e/\oA s₁.heap C/\s₁.heap.get? e=V oe/\oe.cls=.ref C/\oe.data=.fields vs/\Zz M A (r0 (.ref e) Zg) (λ_ s₂=>E (.ref e) s₂) E s₁) E s):Zz M A (raiseStmt env (V x) Zg) Q E s:=by
 unfold raiseStmt;refine Ze<|dm h (λv s₁ h₁=>?_) λ_ _ x=>x
 let#[e,#[oc,od,I,J],vs,C,rfl,#[nm,q,N,bs,G,F,Z,sub,X,L,dd,W,k1,U,S,R,m,B,j],P,H,hd,D]:=h₁;have u:(gT C::G).contains (.type "BaseException")=Zj:=by rw[List.contains_cons,j,Bool.or_true]
 subst H hd;let#[hp,g,d,Y,os]:=s₁;generalize k:r0=SF at D ⊢;repeat (first|with_reducible calc rV P ?_|with_reducible calc rV B ?_|(with_reducible calc wpAny_isSubtype_exc B ?_;rw[u])|wp_step)
 subst k;show dm D (λ_ s₂ z=>wpAny_raiseNew_none O z) λ_ _ z=>z
def YH(rz:Str->Bool)(m:E1):S1:=λU h=>rS U (m U h) λv h1=>match v with|.ref n=>(match h1[n]? with|some (.exc c _)=>if rz c then .exc n U h1 else .stuck|_=>.stuck)|_=>.stuck
section
variable{B:aM}{X:Cx}{x:Expr}{m:E1}{pos:Pos}
def Ss(Z:X.A.handled=Zg)(he:ah B X x m)(M:∀c C,rz c=Zj->W.nsIn X.K Z2 c=V (V<|.ref C)->∀h:bc,X.K.In h->oA h C):cK B X (.Raise (V x) Zg pos) (YH rz m):=by
 intro O s U H Y bE h Q E N K;rw[arm_exec_Raise];calc Ze<|jM ?_;change Zz _ _ (raiseStmt X.env (V<|bp x X.env>>=λv=>nX pos>>=λ_=>pure v) Zg) Q E s;calc Sr Z ?_;refine Ze<|cV he N K λv S u s1 G P k n1 r1 j=>?_
 calc Ze<|jM<|Zp ?_;cases v with
 |ref n=>
  let#[xv,rx,a,rfl,F]:=r1;cases rx;dsimp only at j;cases D:S[n]? with|none=>rw[D]at j;show Zf j|some ob=>
   rw[D]at j;cases ob with
   |exc c fs=>
    dsimp only at j;split at j
    .rename_i J;let#[C,tv,d,fe,L,ha,ht]:=Vk k.rel D F;let#[oe,R,e1,e2,I,_]:=cB.get k.inv.az ha;calc#[a,oe,R,C,rfl,M c C J L _ k.inv.cN,e1,e2,I,?_];refine AK k.inv.az ha ht λh' keep=>?_
     show j [] a _ U G P #[by rw[jK];show k.inv.kept (t':=s1.toks) keep,k.rel,k.st] .refl F _<|.inl rfl
    .show Zf j
   |_=>show Zf j
 |_=>show Zf j
end
section
variable{prog:cz}{w:bL}{A:cu}{E:aQ}{hp:bc}{ge:Wj}{dr:Drawn}{tk:Nat}{ox:OsState}
variable{nm qn:Str}{C Na:Z8}{bs bm bmB:Tt}{hdct:Bool}{sn:Tj}{sub:Tt}{ab:Bool}{col:Ww}{dd:Tc}{k0 k1 k2 k3 k5:Tb}{bC Bn newId nid initId inN:String}{bmN:Tt}
def Su(Fn:uJ Bn newId inN bmN)(B:bmB.contains (.type Bn)=Zj)(F:uJ bC nid initId bmB)(T:OwnTail hp bmB bm) (D:hp.get? C=V (uO nm qn C Na bs bm hdct sn sub ab col dd k0 k1 k2 k3 k5 newId))(hn:hp.Ns Na mN)(hi:mN "__init__"=V (.ref fI))(U:hp.get? fI=V oI)(I:oI.cls=.type "function")(L:as.length<=sizeLine) (go:∀h' e,yO hp h' e (.ref C) as->Zz (Z5 prog w) A (call (.ref fI)<|.ref e::as) (λr s'=>r=.none/\Q (.done<|.ret<|.ref e) s') E #[h',ge,dr,tk,ox]):Zz (Z5 prog w) A (eG.«type.__call__» #[.ref C::as,[]]) Q E #[hp,ge,dr,tk,ox]:=by
 repeat (first|with_reducible calc rV D ?_|with_reducible calc wpAny_madeBy_exc D ?_|wp_step)
 calc codeAny_call_builtin_code (vf _ Fn.quiet)<|wpAny_check_new_subU Fn B T D<|codeAny_exc_new_subU Fn B F T D ?_ L;generalize k:({cls:=.type "tuple",data:=.seq as.toArray}:Obj)=m;generalize j:({cls:=.ref C,data:=.fields (bS [.ref hp.objs.size,.none,.none,.none,.bool Zn,.none])}:Obj)=u;have G:∀b o,hp.get? b=V o->((hp.push m).push u).get? b=V o:=λb o q=>Zh _<|Zh _ q
 have H:((hp.push m).push u).get? (hp.objs.size+1)=V u:=by
  subst j k
  heap_get
 have S:((hp.push m).push u).get? hp.objs.size=V m:=by subst j k;show Zh _<|yN rfl rfl
 have J:=G _ _ D;have W:((hp.push m).push u).Ns Na mN:=let ⟨o,M,O,q,r⟩:=hn;#[o,M,O,G _ _ q,r];have cC:(gT C::bm).contains (.ref C)=Zj:=03;have T1:=T.keeps G;have made:yO hp ((hp.push m).push u) (hp.objs.size+1) (.ref C) as:=#[G,uR<|fY _,hp.objs.size,by rw[H,j],uR<|Zl _,by rw[S,k]];have R:=H;subst j k;repeat (first|with_reducible calc rV H ?_|(with_reducible calc wpAny_isSubtype_exc J ?_;rw[cC])|wp_step)
 calc wpAny_typeLookup_tail J W T1 F.mroIs F.init.lookup ?_;rw[hi];calc eF<|Ze ?_;calc Ze<|yM #[_,G _ _ U,I] ?_;refine Zp<|Ze<|dm (go _ _ made) (λr s' P=>?_) λ_ _ z=>z
 let#[rfl,X]:=P
 wp_walk
 show X
def Sv(Fn:uJ Bn newId inN bmN)(j:bmB.contains (.type Bn)=Zj)(F:uJ bC nid initId bmB)(T:OwnTail hp bmB bm) (k:hp.get? C=V (uO nm qn C Na bs bm hdct sn sub ab col dd k0 k1 k2 k3 k5 newId))(hn:hp.Ns Na mN)(hi:mN "__init__"=V (.ref fI))(B:hp.get? fI=V oI)(m:oI.cls=.type "function")(u:as.length<=sizeLine) (go:∀h' e,yO hp h' e (.ref C) as->Zz (Z5 prog w) (A.under<|.builtin "type.__call__" #[.ref C::as,[]]) (call (.ref fI)<|.ref e::as) (λr s'=>r=.none/\Q (.ref e) s') E #[h',ge,dr,tk,ox]):Zz (Z5 prog w) A (call (.ref C) as) Q E #[hp,ge,dr,tk,ox]:=by
 have g1:=tc_lookup;have g2:=tc_bind<|.ref C;calc oX<|yG ?_;repeat (any_goals (first|assumption|with_reducible calc rV k ?_|wp_step))
 show#[rfl,codeAny_call_builtin_at (vf _<|by decide +kernel) entry_typeCall<|wpAny_check_type_call_sub k<|Su Fn j F T k hn hi B m u go]
end
def Sw{K:W.Frag}(I:K.In h)(G:h.Ns N m)(e:W.nsIn K N x=V (V v)):m x=V v:=by
 let#[o,u,B,go,gd,_,k]:=G;unfold W.nsIn at e;split at e
 .rename_i q;have z:=I _ _ q;rw[go]at z;cases z;cases gd;split at e
  .rename_i en j;cases e;rw[<-k];unfold nsFind findBy;rw[<-yW,j];rfl
  .split at e<;>cases e
 .cases e
def Qm(K:W.Frag)(C f:Z8):Bool:=match K.lookup C with|some ⟨.type "type",_,.cls cd,sl⟩=>(match cd.mro,sl.toList with|.ref C'::bm,[_,_,_,_,V (.builtin n),_]=>C'==C&&n=="ValueError.__new__"&&!cd.hasDel&&W.tailIn K tf bm&&W.nsOkIn K cd.ns&&W.nsIn K cd.ns "__init__"==V (V<|.ref f)&&(match K.lookup f with|some o=>o.cls==.type "function"|none=>Zn)|_,_=>Zn)|_=>Zn
def Qm.obj{K:W.Frag}(x:Qm K C f=Zj)(I:K.In h):∃bm N nm q bs hdct sn sub ab col dd k0 k1 k2 k3 k5 E F,h.get? C=V (uO nm q C N bs bm hdct sn sub ab col dd k0 k1 k2 k3 k5 "ValueError.__new__")/\h.Ns N E/\E "__init__"=V (.ref f)/\OwnTail h tf bm/\h.get? f=V F/\F.cls=.type "function":=by
 unfold Qm at x;split at x;case h_2=>cases x
 rename_i dd cd B ho;split at x;case h_2=>cases x
 rename_i D bm k0 k1 k2 k3 n k5 k j;simp at x;let#[#[#[#[#[#[e1,e2],m],e4],e5],e6],e7]:=x;subst e1 e2;let#[nm,bs,H,N,G,hd,sn,sub,ab,col,J]:=cd;have k:=k;have m:=m;subst k m;have j:B=(bS [k0,k1,k2,k3,V<|.builtin "ValueError.__new__",k5]):=by rw[<-Array.toArray_toList (xs:=B),j]
 subst j;cases u:K.lookup f with|none=>rw[u]at e7;cases e7|some o=>rw[u]at e7;show#[bm,N,nm,G,bs,hd,sn,sub,ab,col,dd,k0,k1,k2,k3,k5,_,o,I _ _ ho,.of_isNs<|W.isNs_of_in I e5,Sw I (.of_isNs<|W.isNs_of_in I e5) e6,W.tail_of_in I e4,I _ _ u,beq_iff_eq.mp e7]
section
variable{X:Cx}{O:aZ}{U:L2.St}{H:Hp}{s:Z1}{k:Nat}{f C:Z8}{fd:i6}{ps:Tj}{sp:Sp}{aU:Ua}{ds:Tt}{E:XK}{Q:VK}{us:Tt}{vs:Ua}{W:aQ}
def Sx(xc:Qm X.K C f=Zj)(F:bM X.prog X.w X.K X.mg X.base (eB X.prog X.w) κ k f fd ps sp)(hr:bu κ (k+1) X.A)(hc:Qt X.A H)(Z:Qa X.K fd ps ds)(hd:Vals aU ds)(I:Inv X O U H s)(r:Vals vs us)(hz:us.length<=sizeLine) (h:∀e,H e=Zg->sp (.ref e::(vs++aU)) (upd H e<|cB e C .none Zg) (λv H2=>v=.af/\Q (.ref e) H2) E) (hx:∀e s' H',Inv X O U H' s'->E e Zg H'->W e s'):Zz (Z5 X.prog X.w) X.A (call (.ref C) us) (EP X O U Q) W s:=by
 let#[bm,Na,nm,qn,bs,hdct,sn,sub,ab,col,dd,k0,k1,k2,k3,k5,mN,oI,J,hN,R,T,hf,S]:=Qm.obj xc I.cN;let#[G,ge,dr,tk,ox]:=s;refine Sv yZ 01 yZ T J hN R hf S hz λD e M=>?_
 let#[t,L,_,_]:=M.there;have he:H e=Zg:=by cases z:H e with|none=>rfl|some u=>let#[o,z']:=FL<|I.az e u z;rw[show G.get? e=Zg from M.new]at z';cases z'
 have m:∀b u,G.get? b=V u->D.get? b=V u:=λb u q=>M.keeps b u q
 have j:∀{b:Z8}{u:HO},H b=V u->upd H e (cB e C .none Zg) b=V u:=λ{b u} q=>by rw[Js λz=>by subst z;rw[he]at q;cases q];show q
 have un:Un X.fs [] H (upd H e<|cB e C .none Zg) G D:=#[λb o q _ _ _=>m b o q,λb o q _ _ _=>#[o.slots,m b o q],λb o q n _=>by rw[Js λz=>by subst z;rw[show G.get? b=Zg from M.new]at q;cases q];show n,λb o q _=>#[o,m b o q],λb xs q=>j q,λb o u q=>j q,λb ps q=>#[#[],by rw[j q];simp]];have ok:cZ X.prog X.w (upd H e<|cB e C .none Zg) D:=λb u q=>by
  by_cases z:b=e
  .subst z;rw[J0]at q;cases q;show cB.ok L rfl rfl rfl rfl rfl
  .rw[Js z]at q;show(I.az b u q).eQ (λd v _ p=>m d v p) (λd p=>j p) λd xs p=>j p
 have B:Inv X O U (upd H e<|cB e C .none Zg) #[D,ge,dr,tk,ox]:=I.un (t':=tk) un ok;have hq:=h e he;have Y:Vals (bA.ref e::(vs++aU)) (gT e::(us++ds)):=.cons rfl (r.append hd);have la:=Y.length;have lf:=F.len _ _ _ _ hq;have hl:(gT e::us++ds).length=ps.length:=by rw[iY];lia
 refine oX<|oU (F.run _ _ _ _ #[.ref e::us,[]] _ _ _ _ (hr.make C us []) ((B.px<|hc.mono λb o u q=>j q).make C us []) (Z _ (.ref e::us) B.cN hl) Y hq) λP s' q=>?_
 match P,q with|.error x,q=>let#[H',I',z]:=Ad B q;show hx x s' H' I' z|.ok (.ret u),q=>let#[v,H',J3,rv,ev,q3]:=B.after q;subst ev;show#[rv,#[bA.ref e,H',J3,rfl,q3]]|.ok .next,q=>show iN q|.ok .brk,q=>show iN q|.ok .cont,q=>show iN q
end
def v8(c:Str)(f:Tu->IH->Res IV)(aU:Tu)(a:A1):E1:=λU h=>(a U h).bind λvs h1=>(f (.ref h1.length::(vs++aU))<|h1++[.exc c []]).bind λr J=>match r with|.af=>.ok (.ref h1.length) J|_=>.stuck
section
variable{B:aM}{X:Cx}{k:Nat}{fa C:Z8}{fd:i6}{ps:Tj}{f:Tu->IH->Res IV}{aU:Tu}{ds:Tt}{x c:Str}{p pos:Pos}{e:Expr}{es:Td}{ma:A1}
def Sy(xc:Qm X.K C fa=Zj)(F:bM X.prog X.w X.K X.mg X.base (eB X.prog X.w) κ k fa fd ps<|iQ B X.K ps f)(hC:W.nsIn X.K Z2 c=V (V<|.ref C))(hr:bu κ (k+1) X.A)(hc:Qt X.A H)(Z:Qa X.K fd ps ds) (hd:∃vs,Vals vs ds/\∀Y H,aC X.K Y H aU vs)(R:us.length+ds.length+1=ps.length)(hz:us.length<=sizeLine)(N:aA B X O Y bE h U H s)(r:jf X.K Y H xs us) (K:Kont B X RU O Y bE U H ((f (.ref h.length::(xs++aU))<|h++[.exc c []]).bind λr J=>match r with|.af=>.ok (.ref h.length) J|_=>.stuck) Q E):Zz (Z5 X.prog X.w) X.A (call (.ref C) us) Q E s:=by
 let#[vs,S,q]:=r;let#[dv,rd,qd]:=hd;have hl1:=S.length;have hl2:=rd.length;refine dm (Sx (Q:=λz m=>∀u j,Inv X O U m j->RelV z u->Q u j) (E:=λv _ m=>∀j,Inv X O U m j->E v j) xc F hr hc Z rd N.inv S hz (λb hx=>#[by rw[jJ,Z7];lia,?_]) λ_ j _ D z=>z j D) (λu j ⟨z,m,D,r',k'⟩=>k' u j D r') λ_ _ z=>z
 let#[R2,n2]:=N.rel.alloc (o:=cB b C .none Zg) (io:=.exc c []) hx #[C,.none,Zg,.inl #[rfl,rfl],hC,J0,.inl rfl];have I:(Y++[b])[h.length]?=V b:=by rw[<-N.rel.len,ZU<|Zl _];simp
 calc#[Y++[b],h++[.exc c []],.ref h.length::(xs++aU),R2,#[_,_,rfl,#[b,rfl,I],(aC.mono n2 _ _ q).append<|qd _ _],?_];cases P:f (.ref h.length::(xs++aU)) (h++[.exc c []])with
 |ok v h'=>rw[P]at K;intro z m M L G qz;cases v with|af=>cases (show z=.af from qz);show#[rfl,λu j D ru=>K u j m M #[D,L,N.st.mono<|n2.trans G] (n2.trans G) #[.ref b,ru,b,rfl,G.at I]]|_=>show Zf K
 |exc n h'=>rw[P]at K;show λa m M L G hi j D=>K [] a j m M #[by simpa using D,L,N.st.mono<|n2.trans G] (n2.trans G) hi
 |stuck=>rw[P]at K;show Zf K
def Sz(xc:Qm X.K C fa=Zj)(kp:W.keepIn X.K (.ref C)=Zj)(F:bM X.prog X.w X.K X.mg X.base (eB X.prog X.w) κ k fa fd ps<|iQ B X.K ps f)(S:W.nsIn X.K Z2 c=V (V<|.ref C))(M:Roo κ (k+1) X)(hg:Gl X x)(hm:X.mg x=V (.ref C))(Z:Qa X.K fd ps ds)(hd:∃vs,Vals vs ds/\∀Y H,aC X.K Y H aU vs) (ha:dX B X (e::es) ma)(m:∀U h xs h',ma U h=.ok xs h'->xs.length+ds.length+1=ps.length)(hz:ps.length<=sizeLine)(D:(x==("__debug__":Str))=Zn:=by decide)(he:ZR (e::es) X.env=(Zn,bp e X.env)::ZR es X.env:=by rfl)(L:(d8 pos<|ZR es X.env).any (·.1)=Zn:=by rfl):ah B X (.Call (.Name x p) (e::es) [] pos) (v8 c f aU ma):=by
 intro O s U H Y G h Q E N K;calc iZ<|V7 N.inv hg hm ?_ D;calc W.callWith_K (h₀:=X.base) N.inv.ok.mod.pj kp ?_ he L;have j:=K;unfold v8 at j;calc ha pos O s U H Y G h _ E N ?_;cases u:ma G h with|exc n h'=>rw[u]at j;show j|stuck=>rw[u]at j;show j|ok xs h'=>
  rw[u]at j;intro us s1 H1 W1 I n1 P;have R:xs.length=us.length:=by let#[vs,rv,q]:=P;rw[<-rv.length,q.length]
  have hn:=m G h xs h' u;show#[I.inv.cN,Sy (us:=us) xc F S M.r (I.inv.cS M.c) Z hd 05 (Z3<|Zb (Zb (Zc (Zb (Zi R.symm)<|Zk _ _) 1)<|Zi hn) hz) I P<|Kont.mono (r:=(f (IV.ref h'.length::(xs++aU))<|h'++[.exc c []]).bind λr J=>match r with|IV.af=>Res.ok (IV.ref h'.length) J|_=>Res.stuck) j n1]
end
section
variable{X:Cx}{O:aZ}{U:L2.St}{H:Hp}{s:Z1}{f C e:Z8}{tv:Zu}{d:Tc}{us:Tt}
def SD(h:H a=V o):upd H a o=H:=by
 funext b;by_cases z:b=a
 .subst z;rw[J0,h]
 .rw[Js z]
def SE(xc:Qm X.K C f=Zj)(I:Inv X O U H s)(ha:H e=V (cB e C tv d))(hz:us.length<=sizeLine) (go:∀s',Inv X O U H s'->Q .none s'):Zz (Z5 X.prog X.w) X.A (call (.builtin "ValueError.__init__")<|.ref e::us) Q E s:=by
 let#[bm,Na,nm,qn,bs,Y,sn,sub,ab,col,dd,k0,k1,k2,k3,k5,mN,oI,D,hN,hni,T,hf,hfc]:=Qm.obj xc I.cN;let#[oe,P,g1,g2,F,g4,g5,Z]:=cB.get I.az ha;calc oX<|qA PySem.F.excBase_ValueError.init.plain PySem.F.excBase_ValueError.initEntry ?_;let#[m,W,L,M,R]:=s;refine wpAny_check_init_subU yZ T D g1 g2 ?_
 wp_walk
 have sz:=(qR.mp g4).1;obtain⟨G,h0⟩:∃G,P[0]?=V G:=#[P[0],og<|lF 06];rw[F];calc Zp ?_;dsimp only;rw[h0];calc Zp ?_;have j:=Zh {cls:=.type "tuple",data:=.seq us.toArray} g1;calc Ze<|lN j F (lF 06) ?_;have I1:Inv X O U H #[m.push {cls:=.type "tuple",data:=.seq us.toArray},W,L,M,R]:=I.kept λb o q=>Zh _ q
 have B:=kg F (·.setIfInBounds 0 (gT m.objs.size));have k:=lU (gU (·.setIfInBounds 0 (gT m.objs.size))) j<|qQ B;have S:Inv X O U (upd H e<|cB e C tv d) #[(m.push {cls:=.type "tuple",data:=.seq us.toArray}).update e (gU (·.setIfInBounds 0 (gT m.objs.size))),W,L,M,R]:=I1.write (by rw[ha];trivial) (.inl rfl) (λb u n q=>(ZB _ _<|bI n).trans q) #[_,k] (cB.ok k ((uW _ _).trans g2) B (by simp_all) (by simp_all)<|(FK _ _).trans Z);rw[SD ha]at S;have J:=go _ S;cases G with|ref b=>show kx<|Zp J|_=>show Zp<|Zp J
end
structure j2(K:W.Frag)(D:Z8):Prop where
 sp:W.specialIn K (.ref D) "__getattribute__"=V (V<|.builtin "type.__getattribute__")
 rd:W.readsIn K D (.type "type")=Zj
 fc:W.findCls K (.ref D) (.type "type") "__init__"=V (.val<|.builtin "ValueError.__init__")
def Yt(rz:Str->Bool)(a:A1):E1:=λU h=>(a U h).bind λvs h1=>match vs with|[.ref n,.str _]=>(match h1[n]? with|some (.exc c _)=>if rz c then .ok .af h1 else .stuck|_=>.stuck)|_=>.stuck
section
variable{B:aM}{X:Cx}{D:Z8}{x:Str}{p pos apos:Pos}{e:Expr}{es:Td}{ma:A1}{pl:Sem Bool}
def SG(S:∀c C,rz c=Zj->W.nsIn X.K Z2 c=V (V<|.ref C)->∃f,Qm X.K C f=Zj)(hg:Gl X x)(hm:X.mg x=V (.ref D))(bC:j2 X.K D) (ha:dX B X (e::es) ma)(u:(x==("__debug__":Str))=Zn:=by decide)(he:ZR (e::es) X.env=(Zn,bp e X.env)::ZR es X.env:=by rfl)(F:(d8 pos<|ZR es X.env).any (·.1)=Zn:=by rfl) (ht:bp (.Call (.Attribute (.Name x p) "__init__" apos) (e::es) [] pos) X.env=(do
   let ov<-bp (.Name x p) X.env
   nX apos.atName
   let (f,first)<-jx [ov] (oZ ov "__init__" pl)
   r8 pos f first (d8 pos<|ZR (e::es) X.env) (nV pos<|nP [] X.env)):=by rfl):
  ah B X (.Call (.Attribute (.Name x p) "__init__" apos) (e::es) [] pos) (Yt rz ma):=by
 intro O s U H Y R h Q E N K;calc W.methodCall_KW (V7 N.inv hg hm ?_ u) ht;calc W.method_cls N.inv.cN bC.sp<|W.cls_value N.inv.cN bC.rd bC.fc rfl ?_;have N':aA B X O Y R h U H {s with toks:=s.toks+1}:=#[N.inv.tok _,N.rel,N.st];calc uX ?_ he F;refine(ha pos).run N' K λxs h1 us s1 I Z k n1 r1 j=>?_
 let#[vs,rv,J]:=r1;by_cases G:∃n y,xs=[.ref n,.str y]
 .let#[n,y,rfl]:=G;let#[w1,w2,rfl,#[a,rfl,hi],q2]:=J.gm;let#[u1,u2,rfl,p1,p2]:=rv.two;cases p1;dsimp only at j;cases m:h1[n]? with|none=>rw[m]at j;show(j).elim|some ob=>
   rw[m]at j;cases ob with
   |exc c fs=>
    dsimp only at j;split at j
    .rename_i L;let#[C,tv,d,fe,P,hH,ht']:=Vk k.rel m hi;let#[f,xc]:=S c C L P;have sb:1<=sizeLine:=01;show SE xc k.inv hH (by simpa using sb) λM I'=>j _ M I Z #[I',k.rel,k.st] .refl #[.af,rfl,rfl]
    .show(j).elim
   |_=>show(j).elim
 .calc(show False from ?_).elim;split at j
  .show G #[_,_,rfl]
  .show j
end
def Yz:Tt->Bool|.ref _::r=>Yz r|l=>l==tf
theorem GA(self):∀{l:Tt},Yz l=Zj->refuseLoop self "__setattr__" l=pure ()|.ref c::r,e=>by rw[refuseLoop_ref];show GA self e|[],e=>by cases e|.type n::r,e=>by rw[show mL n::r=tf from beq_iff_eq.mp e];show PySem.F.store_ValueError.passes self|.none::_,e=>absurd (beq_iff_eq.mp e) nofun|.bool _::_,e=>absurd (beq_iff_eq.mp e) nofun|.int _ _::_,e=>absurd (beq_iff_eq.mp e) nofun|.str _ _::_,e=>absurd (beq_iff_eq.mp e) nofun|.float _ _::_,e=>absurd (beq_iff_eq.mp e) nofun|.bytes _ _::_,e=>absurd (beq_iff_eq.mp e) nofun|.ellipsis::_,e=>absurd (beq_iff_eq.mp e) nofun|.notImplemented::_,e=>absurd (beq_iff_eq.mp e) nofun|.builtin _::_,e=>absurd (beq_iff_eq.mp e) nofun
theorem GB:∀{l:Tt},Yz l=Zj->l.contains (.type "object")=Zj|.ref c::r,e=>by rw[List.contains_cons,GB (l:=r) e,Bool.or_true]|[],e=>by cases e|.type n::r,e=>by rw[show mL n::r=tf from beq_iff_eq.mp e];decide|.none::_,e=>absurd (beq_iff_eq.mp e) nofun|.bool _::_,e=>absurd (beq_iff_eq.mp e) nofun|.int _ _::_,e=>absurd (beq_iff_eq.mp e) nofun|.str _ _::_,e=>absurd (beq_iff_eq.mp e) nofun|.float _ _::_,e=>absurd (beq_iff_eq.mp e) nofun|.bytes _ _::_,e=>absurd (beq_iff_eq.mp e) nofun|.ellipsis::_,e=>absurd (beq_iff_eq.mp e) nofun|.notImplemented::_,e=>absurd (beq_iff_eq.mp e) nofun|.builtin _::_,e=>absurd (beq_iff_eq.mp e) nofun
section
variable{prog:cz}{w:bL}{A:cu}{K:W.Frag}{C x:Z8}{s:Z1}{R:qM->Z1->Prop}{ox:Obj}{name:Str}{v:Zu}
structure fJ(K:W.Frag)(C:Z8)(name:Str):Prop where
 line:(W.clsIn K C).any (λcd=>Yz cd.mro&&cd.hasDict)=Zj
 free:W.takerIn K C name=V Zg
 way:W.findIn K (.ref C) "__setattr__"=V (V<|.builtin "object.__setattr__")
def SH(S:fJ K C name)(X:K.In s.heap)(I:W.InstAt s.heap x ox C Zg) (h:∀b,Zz (Z5 prog w) A.in1 (Builtin.ObjectAttr.storeInOwnDict (.ref x) (.ref C) (.str name tk) name v b) (λfin s'=>match fin with|.done f=>R (.ok f) s'|.again c=>c.quiet=Zj/\iK (Z5 prog w) A c R s') (λe s'=>R (.error e) s') s):iK (Z5 prog w) A (.call (.builtin "object.__setattr__") #[[.ref x,.str name tk,v],[]]) R s:=by
 let#[cd,u,F]:=W.any_some S.line;let#[ho,B]:=sd.mp F;have ne:cd.mro.isEmpty=Zn:=by cases q:cd.mro with|cons _ _=>rfl|nil=>rw[q]at ho;cases ho
 have m:W.Looks (Z5 prog w) s.heap (isInstance (.ref x)<|.type "object") Zj:=I.type.andThen (W.looks_mroIn X (by unfold W.mroIn;rw[u,Option.bind_some,if_neg (by rw[ne];decide),GB ho]));have k:=PySem.F.store_object;let#[j,ha,D]:=ye.mp S.free;have st:W.Looks (Z5 prog w) s.heap (Builtin.ObjectAttr.storeTaker? j) Zg:=by
  cases j with
  |some a=>let#[b,Z,e]:=ZH.mp D;calc(W.looks_takesIn X Z).andThen ?_;cases b with|false=>show .now|true=>cases e
  |none=>show .now
 calc qA k.slot.plain k.entry ?_;calc @W.check_slot (Z5 prog w) _ _ s "object.__setattr__" "object" "__setattr__" (.ref x) [.str name tk,v] [] _ k.kind k.split m (k.args _ _ _) ?_;rw[W.osa_eq,refuse_eq];have E:W.Looks (Z5 prog w) s.heap (mroOf<|.ref C) cd.mro:=(W.looks_clsIn X u).andThen .now;calc Ze<|Ze<|I.type.here<|Ze<|E.here ?_;rw[GA _ ho];show Zp<|Ze<|I.type.here<|Ze<|(W.looks_findIn X ha).here<|Ze<|st.here<|h _
end
section
variable{prog:cz}{w:bL}{A:cu}{K:W.Frag}{C x:Z8}{s:Z1}{ox:Obj}{name:Str}{v:Zu}
def SI(S:fJ K C name)(X:K.In s.heap)(I:W.InstAt s.heap x ox C Zg)(hd:ox.dict=Zg)
  (go:∀h' t',h'.get? x=V {ox with dict:=V s.heap.objs.size}->h'.Ns1 s.heap.objs.size (λy=>if y=name then V v else Zg)->(∀b o,b≠x->s.heap.get? b=V o->h'.get? b=V o)->Q () {s with heap:=h',toks:=t'}):
  Zz (Z5 prog w) A (setAttr (.ref x) name v) Q E s:=by
 refine W.set_plain X I S.way<|SH S X I λb=>?_
 let#[cd,J,L]:=W.any_some S.line;have D:=(sd.mp L).2;obtain⟨j,k,hn,-⟩:=I;let#[oc,O,m,M]:=ox;dsimp only at k hd go;subst k hd;let#[B,Z,R,U,os]:=s;dsimp only at j X go ⊢;calc Ze<|Zp<|Ze<|Ze<|yI j<|Ze<|(W.looks_clsIn X J).here ?_;rw[D];have fr:=(Heap.get?_some_iff.mp j).2;have lt:=Zv<|Z0 j;have H:=Zh {cls:=.type "dict",data:=.dict #[]} j;change Zz _ _ (if (!true||!typeHasDict (.ref C))=Zj then pure Zg else match m with|Data.cls c=>pure Zg|_=>(alloc {cls:=mL "dict",data:=Data.dict #[]}>>=λd=>update x (λo=>{o with dict:=V d})>>=λ_=>dictMade (.ref C) x d)) _ _ _;rw[if_neg<|by simp[typeHasDict]];split
 .cases hn
 .calc Ze<|wpAny_alloc'<|Ze<|wpAny_update' H<|Zp ?_;have u:=(Heap.get?_update_ne (B.push {cls:=.type "dict",data:=.dict #[]}) B.objs.size x (λo:Obj=>{o with dict:=V B.objs.size}) lt.symm).trans<|yN rfl rfl;refine Ze<|Zp<|Ze<|wpAny_nsSet1 (Heap.Ns1.of_empty #[_,#[],_,u,rfl,λe z=>absurd z 03,λ_=>rfl]) λh' F G=>?_
  let#[oD,Y,P,g,gd,gl]:=F.count<|Within.cons name v Within.nil;calc Ze (wpAny_lookBehind g (by rw[gd];show pastItsLine_dict<|Zb gl<|iI 1 _)<|Zp ?_);refine go h' _ ?_ F λb o nb q=>(G.2 b<|Zv<|Z0 q).trans<|(Heap.get?_update_ne _ _ _ _ nb).trans<|Zh _ q
  calc(G.2 x lt).trans<|lU _ H ?_;revert fr;cases m<;>show id
end
def SJ{h:bc}(n:h.Ns1 a m)(e:m f=V v):∃o,h.get? a=V o/\o.isFreed=Zn/\W.lookIn f o=V (V v):=by let#[o,B,C,g,gd,_,_,k]:=n;calc#[o,g,(Heap.get?_some_iff.mp g).2,?_];have z:=k f;rw[e]at z;let#[en,q1,j]:=ZH.mp z;unfold W.lookIn;rw[gd];dsimp only;rw[yW,q1];show congrArg (λu=>V<|V u) j
def AM:IV->Bool|.int _=>Zj|.ref _=>Zj|_=>Zn
def v9(st:Str->Bool)(f:Str)(o e:E1):S1:=λU h=>rS U (e U h) λv h1=>rS U (o U h1) λov J=>match ov with|.ref i=>(match J[i]? with|some (.exc c [])=>if st c&&AM v then .next U (J.set i<|.exc c [(f,v)])else .stuck|_=>.stuck)|_=>.stuck
section
variable{B:aM}{X:Cx}{o value:Expr}{mo mv:E1}{pos pos':Pos}{fl:Str}
def SK (hu:XV Y y u)(S:fJ X.K C fl)(G:W.nsIn X.K Z2 c=V (V<|.ref C))(N:aA B X O Y bE h U H s)(R:h[n]?=V (.exc c []))(hi:Y[n]?=V a) (go:∀s' H',aA B X O Y bE (h.set n<|.exc c [(fl,y)]) U H' s'->a9 Y H Y H'->Q () s'):Zz (Z5 X.prog X.w) X.A (setAttr (.ref a) fl u) Q E s:=by
 let#[C',D,d,fe,m,ha,ht]:=Vk N.rel R hi;rw[G]at m;cases m;let#[oe,vs,g1,g2,M,g4,g5,I]:=cB.get N.inv.az ha;obtain rfl:d=Zg:=by
  rcases fe with⟨_,q⟩|⟨_,_,_,_,_,q,_⟩
  .show q
  .cases q
 refine SI S N.inv.cN #[g1,g2,by unfold W.notCls;rw[M],by rw[I];trivial] I λh' L J x2 x3=>?_
 let#[j,d1,d2,d3]:=SJ x2<|if_pos rfl;have hn:=N.inv.az.fresh<|Zl _;have ne:s.heap.objs.size≠a:=λz=>by rw[z,ha]at hn;cases hn
 have F:(s.heap.push j).get? s.heap.objs.size=V j:=yN rfl d2;have I1:Inv X O U (upd H s.heap.objs.size<|.bw j<|.own 0) {s with heap:=s.heap.push j,toks:=L}:=N.inv.laid (λb u q=>Zh _ q) (Zl _) #[F,#[_,F]];let#[Z,n1]:=N.rel.grow hn;have k:upd H s.heap.objs.size (.bw j<|.own 0) a=V (cB a C D Zg):=by rw[Js ne.symm];show ha
 have P:oo (upd H s.heap.objs.size (.bw j<|.own 0) a):=by rw[k];trivial
 let#[R2,n2]:=Z.write hi k P (io:=.exc c [(fl,y)]) #[C,D,V s.heap.objs.size,.inr #[fl,y,s.heap.objs.size,j,u,rfl,rfl,by rw[Js ne,J0],d3,hu],G,J0,ht.mono λb o u q=>by rw[Js (λz=>by subst z;rw[ha]at q;cases q),Js λz=>by subst z;rw[hn]at q;cases q];show q];have I2:Inv X O U (upd (upd H s.heap.objs.size<|.bw j<|.own 0) a<|cB a C D<|V s.heap.objs.size) {s with heap:=h',toks:=L}:=I1.write P (.inl rfl) (λb u nb q=>by
   by_cases z:b=s.heap.objs.size
   .lia
   .show x3 b u nb<|(Heap.get?_push_ne _ b _ z).symm.trans q) #[_,J] (cB.ok J g2 M g4 g5 rfl)
 show go _ _ #[I2,R2,N.st.mono<|n1.trans n2]<|n1.trans n2
def SM{st:Str->Bool}(ho:ah B X o mo)(I:ah B X value mv)(hx:∀c C,st c=Zj->W.nsIn X.K Z2 c=V (V<|.ref C)->fJ X.K C fl)(hs:nS value (V<|.Attribute o fl pos') pos.line X.env=pure Zn:=by rfl):
  cK B X (.Assign [.Attribute o fl pos'] value pos) (v9 st fl mo mv):=by
 intro O s U H Y bE h Q E N K;calc Ei (cV I N K λv h1 u s1 H1 W1 N1 n1 r1 K1=>cV ho N1 K1 λov J w s2 H2 U2 P n2 r2 k=>?_) hs;cases ov with
 |ref i=>
  let#[w,L,a,e1,S]:=r2;subst e1;cases L;dsimp only at k;cases F:J[i]? with
  |none=>rw[F]at k;show(k).elim
  |some ob=>
   rw[F]at k;by_cases Z:∃c,ob=.exc c []
   .let#[c,rfl]:=Z;dsimp only at k;split at k
    .rename_i G;let#[G,I]:=sd.mp G;let#[C,_,_,_,M,_]:=Vk P.rel F S;refine SK ?_ (hx c C G M) M P F S λs3 H3 N3 n3=>k s3 U H3 U2 N3 n3
     let#[w1,D,R]:=r1;cases v with
     |int y=>cases R;show D
     |ref j=>let#[b,rfl,q]:=R;let#[#[m,rfl],_]:=n2;show#[b,D,by rw[ZV (Zs.mp q).1];show q]
     |_=>cases I
    .show(k).elim
   .cases ob with
    |exc c fs=>cases fs with
     |nil=>show absurd #[c,rfl] Z
     |cons _ _=>show(k).elim
    |_=>show(k).elim
 |_=>show(k).elim
end
end L3
namespace L3
open PySem PySem.Spec PySem.Calls PyProof.Rows L2
section
variable{prog:cz}{w:bL}{A:cu}{E:aQ}{s:Z1}{K:W.Frag}{x D:Z8}{ox od:Obj}{f:Str}{v:Zu}
def SN(X:K.In s.heap)(I:W.InstAt s.heap x ox D<|V od)(j:W.hasDictIn K D=Zj)(k:W.findIn K (.ref D) f=V Zg)(B:W.lookIn f od=V (V v)) (G:Q (.done<|.ret v) s):Zz (Z5 prog w) A (eG.«object.__getattribute__» #[[.ref x,.str f tk],[]]) Q E s:=by
 let#[cd,C,hd]:=W.any_some j;have m:W.Looks (Z5 prog w) s.heap (lT<|.ref x) (.ref D):=I.type;have F:=W.looks_findIn (M:=Z5 prog w) X k;have u:=W.looks_own (M:=Z5 prog w) X I C<|by unfold W.ownOf;rw[if_pos hd];show B
 let#[H,g,d,t,os]:=s;repeat (any_goals (first|assumption|with_reducible calc m.at ?_|with_reducible calc F.at ?_|with_reducible calc u.at ?_|wp_step))
def SO(e:gk K D)(X:K.In s.heap)(I:W.InstAt s.heap x ox D<|V od)(B:W.findIn K (.ref D) f=V Zg)(G:W.lookIn f od=V (V v))(u:∀id,v≠.builtin id) (C:Q v s):Zz (Z5 prog w) A (getAttrBy (.ref x) (.str f tk) Zj b) Q E s:=by
 have j:W.Looks (Z5 prog w) s.heap (lT<|.ref x) (.ref D):=I.type;have k:=W.looks_findIn (M:=Z5 prog w) X e.ga;have m:=W.looks_findIn (M:=Z5 prog w) X e.gn;let#[H,g,d,t,os]:=s;dsimp only at j k m;have L:=F.attr_ValueError.ga.bind<|.ref x;have n2:(sk "BaseException.__getattribute__"==sk "object.__getattribute__")=Zn:=by decide +kernel
 have J:(b&&onTheHeap (sk "BaseException.__getattribute__"))=Zn:=by cases b<;>rfl
 repeat (any_goals (first|assumption|with_reducible calc j.at ?_|with_reducible calc k.at ?_|with_reducible calc m.at ?_|wp_step))
 calc qA F.attr_ValueError.ga.plain F.entry_bexc_ga<|FT X I.at_ I.cls e.mb<|SN X I e.hd B G ?_;repeat (any_goals (first|assumption|wp_step))
 split
 .show absurd rfl (u _)
 .show Zp C
theorem SR(e:gk K D)(X:K.In s.heap)(I:W.InstAt s.heap x ox D<|V od)(u:W.findIn K (.ref D) f=V Zg)(m:W.lookIn f od=V (V v))(k:∀id,v≠.builtin id) (j:Q v {s with toks:=s.toks+1}):Zz (Z5 prog w) A (getAttr (.ref x) f b) Q E s:=Ze (wpAny_mkText<|SO e X I u m k j)
def XV.nb(h:XV Y y u):∀id,u≠.builtin id:=by cases y with|int i=>let#[t,rfl]:=h;show nofun|ref j=>let#[b,rfl,_]:=h;show nofun|_=>cases h
end
def Yv(xa:Str->Bool)(f:Str)(o:E1):E1:=λU h=>(o U h).bind λv h1=>match v with|.ref i=>(match h1[i]? with|some (.exc c [(g,y)])=>if xa c&&decide (g=f)then .ok y h1 else .stuck|some (.iP c [(g,y)])=>if xa c&&decide (g=f)then .ok y h1 else .stuck|_=>.stuck)|_=>.stuck
section
variable{B:aM}{X:Cx}{o:Expr}{mo:E1}{pos:Pos}{fl:Str}
def SS(ho:ah B X o mo)(hx:∀c C,xa c=Zj->W.nsIn X.K Z2 c=V (V<|.ref C)->gk X.K C/\W.findIn X.K (.ref C) fl=V Zg)(Z:qC o fl X.env (bp o X.env)=bp o X.env:=by rfl):ah B X (.Attribute o fl pos) (Yv xa fl mo):=by
 intro O s U H Y bE h Q E N K;refine E5 Z<|ho.run N K λv h1 u s1 H1 G D n1 r1 m=>?_
 have P:∀{i a:Nat}{c:Str}{C:Z8}{F:Obj}{vs:Th}{g:Str}{y:IV},xa c=Zj->g=fl->W.nsIn X.K Z2 c=V (V<|.ref C)->s1.heap.get? a=V F->F.cls=.ref C->F.data=.fields vs->gc G H1 F.dict [(g,y)] ->(∀t,XV G y t->Q t {s1 with toks:=s1.toks+1})->Zz (Z5 X.prog X.w) X.A (getAttr (.ref a) fl Zj) Q E s1:=by
  intro i a c C F vs g y J R M g1 g2 S I k;subst R;let#[ei,hf]:=hx c C J M;rcases I with⟨q,_⟩|⟨f',i',dx,od,t,q,qd,qH,ql,qx⟩
  .cases q
  .cases q;have gd:=(D.inv.az dx _ qH).1;show SR ei D.inv.cN #[g1,g2,by unfold W.notCls;rw[S],by rw[qd];show gd] hf ql qx.nb<|k t qx
 cases v with
 |ref i=>
  let#[wv,rw',a,e1,hi]:=r1;subst e1;cases rw';dsimp only at m;cases hh:h1[i]? with|none=>rw[hh]at m;show(m).elim|some ob=>
   rw[hh]at m;have L:∀fs:Wo,(∃g y,fs=[(g,y)])\/¬ ∃g y,fs=[(g,y)]:=λ_=>yV _
   have rep:∀{y:IV}{t:Zu}{H2:Hp},XV G y t->RU X.K G H2 y t:=by intro y t H2 q;cases y with|int i=>show#[.int i,q,rfl]|ref j=>let#[b,rfl,q]:=q;show#[.ref b,rfl,b,rfl,q]|_=>cases q
   cases ob with
   |exc c fs=>
    rcases L fs with⟨g,y,rfl⟩|no
    .dsimp only at m;split at m
     .rename_i hz;let#[J,R]:=sd.mp hz;let#[C,tv,d,I,M,ha,_]:=Vk D.rel hh hi;let#[F,vs,g1,g2,S,_,_,g6]:=cB.get D.inv.az ha;rw[<-g6]at I;show P (i:=i) J (of_decide_eq_true R) M g1 g2 S I λt q=>m t _ H1 G #[D.inv.tok _,D.rel,D.st] .refl<|rep q
     .show(m).elim
    .match fs,no,m with|[],_,m=>show(m).elim|_::_::_,_,m=>show(m).elim|[(g,z)],no,m=>show absurd #[g,z,rfl] no
   |iP c fs=>
    rcases L fs with⟨g,y,rfl⟩|no
    .dsimp only at m;split at m
     .rename_i hz;let#[J,R]:=sd.mp hz;let#[C,F,u,vs,I,M,ha,g2,S,_]:=Vk D.rel hh hi;show P (i:=i) J (of_decide_eq_true R) M (D.inv.az a _ ha).1 g2 S I λt q=>m t _ H1 G #[D.inv.tok _,D.rel,D.st] .refl<|rep q
     .show(m).elim
    .match fs,no,m with|[],_,m=>show(m).elim|_::_::_,_,m=>show(m).elim|[(g,z)],no,m=>show absurd #[g,z,rfl] no
   |_=>show(m).elim
 |_=>show(m).elim
end
end L3
namespace L3
open PySem PySem.Spec PyProof.Rows L2
def Xo(i:Nat)(m:S1):S1:=λU h=>match U[i]? with|some (V (.ref n))=>(match h[n]? with|some (.exc c fs)=>m U<|h.set n<|.iP c fs|_=>.stuck)|_=>.stuck
def JF.conv(k:JF B X O Y H r Q E)(J:X.K=YY.K)(L:X.env=YY.env)(hs:X.stack=YY.stack)(c:∀{O Y bE h U H s},aA B YY O Y bE h U H s->aA B X O Y bE h U H s):JF B YY O Y H r Q E:=by cases r with|next U h=>show λF C D j N n2=>k F C D j (c N) n2|brk U h=>show λF C D j N n2=>k F C D j (c N) n2|cont U h=>show λF C D j N n2=>k F C D j (c N) n2|ret v h=>show λu F G C D j N n2 r=>k u F G C D j (c N) n2<|J▸r|exc m U h=>show λpl a F C D j N n2 z I f=>k pl a F C D j (c N) n2 z I<|L▸hs▸f|stuck=>show k
def SU(C:X.N[i]?=V e)(hm:∀oe,jD B (v7 X a oe) suite m):tj B X a (V i) suite (Xo i m):=by
 intro O s U H Y u h Q E n c fs ok j F I D K;have G:i<u.length:=by rw[j.st.len,j.inv.len];show(Zs.mp C).1
 unfold Xo at K;rw[D i rfl G]at K;dsimp only at K;rw[F]at K;have J:aA B X O Y u h U H s:=#[AJ ok j.inv,j.rel,j.st];let#[oe,L,k,n2,d,x]:=Sn J F I;show hm oe O s U _ Y u _ Q E #[So k.inv J0 d x,k.rel,k.st]<|(JF.mono (r:=m u<|h.set n<|.iP c fs) K n2).conv rfl rfl rfl λq=>#[v5 (Sq k.inv J0 q.inv) a,q.rel,q.st]
section
variable{B:aM}{X:Cx}
section
variable{A:cu}{R:qM->Z1->Prop}{Q E:aQ}{O:aZ}{bE:aI}{U:L2.St}{G:Hp->Prop}{fq:Z8}{mk:IV->IH->Res IV}{gt:IV->IV->Ww}{i n:Nat}{l I C:Z8}{kw:Wn}
def SV(k:∀{H:Hp}{z:Z1},Inv X O U H z->aK A z.heap)(cm:jl B X A.in1 .Lt gt)(m:Xu B X A.in1 bE U O G (.ref fq) mk)(j:∀H H',Ext H H'->G H->G H')(N:aA B X O Y bE h U H z)(g:G H)(hi:Y[i]?=V l) (K:Kont B X RU O Y bE U H (QR gt mk i Zg h) Q E):Zz (Z5 X.prog X.w) A (call (.builtin "min") [.ref l] [(ZP "key",.ref fq)]) Q E z:=by calc kmk_tree PySem.F.kind_min PySem.F.plain_min PySem.F.entry_min (kmk_min_key _ _) ?_;change Zz _ A.in1 (nZ "min" ["key","default"] 0 #[[],[(ZP "key",.ref fq)]]>>=_) _ _ z;calc Ze<|qE (show nZ "min" ["key","default"] 0 #[[],[(ZP "key",.ref fq)]]=pure [V<|.ref fq,Zg]from rfl) ?_;calc Ze<|Zp ?_;show Gv (dv:=Zg) Rg k cm m j N g hi (λy e=>by cases e) (λv u q=>q) (λc u q r=>#[q,r]) K
end
def X7(gt:IV->IV->Ww)(q:Str)(j:Nat)(js:Tp)(aa:A1)(m:E1):E1:=λU h=>(aa U h).bind λxs h1=>match h1[j]? with|some (.tab q')=>if q'=q then(match xs with|[.ref i]=>QR gt (λv h'=>m (V v::js.map λj=>(U[j]?).join) h') i Zg h1|_=>.stuck)else .stuck|_=>.stuck
theorem SW(hg:Gl X "min")(hm:X.mg "min"=Zg)(ha:dX B X [a] aa)(cm:∀A:cu,A.units+64<kE->jl B X A .Lt lt)(hs:ZR [a] X.env=[(Zn,bp a X.env)])
  (F:Roo κ (k+2) X)(hcd:W.codeIn X.K X.env.code q=Zj)(hq:X.env.qual=q++".<locals>.")(bC:QH X.mg X.base)(hx:QT params=V x)(S:iz X.N X.env.scope.names x caps js scope)
  (Z:∀f cd s' H',ah B (mj X X.A.in1 (x::caps) q scope f cd s' H') body m):
  ah B X (.Call (.Name "min" p) [a] [#[V "key",.Lambda params body scope lp,kp]] pos) (X7 lt q j js aa m):=λO s U H Y bE h Q E N K=>by
 have M:oY scope X.env=pure (bZ X.env.cells scope.names []):=vS λy hm hk=>N.inv.ok.has y.1<|.inl<|S.free y hm hk
 calc iZ<|Q3 N.inv hg hm rfl ?_;calc u3 ?_ (by rw[hs];rfl) (by rw[hs];rfl) rfl rfl;refine(ha pos).run N K λxs h1 us s1 H1 W1 N1 n1 r1 C=>?_
 cases ej:h1[j]? with|none=>rw[ej]at C;show Zf C|some ob=>
  rw[ej]at C;cases ob with
  |tab R=>
   dsimp only at C;split at C
   .rename_i eq;subst eq;refine qS<|Ze<|AE N1 ej hcd hq (AI hx) M bC λf c pm D s2 H2 N2 n2 LC=>Ze<|jM<|Zp ?_
    calc uY ?_;have J:=Kont.more (pl:=[(f,gz R params body scope (bZ X.env.cells scope.names []) pm D c)])<|Kont.mono C n2;let#[vs,rv,qs]:=r1.mono n2;cases xs with|nil=>show Zf J|cons x t=>
     cases t with|cons _ _=>cases x<;>show Zf J|nil=>
      cases x with
      |ref i=>
       let#[w,rfl,ad,rfl,L]:=qs.bJ;let#[u,rfl,ru]:=Qr rv;cases ru;refine SV (G:=λH=>QP H R<|.ref c) (mk:=λv h'=>m (V v::js.map λj=>(bE[j]?).join) h') (λI=>I.cw F.c) (cm _ F.r.in1.units) ?_ (λH H' e g=>g.mono e.bf) N2 LC L ?_
       .intro pl s4 H4 U4 h4 v u Q4 P g4 ru4 K4;have pf:=P.inv.pin (f,gz R params body scope (bZ X.env.cells scope.names []) pm D c)<|Zo _<|iJ _<|Zo _<|Z6.mpr rfl;show AF (A:=X.A.in1) N.inv.ok.frames F.r.in1 (P.inv.cS F.c) P pf.1 g4 hx S (Z f<|.ref c) ru4 K4
       .show J
      |_=>show Zf J
   .show Zf C
  |_=>show Zf C
end
def c5:To->To->Bool|a::as,b::bs=>if a=b then c5 as bs else decide (a<b)|_,_=>Zn
abbrev tm(l:Wl):Tt:=l.map λp=>.int p.1 p.2
section
open PySem.AutoSeq1 (wpAny_loadPart')
open PySem.MeetsSeq PySem.MeetsSeq2 PySem.MeetsSeq3 PySem.SeqRoads2
theorem SY(l b)(as bs)(G:as.length=bs.length)(n n2)(dd dd2)(sl sl2):
  Meets (eG.«tuple.__lt__» #[[.ref l,.ref b],[]])
   (λA R s=>s.heap.get? l=V {cls:=.type "tuple",dict:=dd,data:=.seq (tm as).toArray n,slots:=sl}/\s.heap.get? b=V {cls:=.type "tuple",dict:=dd2,data:=.seq (tm bs).toArray n2,slots:=sl2} /\
    R (.ok (.ret (.bool (c5 (as.map (·.1)) (bs.map (·.1)))))) s):=
 .of_wp λprog w A R s h=>by
  let#[I,g,d,H,os]:=s;let#[ho,Z,h]:=h;have O:=AutoSeq1.sub_tuple_tuple
  wp_walk using rQ ho,rQ Z,wpAny_forIn_list _ (λu b D=>b.1=Zg/\D=#[I,g,d,H,os]/\∃xs m:Wl,xs.length=m.length/\u=(tm xs).zip (tm m) /\
   R (.ok (.ret (.bool (c5 (xs.map (·.1)) (m.map (·.1)))))) #[I,g,d,H,os]) _
  case turn=>
   rintro⟨y,x⟩ u b D ⟨C,rfl,xs,m,B,j,k⟩;match xs,m,B,j,k with
   |p::xs,q::m,B,j,k=>
    injection j with hyx hrest
    have M:=(congrArg Prod.fst hyx).symm;have L:=(congrArg Prod.snd hyx).symm;subst M L;calc Ze<|wpAny_eqBool_int ?_;by_cases e:p.1=q.1
    .rw[beq_iff_eq.mpr e]
     wp_walk
     show#[rfl,rfl,xs,m,by simpa using B,hrest,by simpa[c5,e]using k]
    .rw[beq_eq_false_iff_ne.mpr e];have F:=zf (prog:=prog) (w:=w) (A:=A.in1) (λi=>if i=0 then p.1 else q.1) λ_ _ q=>q
     have J:=λQ E s h=>by have:=F 0 1 (.int p.1 p.2) (.int q.1 q.2) s Q E #[p.2,03] #[q.2,03];show this h
     calc Ze<|lO<|Ze<|J _ _ _<|Ze<|Zp<|Zp<|Zp #[_,rfl,?_];simpa[c5,e]using k
   |[],m,B,j,k=>cases j
   |_::_,[],B,j,k=>cases j
  case fin=>
   rintro⟨P,S⟩ D ⟨C,rfl,xs,m,B,j,k⟩;simp only at C;subst C;match xs,m,B,j,k with
   |[],[],_,_,k=>
    wp_walk
    show#[_,rfl,by simpa[Builtin.Tuple.tupleCompareSizes,G,c5]using k]
   |_::_,_::_,_,j,_=>cases j
  case h=>show#[rfl,rfl,as,bs,G,03,h]
end
theorem AN:∀{us:Tt}{ns:To},hX us ns->∃l:Wl,us=tm l/\l.map (·.1)=ns|[],[],_=>#[[],rfl,rfl]|[],_::_,h=>by cases h|_::_,[],h=>by cases h|u::us,n::ns,h=>by cases h;rename_i t r;let#[l,e1,e2]:=AN r;show#[(n,t)::l,by rw[e1];rfl,by rw[<-e2];rfl]
def jG:IV->IV->Ww|.tup xs,.tup ys=>(match JL xs,JL ys with|some as,V bs=>if as.length=bs.length then V (c5 as bs)else Zg|_,_=>Zg)|_,_=>Zg
section
variable{B:aM}{X:Cx}
def S0(hu:A.units<kE)(N:aA B X O Y bE h U H s)(r:RU X.K Y H k u)(W:RU X.K Y H kb ub)(e:jG k kb=V b)(q:Q (.bool b) s):Zz (Z5 X.prog X.w) A (uN .Lt u ub) Q E s:=by
 cases k with
 |tup xs=>
  cases kb with
  |tup ys=>
   let#[x,rx,a,vs,rfl,sa,S]:=r;let#[y,ry,c,ws,rfl,sc,rc]:=W;have ru:=rx;have L:=ry;subst ru L;unfold jG at e;dsimp only at e;cases C:JL xs with|none=>rw[C]at e;cases e|some as=>
    cases M:JL ys with|none=>rw[C,M]at e;cases e|some bs=>
     rw[C,M]at e;dsimp only at e;split at e
     .rename_i Z;cases e;let#[its,v1,#[#[cls,dd,R,sl],ho,hc,n,hd],_]:=N.inv.tuple sa;let#[jts,v2,#[#[P,I,G,D],j,J,n2,F],_]:=N.inv.tuple sc;subst hc hd J F;let#[l,rfl,rfl]:=AN<|Vg C S v1;let#[m,rfl,rfl]:=AN<|Vg M rc v2;show richCompare_meets_room #[_,ho,rfl] #[_,j,rfl] PySem.F.slot_tuple_lt PySem.F.entry_tuple_lt (PySem.F.args_tuple_lt_2 _ _) (SY a c l m (by simpa using Z) n n2 dd I sl D) #[ho,j,show qP (c5 (l.map (·.1)) (m.map (·.1)))≠Value.notImplemented/\Q (.bool (c5 (l.map (·.1)) (m.map (·.1)))) s from#[(λx=>nomatch x),q]] hu
     .cases e
  |_=>cases e
 |_=>cases e
theorem S2(k:A.units<kE):jl B X A .Lt jG:=λ_ _ _ _ _ _ s _ _ _ _ _ _ _ N r j e q=>S0 k N r j e<|q s.heap s.toks λ_ _ e=>e
end
end L3
namespace L3
open PySem PySem.Spec PyProof.Rows L2 PySem.W
noncomputable def J7 {α:Type}(lt:Nat->Nat->Bool):KasT α->α|.ret a=>a|.ask i j k=>J7 lt<|k<|lt i j
def bH{α:Type}(n:Nat)(P:α->Prop):KasT α->Prop|.ret a=>P a|.ask i j k=>i<n/\j<n/\∀b,bH n P<|k b
theorem bH.mono{P j:α->Prop}(f:∀a,P a->j a):∀{t:KasT α},bH n P t->bH n j t|.ret _,h=>f _ h|.ask _ _ _,⟨h1,J,h3⟩=>#[h1,J,λb=>bH.mono f<|h3 b]
theorem bH.bind{P:α->Prop}(j:∀a,P a->bH n P' (f a)):∀{t:KasT α},bH n P t->bH n P' (t.bind f)|.ret _,h=>j _ h|.ask _ _ _,⟨h1,J,h3⟩=>#[h1,J,λb=>bH.bind j<|h3 b]
theorem bH.run:∀{t:KasT α},bH n P t->P (J7 lt t)|.ret _,h=>h|.ask i j k,⟨_,_,h⟩=>bH.run (t:=k<|lt i j)<|h<|lt i j
theorem bH.wp(m:∀i j,i<n->j<n->∀C:Bool->Z1->Prop,C (lt i j) s->cmp i j C s):∀{t:KasT α},bH n P t->Q (J7 lt t) s->t.kasWp cmp Q s|.ret _,_,q=>q|.ask i j k,⟨h1,J,h3⟩,q=>m i j h1 J _<|bH.wp m (h3<|lt i j) q
def Bd(n:Nat)(p:Tf):Prop:=0<n/\p.toList.Perm (ZM n)
def Bd.at(h:Bd n p)(i):p.getD i 0<n:=by
 by_cases j:i<p.size
 .rw[sx,og j];have:p[i]∈p.toList:=03;show hU.mp<|h.2.mem_iff.mp this
 .rw[sx,Array.getElem?_eq_none<|ZI j];show h.1
theorem AO(h:Bd n p):∀f m,bH n (λ_=>True) (jA p f m)|0,_=>trivial|f+1,m=>#[h.at _,h.at _,λb=>by
   dsimp only;split
   .trivial
   .show AO h f _]
theorem AP(h:Bd n p)(k):∀f l r,bH n (λ_=>True) (pd p k f l r)
 |0,_,_=>trivial
 |f+1,l,r=>by
  unfold pd;split
  .trivial
  .show#[h.at _,h.at _,λb=>by
    dsimp only;split
    .show AP h k f _ _
    .show AP h k f _ _]
theorem Bd.perm(h:Bd n p)(r:q.Perm p):Bd n q:=#[h.1,(Array.perm_iff_toList_perm.mp r).trans h.2]
theorem Bd.rev(h:Bd n p)(i j):Bd n (i8 p i j):=h.perm<|mirror_perm _ _ _ _
theorem wb:∀f (p:Tf) m q,Bd n p->bH n (λr=>Bd n r.1) (ph f p m q)|0,_,_,_,h=>h|f+1,p,m,q,h=>#[h.at _,h.at _,λb=>by
   dsimp only;split
   .split
    .show wb f _ _ _<|h.rev _ _
    .show wb f _ _ _ h
   .show#[h.at _,h.at _,λd=>by
     dsimp only;split
     .show h
     .show wb f _ _ _ h]]
def GC(h:Bd n p)(m r):bH n (λr=>Bd n r.2) (kas_tail3 m r p):=by calc bH.bind (λx _=>?_)<|AO (h.rev _ _) _ _;show h.rev _ _
theorem GD(h:Bd n p)(m r):bH n (λr=>Bd n r.2) (va m r p):=bH.bind (λx j=>by
  split
  .show GC (j.rev _ _) _ _
  .show GC j _ _) (wb _ _ _ _ h)
theorem S3(h:Bd n p)(r):bH n (λr=>Bd n r.2) (vc r p):=bH.bind (λm _=>by
  split
  .show h
  .split
   .show#[h.at _,h.at _,λb=>by
     dsimp only;split
     .show h
     .show GD (h.rev _ _) _ _]
   .show GD h _ _) (AO h _ _)
theorem GF:∀f (p:Tf) k,Bd n p->bH n (Bd n) (kas_bin f p k)|0,_,_,h=>h|f+1,p,k,h=>bH.bind (λl _=>GF f _ _<|h.perm<|bubble_perm _ _ _)<|AP h k _ _ _
theorem GG(hn:0<n):bH n (Bd n) (om n):=bH.bind (λr j=>by
  split
  .show GF _ _ _ j
  .show j) (S3 #[hn,List.Perm.refl _] n)
theorem GH(r:Vals vs us):∀p:Tp,(∀i∈p,i<vs.length)->Vals (p.map λi=>vs.getD i .af) (p.map λi=>us.getD i dD)
 |[],_=>.nil
 |i::p,h=>by
  have k:=h i<|ZD ..;let#[u,C,m]:=r.get<|Zd k;refine .cons ?_<|GH r p λj B=>h j<|Zt _ B
  change L2.RelV (vs.getD i .af)<|us.getD i dD;rw[Zq,Zq,Zd k,C];show m
theorem GI{K:W.Frag}(r:aC K Y H xs vs):∀p:Tp,(∀i∈p,i<xs.length)->aC K Y H (p.map λi=>xs.getD i .af) (p.map λi=>vs.getD i .af)
 |[],_=>rfl
 |i::p,h=>by have k:=h i<|ZD ..;let#[v,ev,m]:=r.get<|Zd k;calc#[_,_,rfl,?_,GI r p λj u=>h j<|Zt _ u];change RV K Y H (xs.getD i .af)<|vs.getD i .af;rw[Zq,Zq,Zd k,ev];show m
theorem XE:∀(t:KasT α),J7 lt (t.bind f)=J7 lt (f<|J7 lt t)|.ret _=>rfl|.ask i j k=>XE<|k<|lt i j
section
variable{kf:Nat->Int}{p:Tf}{n i j:Nat}
abbrev da(kf:Nat->Int)(i j:Nat):Bool:=decide (kf i<kf j)
def bj(kf:Nat->Int)(p:Tf)(i:Nat):Int:=kf<|p.getD i 0
def j3(kf:Nat->Int)(p:Tf)(n:Nat):Prop:=∀i j,i<=j->j<n->bj kf p i<=bj kf p j
def ra(kf:Nat->Int)(p:Tf)(n:Nat):Prop:=∀i j,i<=j->j<n->bj kf p j<=bj kf p i
def Y4(h:p[i]?=q[j]?):bj kf p i=bj kf q j:=by unfold bj;rw[sx,sx,h]
def AQ(k:j<=p.size)(m):bj kf (i8 p i j) m=if i<=m/\m<j then bj kf p (i+j-1-m)else bj kf p m:=by
 have e:=getElem?_mirror_all (i:=i) k m;split at e
 .rename_i c;rw[if_pos c];show Y4 e
 .rename_i c;rw[if_neg c];show Y4 e
def GJ(hs:k<p.size)(hd:d<=k)(m):bj kf (bubble p k d) m=if m=k-d then bj kf p k else if k-d<m/\m<=k then bj kf p (m-1)else bj kf p m:=by
 have e:=getElem?_bubble hs d hd m;split at e
 .rename_i c;rw[if_pos c];show Y4 e
 .rename_i c;rw[if_neg c];split at e
  .rename_i c;rw[if_pos c];show Y4 e
  .rename_i c;rw[if_neg c];show Y4 e
def AR(k:j<=p.size)(h:∀m,i<=m->m<j->bj kf p m=bj kf p (j-1))(m):bj kf (i8 p i j) m=bj kf p m:=by
 rw[AQ k];split
 .rw[h _ 00 00,h m 05 05]
 .rfl
theorem j3.succ(h:j3 kf p n)(h1:1<=n)(q:bj kf p (n-1)<=bj kf p n):j3 kf p (n+1):=λi j k u=>by
 by_cases e:j<n
 .show h i j k e
 .obtain rfl:j=n:=ZQ (ZZ (b:=1) u)<|ZI e;by_cases m:i=j
  .subst m;show ZJ _
  .show ZE (h i (j-1) (ZZ (b:=1)<|Zb (iH k m)<|oH<|Zl _)<|rC _ _ 06) q
theorem ra.succ(h:ra kf p n)(h1:1<=n)(q:bj kf p n<=bj kf p (n-1)):ra kf p (n+1):=λi j k u=>by
 by_cases e:j<n
 .show h i j k e
 .obtain rfl:j=n:=ZQ (ZZ (b:=1) u)<|ZI e;by_cases m:i=j
  .subst m;show ZJ _
  .show ZE q<|h i (j-1) (ZZ (b:=1)<|Zb (iH k m)<|oH<|Zl _)<|rC _ _ 06
theorem AS:∀(f n:Nat),1<=n->j3 kf p n->n<=J7 (da kf) (jA p f n)/\J7 (da kf) (jA p f n)<=n+f/\j3 kf p (J7 (da kf)<|jA p f n)/\(J7 (da kf) (jA p f n)=n+f\/bj kf p (J7 (da kf)<|jA p f n)<bj kf p (J7 (da kf) (jA p f n)-1))
 |0,n,_,h=>#[Zl _,Zl _,h,.inl rfl]
 |f+1,n,h1,h=>by
  change n<=J7 (da kf) (if decide (bj kf p n<bj kf p (n-1))=Zj then .ret n else jA p f (n+1))/\_;have e:J7 (da kf) (jA p (f+1) n)=J7 (da kf) (if decide (bj kf p n<bj kf p (n-1))=Zj then .ret n else jA p f (n+1)):=rfl;rw[e];split
  .rename_i c;show#[Zl _,by change n<=_;show Zk _ _,h,.inr<|of_decide_eq_true c]
  .rename_i c;have c:¬bj kf p n<bj kf p (n-1):=by simpa using c
   let#[a,b,d,g]:=AS f (n+1) (fX _)<|h.succ h1<|cT.mp c;show#[Z3 a,05,d,g.imp (λz=>05) id]
structure Dn(kf:Nat->Int)(p:Tf)(n q:Nat):Prop where
 f:ra kf p n
 q1:q+1<=n
 e:∀m,n-(q+1)<=m->m<n->bj kf p m=bj kf p (n-1)
theorem wc:∀(f:Nat)(p:Tf)(n q:Nat),p.size=z->n+f<=z->Dn kf p n q->∀r,J7 (da kf) (ph f p n q)=r->r.1.size=z/\n<=r.2.1/\r.2.1<=n+f/\Dn kf r.1 r.2.1 r.2.2
 |0,p,n,q,hz,hf,d,r,e=>by subst e;show#[hz,Zl _,Zl _,d]
 |f+1,p,n,q,hz,hf,d,r,e=>by
  have O:=d.q1;have D:J7 (da kf) (if decide (bj kf p n<bj kf p (n-1))=Zj then(if q>0 then ph f (i8 p (n-(q+1)) n) (n+1) 0 else ph f p (n+1) 0)
   else .ask (p.getD (n-1) 0) (p.getD n 0) λd=>if d=Zj then .ret (p,n,q)else ph f p (n+1) (q+1))=r:=e
  split at D
  .rename_i c;have c:bj kf p n<bj kf p (n-1):=by simpa using c
   split at D
   .have k:=λm=>AR (kf:=kf) (i:=n-(q+1)) (j:=n) (p:=p) (Zb (Zb (Zk _ _) hf)<|Zi hz.symm) d.e m
    have d2:Dn kf (i8 p (n-(q+1)) n) (n+1) 0:=by calc#[λi j G M=>?_,fX _,λm L J=>by rw[show m=n+1-1 by lia]];rw[k,k];show d.f.succ (lI 06) (ZG c) i j G M
    let#[C,B,I,E]:=wc f _ (n+1) 0 ((qU _ _ _ _).trans hz) 05 d2 r D;show#[C,Z3 B,05,E]
   .have d2:Dn kf p (n+1) 0:=#[d.f.succ (lI 06)<|ZG c,fX _,λm L J=>by rw[show m=n+1-1 by lia]];let#[C,B,I,E]:=wc f _ (n+1) 0 hz 05 d2 r D;show#[C,Z3 B,05,E]
  .rename_i c;have c:¬bj kf p n<bj kf p (n-1):=by simpa using c
   have u:J7 (da kf) (if decide (bj kf p (n-1)<bj kf p n)=Zj then .ret (p,n,q)else ph f p (n+1) (q+1))=r:=D;split at u
   .subst u;show#[hz,Zl _,by change n<=_;show Zk _ _,d]
   .rename_i F;have F:¬bj kf p (n-1)<bj kf p n:=by simpa using F
    have d2:Dn kf p (n+1) (q+1):=by
     calc#[d.f.succ (lI 06)<|cT.mp F,lG 06,λm L J=>?_];by_cases H:m=n
     .subst H;rfl
     .rw[d.e m 05<|iH (ZZ (b:=1) J) H];change _=bj kf p n;show i7 (cT.mp c)<|cT.mp F
    let#[C,B,I,E]:=wc f _ (n+1) (q+1) hz 05 d2 r u;show#[C,Z3 B,05,E]
def GK(h1:1<=m)(hm:m<=r)(C:r<=p.size)(h:ra kf p m):∀x,J7 (da kf) (kas_tail3 m r p)=x->x.2.size=p.size/\1<=x.1/\x.1<=r/\j3 kf x.2 x.1:=by
 intro x e;have e:J7 (da kf) ((jA (i8 p 0 m) (r-m) m).bind λk=>.ret (k,i8 p 0 m))=x:=e;rw[XE]at e;have D:j3 kf (i8 p 0 m) m:=λi j u B=>by rw[AQ<|Zb hm C,AQ<|Zb hm C,if_pos<|#[(ZW _),(Zb (Zc u 1) B)],if_pos<|#[(ZW _),B]];show h _ _ (Nat.sub_le_sub_left u _)<|by(rw[nE];show Zb (Zc (nF _ _) 1)<|Zi<|qh h1)
 let#[a,b,c,_]:=AS (r-m) m h1 D;subst e;show#[qU _ _ _ _,by change 1<=J7 (da kf) (jA (i8 p 0 m) (r-m) m);show Zb h1 a,by change J7 (da kf) (jA (i8 p 0 m) (r-m) m)<=r;show Zb b<|iT hm<|Zl _,c]
def GL(hm:m+1<=r)(D:r<=p.size)(h:ra kf p<|m+1):∀x,J7 (da kf) (va m r p)=x->x.2.size=p.size/\1<=x.1/\x.1<=r/\j3 kf x.2 x.1:=by
 intro x e;unfold va at e;rw[XE]at e;let#[B,H,E,C]:=wc (z:=p.size) (r-(m+1)) p (m+1) 0 rfl (Zb (iT hm<|Zl _) D) #[h,fX _,λk I J=>by rw[show k=m+1-1 by lia]] _ rfl;generalize J7 (da kf) (ph (r-(m+1)) p (m+1) 0)=y at B H E C e;have q1:=C.q1;split at e
 .have u:=λk=>AR (kf:=kf) (i:=y.2.1-(y.2.2+1)) (j:=y.2.1) (p:=y.1) (Zb (Zb (Zb E<|iT hm<|Zl _) D)<|Zi B.symm) C.e k
  have:=GK (m:=y.2.1) (r:=r) (p:=i8 y.1 (y.2.1-(y.2.2+1)) y.2.1) (lI 06) (Zb E<|iT hm<|Zl _) (by change r<=(mirror _ _ _ _).size;rw[qU];show Zb D<|Zi B.symm) (λi j F G=>by rw[u,u];show C.f i j F G) x e;rw[show(i8 y.1 (y.2.1-(y.2.2+1)) y.2.1).size=y.1.size from qU _ _ _ _,B]at this;show this
 .have:=GK (m:=y.2.1) (r:=r) (p:=y.1) (lI 06) (Zb E<|iT hm<|Zl _) (Zb D<|Zi B.symm) C.f x e;rw[B]at this;show this
def S4(h1:1<=r)(E:r<=p.size):∀x,J7 (da kf) (vc r p)=x->x.2.size=p.size/\1<=x.1/\x.1<=r/\j3 kf x.2 x.1:=by
 intro x e;unfold vc at e;rw[XE]at e;let#[a,b,c,d]:=AS (kf:=kf) (p:=p) (r-1) 1 (Zl _) (λi j u D=>by
  obtain rfl:j=0:=by show qg 06
  obtain rfl:i=0:=by show ZQ u<|ZW _
  show ZJ _)
 generalize J7 (da kf) (jA p (r-1) 1)=n at a b c d e;split at e
 .subst e;show#[rfl,a,by change n<=r;show Zb b<|iT h1<|Zl _,c]
 .rename_i hn;have hn:n≠r:=by simpa using hn
  have dn:bj kf p n<bj kf p (n-1):=d.resolve_left<|by show Zv<|Zb (iH (Zb b<|iT h1<|Zl _) hn)<|Zi (lE h1).symm
  split at e
  .have F:J7 (da kf) (if decide (bj kf p 0<bj kf p (n-1))=Zj then .ret (n,p)else va n r (i8 p 0 n))=x:=e;split at F
   .subst F;show#[rfl,a,by change n<=r;show Z3<|iH (Zb b<|iT h1<|Zl _) hn,c]
   .rename_i G;have G:¬bj kf p 0<bj kf p (n-1):=by simpa using G
    have C:∀m,0<=m->m<n->bj kf p m=bj kf p (n-1):=λm _ hm=>by
     have:=c 0 m 06 hm;have:=c m (n-1) (by show uc 06)<|by show rC _ _ 06
     show i7 this<|ZE (cT.mp G) 06
    have B:=λk=>AR (kf:=kf) (i:=0) (j:=n) (p:=p) (by show Z3<|Zb (iH (Zb b<|iT h1<|Zl _) hn) E) C k
    have:=GL (m:=n) (r:=r) (p:=i8 p 0 n) (by show iH (Zb b<|iT h1<|Zl _) hn) (by change r<=(mirror _ _ _ _).size;rw[qU];show E) (λi j u D=>by
     rw[B,B];by_cases I:j<n
     .rw[C i (by show ZW _) (by show kr 06 06),C j (by show ZW _) I];show ZJ _
     .obtain rfl:j=n:=by show ZQ (ZZ (b:=1) D)<|ZI I
      by_cases H:i=j
      .subst H;show ZJ _
      .rw[C i (by show ZW _)<|by show iH u H];show ZG dn) x F
    rw[show(i8 p 0 n).size=p.size from qU _ _ _ _]at this;show this
  .obtain rfl:n=1:=by show ZQ (ZI 06) a
   calc GL (m:=1) (r:=r) (p:=p) (by show iH h1 hn) E (λi j u D=>?_) x e;have dn:bj kf p 1<bj kf p 0:=dn;match i,j with|0,0=>show ZJ _|0,1=>show ZG dn|1,1=>show ZJ _|_,j+2=>lia|i+2,_=>lia|1,0=>show absurd 06<|iU _
theorem AU(h:j3 kf p k):∀(f l r:Nat),r<=k->l<=r->r-l<=f->(∀i,i<l->bj kf p i<=bj kf p k)->(∀i,r<=i->i<k->bj kf p k<bj kf p i)->∀x,J7 (da kf) (pd p k f l r)=x->x<=k/\(∀i,i<x->bj kf p i<=bj kf p k)/\∀i,x<=i->i<k->bj kf p k<bj kf p i
 |0,l,r,hr,hl,hf,h1,J,x,e=>by obtain rfl:l=r:=05;subst e;show#[hr,h1,J]
 |f+1,l,r,hr,hl,hf,h1,J,x,e=>by
  unfold pd at e;split at e
  .obtain rfl:l=r:=ZQ hl 06;subst e;show#[hr,h1,J]
  .have j:J7 (da kf) (if decide (bj kf p k<bj kf p ((l+r)/2))=Zj then pd p k f l ((l+r)/2)else pd p k f ((l+r)/2+1) r)=x:=e;split at j
   .rename_i c;have c:bj kf p k<bj kf p ((l+r)/2):=by simpa using c
    show AU h f _ _ 05 05 05 h1 (λi a b=>ZF c<|h _ _ a b) x j
   .rename_i c;have c:¬bj kf p k<bj kf p ((l+r)/2):=by simpa using c
    show AU h f _ _ hr 05 00 (λi a=>ZE (h i _ (show i<=(l+r)/2 by show uc 06) 05)<|cT.mp c) J x j
theorem GN:∀(f:Nat)(p:Tf)(k:Nat),k+f<=p.size->j3 kf p k->∀x,J7 (da kf) (kas_bin f p k)=x->j3 kf x (k+f)
 |0,p,k,_,h,x,e=>by subst e;show h
 |f+1,p,k,hk,h,x,e=>by
  unfold kas_bin at e;rw[XE]at e;let#[a,b,c]:=AU h k 0 k (Zl _) (ZW _) (Zl _) (λi q=>absurd 06<|oM _) (λi q r=>absurd 06<|ue 06) _ rfl;generalize J7 (da kf) (pd p k k 0 k)=l at a b c e;have:=GN f (bubble p k<|k-l) (k+1) (by rw[bubble_size];lia) (λi j m B=>by
   have u:k-(k-l)=l:=Nat.sub_sub_self 06;rw[GJ (kr (Zk _ _) 06)<|nF _ _,GJ (kr (Zk _ _) 06)<|nF _ _,u];split
   .rename_i C;split
    .show ZJ _
    .split
     .show ZG<|c _ 05 00
     .lia
   .split
    .rename_i n1 y;split
     .lia
     .split
      .show h _ _ (Nat.sub_le_of_le_add<|Zb m<|oH<|Zl _) 00
      .lia
    .split
     .show b i<|iH (Zb m<|Zi 06) 06
     .split
      .show h _ _ 05 05
      .show h _ _ m 05) x e
  rwa [show k+(f+1)=k+1+f by lia]
def S5(hn:0<n):j3 kf (J7 (da kf)<|om n) n:=by
 unfold om;rw[XE];have j:(bS<|ZM n).size=n:=03;let#[a,b,c,d]:=S4 (kf:=kf) (p:=bS<|ZM n) (r:=n) (hn) (by rw[j];show Zl _) _ rfl;generalize J7 (da kf) (vc n<|bS<|ZM n)=y at a b c d;rw[j]at a;split
 .have k:max y.1 1=y.1:=ZQ (Nat.max_le.mpr #[(Zl _),b])<|Nat.le_max_left _ _;rw[k];have:=GN (kf:=kf) (n-y.1) y.2 y.1 (Zb (iT (Z3 06)<|Zl _)<|Zi a.symm) d _ rfl;rwa [show y.1+(n-y.1)=n by show lE 06]at this
 .obtain e:y.1=n:=ZQ c<|ZI 06;rw[<-e];show d
end
def cW(ks:To)(n:Nat):Tp:=(J7 (da λi=>ks.getD i 0)<|om n).toList
theorem GO(ks)(hn:0<n):(cW ks n).Perm (ZM n):=((GG hn).run).2
theorem we(ks):cW ks 0=[]:=rfl
theorem AV(ks):∀n:Nat,(cW ks n).Perm (ZM n)|0=>by rw[we];show .refl _|n+1=>GO ks<|fX n
theorem YC(ks):∀i∈cW ks n,i<n:=λ_ j=>hU.mp<|(AV ks n).mem_iff.mp j
theorem GP(ks)(n):(cW ks n).length=n:=(AV ks n).length_eq.trans nJ
def S6(ks)(n):(cW ks n).Pairwise λi j=>ks.getD i 0<=ks.getD j 0:=by
 rcases Nat.eq_zero_or_pos n with e|e
 .subst e;rw[we];show .nil
 .have r:=S5 (kf:=λi=>ks.getD i 0) e;have l:=GP ks n;rw[Eb];intro i j C B k;have:=r i j (Z3 k)<|nD 06 06;have g:∀(m:Nat)(hm:m<(cW ks n).length),(J7 (da λi=>ks.getD i 0)<|om n).getD m 0=(cW ks n)[m]:=λm hm=>by
   have u:m<(J7 (da λi=>ks.getD i 0)<|om n).size:=by rw[<-o8];show hm
   rw[sx,og u];rfl
  unfold bj at this;rw[g i C,g j B]at this;show this
def S7(I:Inv X O U H s)(k:∀b u,b≠it->s.heap.get? b=V u->h'.get? b=V u)(F:aF X O H it)(new:JX X.prog X.w (upd H it o) h' it o):
  Inv X O U (upd H it o) {s with heap:=h',toks:=t'}:=by
 let#[hn,C,_,L,J,E]:=F;have j:∀b u,H b=V u->b≠it:=λb u e z=>by rw[z,hn]at e;cases e
 refine I.step (ch:=[it]) (λb Z=>?_) (λb o _ _ B e _=>k b o (λz=>B<|by simp[z]) e) (λb o _ _ B e _=>#[o.slots,k b o (λz=>B<|by simp[z]) e]) (λb o B _ n=>by rw[Js λz=>B<|by simp[z]];show n)
  (λb o B e=>#[o,k b o (λz=>B<|by simp[z]) e]) (λb _ e=>by rw[Js<|j b _ e];show e) (λb _ _ e=>by rw[Js<|j b _ e];show e) (λb ps e=>#[#[],by rw[Js<|j b _ e,e];simp]) (λm hm=>?_) (λb u e=>?_) I.bare
 .have e:b=it:=by simpa using Z
  subst e;show#[L,C,J,E]
 .let#[o,D,G,ho,r]:=hm;show#[o,D,G,k _ o (bI C) ho,r]
 .by_cases Z:b=it
  .subst Z;rw[J0]at e;cases e;show new
  .rw[Js Z]at e;refine(I.az b u e).eQ (λc v B q=>k c v ?_ q) (λc q=>by rw[Js<|j c _ q];show q) λc _ q=>by rw[Js<|j c _ q];show q
   rcases B with z|z
   .rw[z];show Z
   .show j c _ z
def QS(mk:IV->IH->Res IV):Tu->To->IH->Res (To)|[],ks,h=>.ok ks h|y::r,ks,h=>(mk y h).nx.bind λk h'=>match k with|.int n=>QS mk r (ks++[n]) h'|_=>.stuck
def YJ(ys:Tu)(ks:To)(h:IH):Res IV:=.ok (.ref h.length)<|h++[.lst ((cW ks ys.length).map λi=>ys.getD i .af).reverse]
def XT(ys:Tu)(ks:To)(h:IH):Res IV:=YJ ys.reverse ks.reverse h
section
variable{B:aM}{X:Cx}
section
variable{A:cu}{Q E:aQ}{P:PySem.Fin->Z1->Prop}{O:aZ}{bE:aI}{U:L2.St}{G:Hp->Prop}{fq D kS:Z8}{mk:IV->IH->Res IV}{ys:Tu}{ws:Ua}{its:Tt}{ks:To}{e e1:Nat}{H:Hp}{Y:Ts}{h:IH}{s:Z1}
def GQ{st:SortSt}(N:aA B X O Y bE h U H s)(I:aF X O H D)(fK:aF X O H kS)(J:D≠kS)(Z:s.heap.get? D=V (cF "list" #[] e1))(gK:s.heap.get? kS=V (cF "list" kA e))(W:kA.size<64) (L:Vals ws its)(M:aC X.K Y H ys ws)(k:ys.length<64)(m:(arrOf st).map (·.2)=bS ((cW ks ys.length).map λi=>its.getD i dD))(hf:failedOf st=Zg)(hP:∀s',Q (.ref D) s'->P (.done<|.ret .none) s')(K:Kont B X RU O Y bE U H (YJ ys ks h) Q E):Zz (Z5 X.prog X.w) A (ksk_tail D Zj e1 (.ref kS) st) P E s:=by
 have lo:=GP ks ys.length;have lt:=YC ks (n:=ys.length);have l1:=M.length;have l2:=L.length;have v:=(GH L (cW ks ys.length) λi hi=>by have:=lt i hi;show Zb this<|Zi l1.symm).reverse;have C:((cW ks ys.length).map λi=>its.getD i dD).reverse.length=ys.length:=by rw[qq,Zm,lo]
 unfold ksk_tail;dsimp only;rw[m,if_pos rfl,List.reverse_toArray];generalize ((cW ks ys.length).map λi=>its.getD i dD).reverse=F at v C;calc Ze (uZ gK rfl ?_ (by rw[jN];show Zb (Z3 W)<|Zk _ 16777152) (ZW _));have G:∀b u,b≠kS->s.heap.get? b=V u->(s.heap.update kS<|fj λ_=>(#[]:Th)).get? b=V u:=λb u nb q=>(ZB _ _<|bI nb).trans q
 generalize s.heap.update kS (fj λ_=>(#[]:Th))=R at G;have j:=G D _ J Z;have S:=N.turned (h':=R) (t':=s.toks) fK G;calc Ze<|kx ?_;calc Ze<|seqEpoch_at j rfl ?_;calc Ze (uZ j rfl ?_ (ZW _) (by rw[ZT,jN];show Zb (Z3<|Zb (Zc (Zi C) 1) k)<|Zk _ 16777153));rw[hf];simp![bne_self_eq_false,lV,if_false];calc Zp<|hP _ ?_;have hc:=sy j λ_=>F.toArray
 have I':=S7 S.inv (o:=.lst ((cW ks ys.length).map λi=>ws.getD i bA.af).reverse) (h':=R.update D<|fj λ_=>F.toArray) (t':=s.toks) (λb u nb q=>(ZB _ _<|bI nb).trans q) I #[by rw[v.length,jN];show Zb (Z3<|Zb (Zc (Zi C) 1) k)<|Zk _ 16777152,F,_,v,hc];show fB S K D I.1 #[_,J0,aC.new I.1 (GI M _ lt).rev] _ _ I' rfl
def S8(vs)(ks)(h:vs.length<2):(cW ks vs.length).map (λi=>vs.getD i dD)=vs:=by
 rcases vs with _|⟨v,_|⟨w,r⟩⟩
 .rw[List.length_nil,we];rfl
 .rw[show cW ks [v].length=[0]from List.perm_singleton.mp<|AV ks 1];rfl
 .show absurd h 03
def S9(N:aA B X O Y bE h U H s)(fD:aF X O H D)(fK:aF X O H kS)(L:D≠kS)(gD:s.heap.get? D=V (cF "list" #[] e1))(gK:s.heap.get? kS=V (cF "list" kA e))(hk:hX kA.toList ks)(lk:ks.length=ys.length)
  (rv:Vals ws its)(r3:aC X.K Y H ys ws)(h64:ys.length<64)(hP:∀s',Q (.ref D) s'->P (.done<|.ret .none) s')(K:Kont B X RU O Y bE U H (XT ys ks h) Q E):
  Zz (Z5 X.prog X.w) A (ksk_end D Zj its.toArray e1 (.ref kS) kA) P E s:=by
 have l1:=r3.length;have l2:=rv.length;have l3:=hk.length;have m:kA.size=its.length:=by rw[<-o8];lia
 unfold ksk_end;dsimp only;rw[if_pos rfl];calc Ze<|lO ?_;have ez:(kA.zip its.toArray).reverse=kA.toList.reverse.toArray.zip its.reverse.toArray:=by apply Array.toList_inj.mp;rw[Array.toList_reverse,Array.toList_zip,Array.toList_zip];show List.reverse_zipWith<|by simpa using m
 rw[if_pos rfl,ez,ZT];have M:=rv.reverse;have R:=r3.rev;have I:=hk.reverse;have K:Kont B X RU O Y bE U H (YJ ys.reverse ks.reverse h) Q E:=K;have u:ys.reverse.length=its.length:=by rw[qq];lia
 have F:ks.reverse.length=its.length:=by rw[qq];lia
 have Z:kA.toList.reverse.length=its.length:=by rw[qq,o8,m]
 have S:its.length<64:=Zb (Zb (Zc (Zi l2.symm) 1)<|Zc (Zi l1) 1) h64;rw[<-qq (as:=its)]at m u F Z S ⊢;by_cases J:its.reverse.length<2
 .rw[if_pos J,if_pos J];calc Ze<|Zp ?_;rw[StateT.run_pure];calc Ze<|Zp ?_;dsimp only;calc GQ N fD fK L gD gK (Zb (Zb (Zc (Zi m) 1) J)<|Zk _ 62) M R (Zb (Zb (Zc (Zi u) 1) J)<|Zk _ 62) ?_ rfl hP K;generalize its.reverse=its at *;have e1:(arrOf<|SortSt.mk' general' (kA.toList.reverse.toArray.zip its.toArray) #[] 7 Zg).map (·.2)=its.toArray:=by apply Array.toList_inj.mp;change((kA.toList.reverse.toArray.zip its.toArray).map (·.2)).toList=_;rw[Array.toList_map,ksk_zip];show List.map_snd_zip<|by rw[List.toList_toArray];show Zi Z.symm
  rw[e1,u];show congrArg bS (S8 its _<|J).symm
 .rw[if_neg J,if_neg J,ksk_kind hk<|Zb (ZI J)<|Zi m.symm];calc Ze<|Zp ?_;generalize its.reverse=its at *;generalize kA.toList.reverse=kl at *;generalize ks.reverse=ks at *;have sp:=GG (n:=its.length)<|Z3<|ZI J;refine Ze (dm (kat_run (ks:=kl) (vs:=its) (Q:=λk s'=>s'=s/\failedOf k=Zg/\arrOf k=(J7 (da λi=>ks.getD i 0)<|om its.length).map (kas_item<|kl.toArray.zip its.toArray)) (G:=λp s'=>s'=s/\p=J7 (da λi=>ks.getD i 0) (om its.length)) Z (ZI J) (S)
   (λp k s' a1 a2 a3 a4=>#[a4.1,a3,a4.2▸a2]) (bH.wp (n:=its.length) (lt:=da λi=>ks.getD i 0) (λi j hi hj C W=>?_) sp #[rfl,rfl])) ?_ λ_ _ e=>e)
  .unfold kas_ask;let#[t1,e1]:=I.get i _ (Zd<|show i<ks.length by show Zb hi<|Zi F.symm);let#[t2,e2]:=I.get j _ (Zd<|show j<ks.length by lia);rw[Zq,Zq,e1,e2];calc kat_lt_int ?_;have W:C (decide (ks.getD i 0<ks.getD j 0)) s:=W;rw[Zq,Zq,Zd (show i<ks.length by lia),Zd<|show j<ks.length by lia]at W;show W
  .rintro⟨⟨⟩,k⟩ s' ⟨rfl,hfl,har⟩;dsimp only;calc GQ N fD fK L gD gK (Zb (Zc (Zi m) 1) S) M R (Zb (Zc (Zi u) 1) S) ?_ hfl hP K;rw[kat_snds (ks:=kl) (vs:=its) Z har,u];rfl
def TB(ko:Xu B X A bE U O G (.ref fq) mk)(hG:∀H H',Ext H H'->G H->G H')(N:aA B X O Y bE h U H s)(g:G H)(fD:aF X O H D)(fK:aF X O H kS)(W:D≠kS)(gD:s.heap.get? D=V (cF "list" #[] e1))(gK:s.heap.get? kS=V (cF "list" #[] 0)) (rv:Vals ws its)(r3:aC X.K Y H ys ws)(J:ys.length<64)(hP:∀s',Q (.ref D) s'->P (.done<|.ret .none) s')(K:Kont B X RU O Y bE U H ((QS mk ys [] h).bind<|XT ys) Q E):Zz (Z5 X.prog X.w) A (ksk_rest D (.ref fq) Zj its.toArray e1<|.ref kS) P E s:=by
 have l1:=r3.length;have l2:=rv.length;unfold ksk_rest;calc Ze<|lO ?_;rw[List.forIn_toArray];calc Ze (ksk_fold (λj s'=>∃H' Z h' R I e,aA B X O Z bE h' U H' s'/\G H'/\a9 Y H Z H'/\s'.heap.get? D=V (cF "list" #[] e1)/\s'.heap.get? kS=V (cF "list" I e)/\hX I.toList R/\R.length=j/\H' D=Zg/\H' kS=Zg/\Kont B X RU O Z bE U H' ((QS mk (ys.drop j) R h').bind<|XT ys) Q E) its 0 s #[H,Y,h,[],#[],0,N,g,.refl,gD,gK,.nil,rfl,fD.1,fK.1,K] ?step ?done);case step=>
  rintro j x s' hx ⟨H',Z,h',R,I,e,N',g',n',L,F,hk,m,S,M,C⟩;simp![yk]at m C ⊢;have fD':=aF.at fD S;have fK':=aF.at fK M;let#[xv,ex,rx]:=AG rv hx;let#[yv,eyv,qy]:=(r3.mono n').get' ex;have hj:j<ys.length:=(Zs.mp eyv).1;have ed:ys.drop j=yv::ys.drop (j+1):=by rw[oN hj,(Zs.mp eyv).2]
  rw[ed]at C;have C:Kont B X RU O Z bE U H' (((mk yv h').nx.bind λk h''=>match k with|.int n=>QS mk (ys.drop<|j+1) (R++[n]) h''|_=>.stuck).bind<|XT ys) Q E:=C;rw[Res.c6]at C;have hz:I.size=j:=by rw[<-o8,hk.length,m]
  have N2:=(N'.gB F fK' λv z=>by cases z).gB L (aF.more (p:=(kS,cF "list" I e)) fD'<|bI W) λv z=>by cases z
  rw[iW]at N2;refine Ze<|uG<|mW<|ko _ _ _ _ _ yv x _ N2 g' #[xv,rx,qy]<|AH C λk h3 u s3 H3 U3 N3 n3 ru K3=>?_
  have pK:=N3.inv.pin (kS,cF "list" I e)<|Zo _<|Zo _ 03;have pD:=N3.inv.pin (D,cF "list" #[] e1)<|Zo _<|Zo _ 03;have N4:=N3.pins;cases k with
  |int n=>
   let#[v,rv',ev]:=ru;have ev:v=.int n:=ev;subst ev;let#[t,rfl]:=rv';try dsimp only
   calc Ze (uZ pK.1 rfl ?_ (by rw[jN];show Zb (Zb (Zk _ 2)<|Zb (Zc (Zb (Zc (Zi hz) 1) hj) 1) J)<|Zk _ 16777152) (Zb (Zi<|Array.size_push ..)<|by rw[jN];show Zb (Z3<|Zb (Zc (Zb (Zc (Zi hz) 1) hj) 1) J)<|Zk _ 16777153));obtain⟨c2,hc2⟩:∃c2,(s3.heap.update kS (fj (·.push (.int n t)))).get? kS=V (cF "list" (I.push<|.int n t) c2):=#[_,sy pK.1 (·.push (.int n t))];have s1:∀b u,b≠kS->s3.heap.get? b=V u->(s3.heap.update kS (fj (·.push (.int n t)))).get? b=V u:=λb u nb q=>(ZB _ _<|bI nb).trans q
   have N5:=N4.turned (h':=s3.heap.update kS (fj (·.push (.int n t)))) (t':=s3.toks) (aF.at fK pK.2.1) s1;calc Zp #[rfl,H3,U3,h3,R++[n],I.push<|.int n t,c2,N5,hG _ _ n3.ext g',n'.trans n3,s1 D _ W pD.1,hc2,by rw[Array.toList_push];show ksk_snoc hk,by simp[m],pD.2.1,pK.2.1,K3]
  |_=>show Zf K3
 case done=>
  rintro s' ⟨H',Z,h',R,I,e,N',g',n',L,F,hk,m,S,M,C⟩;rw[yk]at m C;rw[List.drop_of_length_le<|Zb (Zi l1.symm)<|Zi l2]at C;try dsimp only
  calc Ze<|listItems_at F rfl ?_;show S9 N' (aF.at fD S) (aF.at fK M) W L F hk 05 rv (r3.mono n') J hP C
def TC(Z:∀a,eG.«list.sort» #[[.ref a],kw]=ksk_tree a (.ref fq) Zj)(hak:∀a,ky "list.sort" #[[a],kw])(ko:Xu B X bC.in1 bE U O G (.ref fq) mk)(hG:∀H H',Ext H H'->G H->G H')(N:aA B X O Y bE h U H s)(g:G H) (keep:∀b o,s.heap.get? b=V o->J.get? b=V o)(C:s.heap.objs.size<=J.objs.size)(I:Vals ws its)(r3:aC X.K Y H ys ws)(u:ys.length<64)(hP:∀D s',Q (.ref D) s'->P (.done<|.ret<|.ref D) s') (K:Kont B X RU O Y bE U H ((QS mk ys [] h).bind<|XT ys) Q E):Zz (Z5 X.prog X.w) bC (do let l<-newList its;let _<-jx [l] (call (.builtin "list.sort") [l] kw);ret l) P E {s with heap:=J,toks:=tk}:=by
 have l1:=r3.length;have l2:=I.length;calc Ze (rY ?_<|by rw[jN];show Zb (Z3<|Zb (Zc (Zb (Zi l2.symm)<|Zi l1) 1) u)<|Zk _ 16777152);have m:(J.push<|cF "list" its.toArray 0).get? J.objs.size=V (cF "list" its.toArray 0):=Zw _ rfl;have k:∀b o,s.heap.get? b=V o->(J.push<|cF "list" its.toArray 0).get? b=V o:=λb o q=>Zh _<|keep b o q
 have M:(J.push<|cF "list" its.toArray 0).objs.size=J.objs.size+1:=qV ..;change Zz _ _ _ _ _ {s with heap:=J.push<|cF "list" its.toArray 0,toks:=tk};generalize J.push (cF "list" its.toArray 0)=F at m k M;calc Ze<|eF<|wpAny_call_entry_kw slot_list_sort #[_,m,rfl] entry_list_sort ?body<|hak _;case body=>
  change Zz (Z5 X.prog X.w) bC.in1 (eG.«list.sort» #[[.ref J.objs.size],kw]) _ _ _;rw[Z];unfold ksk_tree;calc Ze<|listItems_at m rfl ?_;calc Ze (uZ m rfl ?_ (by rw[ZT,jN];show Zb (Z3<|Zb (Zc (Zb (Zi l2.symm)<|Zi l1) 1) u)<|Zk _ 16777152) (ZW _));obtain⟨S,L⟩:∃S,(F.update J.objs.size<|fj λ_=>(#[]:Th)).get? J.objs.size=V (cF "list" #[] S):=#[_,sy m λ_=>#[]];calc Ze<|seqEpoch_at L rfl ?_;calc Ze (wpAny_newTuple ?_ (by change its.length<=_;rw[jN];show Zb (Z3<|Zb (Zc (Zb (Zi l2.symm)<|Zi l1) 1) u)<|Zk _ 16777152));calc Ze<|rY ?_<|ZW _;calc eF ?_;have W:((F.update J.objs.size<|fj λ_=>(#[]:Th)).push<|cF "tuple" its.toArray 0).objs.size=J.objs.size+2:=by rw[qV,Heap.size_update,M]
  obtain⟨R,j⟩:∃R,R=((F.update J.objs.size<|fj λ_=>(#[]:Th)).push<|cF "tuple" its.toArray 0).objs.size:=#[_,rfl];have gK:(((F.update J.objs.size<|fj λ_=>(#[]:Th)).push<|cF "tuple" its.toArray 0).push<|cF "list" #[] 0).get? R=V (cF "list" #[] 0):=by rw[j];show Zw _ rfl
  have gD:(((F.update J.objs.size<|fj λ_=>(#[]:Th)).push<|cF "tuple" its.toArray 0).push<|cF "list" #[] 0).get? J.objs.size=V (cF "list" #[] S):=Zh _<|Zh _ L;have old:∀b o,s.heap.get? b=V o->(((F.update J.objs.size<|fj λ_=>(#[]:Th)).push<|cF "tuple" its.toArray 0).push<|cF "list" #[] 0).get? b=V o:=λb o q=>Zh _<|Zh _<|(ZB _ _<|dC<|ZL (Z0 q) C).trans<|k b o q
  rw[<-j];rw[W]at j;have fD:aF X O H J.objs.size:=N.inv.c8 C<|N.inv.az.fresh C;have le:s.heap.objs.size<=R:=by rw[j];show Zb C<|Zk _ _
  have fK:aF X O H R:=N.inv.c8 le<|N.inv.az.fresh le;show TB ko hG (N.jF (t':=tk) old) g fD fK (by rw[j];show Zv<|Nat.lt_add_of_pos_right 01) gD gK I r3 u (λs' q=>#[_,rfl,Zp<|hP _ _ q]) K
end
end
noncomputable def VO (x:IV)(h:IH):Option (Nat×Tu):=match x with|.ref i=>(match h[i]? with|some (.lst xs)=>V (i,xs)|_=>Zg)|_=>Zg
def GR(e:VO x h=V (i,xs)):x=.ref i/\h[i]?=V (.lst xs):=by
 unfold VO at e;split at e
 .lia
 .cases e
def XM(x:IV)(as:Tu)(h:IH):Res IV:=match VO x h,as with|some (i,xs),[]=>(match xs[xs.length-1]? with|some y=>.ok y<|h.set i<|.lst xs.dropLast|none=>.stuck)|_,_=>.stuck
def XN(x:IV)(as:Tu)(h:IH):Res IV:=match VO x h,as with|some (i,xs),[.int k]=>(match JL xs with|some ns=>(match ns.findIdx? (· ==k)with|some j=>.ok .af<|h.set i<|.lst<|xs.eraseIdx j|none=>.stuck)|none=>.stuck)|_,_=>.stuck
section
variable{B:aM}{X:Cx}
def TF:m3 B X "list" "list.pop" XM:=by
 intro O s U H Y R h x xs v M Q E N k J K;unfold XM at K;split at K
 .rename_i i P e;let#[rfl,I]:=GR e;split at K
  .rename_i y L;let#[W,k,a,rfl,ha]:=k;let#[S,G,u]:=J;cases (u);let#[D,m,j]:=N.at I ha;let#[z,F,C]:=j.get L;show Av (NS) N.inv k G #[a,D,z,rfl,rfl,m,by rw[j.length];show F,m4 N K ha m (by rw[Eg,Eg,j.length];show j.take _) C]
  .show(K).elim
 .show(K).elim
def TG:m3 B X "list" "list.remove" XN:=by
 intro O s U H Y bE h x xs v us Q E N I rs K;unfold XN at K;split at K
 .rename_i i zs k e;let#[rfl,hi]:=GR e;split at K
  .rename_i ns Z;split at K
   .rename_i j hj;let#[xv,I,a,rfl,ha]:=I;let#[vs,rv,qs]:=rs;let#[w,rfl,qw]:=qs.bJ;cases (qw);let#[u,rfl,t,rfl]:=Qr rv;cases I;let#[ws,R,W]:=N.at hi ha;let#[z,C,n,r,hl,L]:=N.inv.f9 R;have G:=Vg Z W r;have ln:=Xk G;let#[D,hp,M]:=ym.mp hj;have at_:∀m (hm:m<C.toArray.size),∃t,C.toArray[m]=.int (ns.getD m 0) t:=λm hm=>vh G m _<|by simp at hm;simp[hm]
    refine qF F.slot_list_remove #[_,L,rfl] F.entry_list_remove (F.args_list_remove_2 _ _)
     (MeetsSeq.list_remove a C.toArray n (.int k t) (AB k) (λy hy=>?_) j (by simp;show Zb D<|Zi ln.symm) ?_ (λm hm P=>?_)<|by rw[ZT];show Zb (Zi hl.symm) z) #[L,?_]
    .let#[m,hm,rfl]:=Array.mem_iff_getElem.mp hy;let#[S,e]:=at_ m hm;rw[e];show MeetsSeq.EqGives.int _ _ _ _
    .let#[S,e]:=at_ j<|by simp;show Zb D<|Zi ln.symm
     rw[e];simpa[AB,Zq,D]using hp
    .let#[S,e]:=at_ m hm;rw[e];have:=M m P;have J:m<ns.length:=qk 06 06;simpa[AB,Zq,J]using this
    .show m4 N K ha R (W.erase _) rfl _ _ (N.inv.mT R L (by simp_all) (r.eraseIdx j) (by have:=Fp ws j;show Zb this z)) rfl
   .show(K).elim
  .show(K).elim
 .show(K).elim
end
section
variable{pr:cz}{wd:bL}{A:cu}{E:aQ}{s:Z1}
def TH{n:Nat}(B:A.handled=Zg)(C:IsRange s.heap r a b c t u v)(hsmall:Builtin.Range.small a b c=Zj) (hn:EI a b c=n)(j:n<=2^24)(D:∀h' tk acc,(∀b o,s.heap.get? b=V o->h'.get? b=V o)->s.heap.objs.size<=h'.objs.size->ItemsOf (λi v=>∃t,v=.int (a+i*c) t) acc n->Q acc.toList {s with heap:=h',toks:=tk}):Zz (Z5 pr wd) A (collect<|.ref r) Q E s:=by
 unfold collect;calc Ze<|yH<|jw PySem.F.entry_proto_collect ?_;calc Ze<|rY ?_<|ZW _;calc Zp #[kc EC _,jw PySem.F.entry_list_iadd ?_];rw[mQ EC _];refine wpAny_extend_range (R:=λr m=>match r with|.ok (.ret v)=>Zz (Z5 pr wd) A (match v with|.ref a=>(do match (<-load a).data with|.seq xs _=>pure xs.toList|_=>unsupported "internal:collect")|_=>unsupported "internal:collect") Q E m|.ok _=>False|.error e=>E e m) B (Zh _ C) hsmall hn j s.heap.objs.size _ 0 (Zw _ rfl) λh' tk acc F keep g k=>?_
 calc Ze<|wpAny_load g ?_;show Zp<|D h' tk acc (λb o e=>keep b o (Zv<|Z0 e)<|Zh _ e) (Z3<|Z0 g) k
end
section
variable{B:aM}{X:Cx}
def Yy(q:Str)(j:Nat)(js:Tp)(aa:A1)(m:E1):E1:=λU h=>(aa U h).bind λxs h1=>match xs,h1[j]? with|[.int n],V (.tab q')=>if q'=q/\0<=n/\n<64 then(QS (λv h'=>m (V v::js.map λj=>(U[j]?).join) h') (aX 0 n) [] h1).bind (XT<|aX 0 n)else .stuck|_,_=>.stuck
theorem TJ(hh:X.A.handled=Zg)(hg:Gl X "sorted")(hm:X.mg "sorted"=Zg)(g2:Gl X "range")(m2:X.mg "range"=Zg)(ha:dX B X [a] aa)(hs:ZR [a] X.env=[(Zn,bp a X.env)])
  (hn:X.A.handled=Zg)(hr:bu κ (k+3) X.A)(hcd:W.codeIn X.K X.env.code q=Zj)(hq:X.env.qual=q++".<locals>.")(bC:QH X.mg X.base)(hx:QT params=V x)(S:iz X.N X.env.scope.names x caps js scope)
  (Z:∀f cd s' H',ah B (mj X X.A.in1.in1 (x::caps) q scope f cd s' H') body m):
  ah B X (.Call (.Name "sorted" p) [.Call (.Name "range" p2) [a] [] pos2] [#[V "key",.Lambda params body scope lp,kp],#[V "reverse",.Constant (.bool Zj) ck cp,kp2]] pos) (Yy q j js aa m):=λO s U H Y bE h Q E N K=>by
 have P:oY scope X.env=pure (bZ X.env.cells scope.names []):=vS λy hm hk=>N.inv.ok.has y.1<|.inl<|S.free y hm hk
 calc iZ<|Q3 N.inv hg hm rfl ?_;calc u3 ?_ rfl rfl rfl rfl;calc Ew ?_;calc iZ<|Q3 N.inv g2 m2 boot_range ?_;calc o9 ?_ hs rfl;refine(ha pos2).run N K λxs h1 us C H1 W1 L n1 r1 J=>?_
 let#[vs,rv,qs]:=r1;split at J
 .rename_i n q' ej;split at J
  .rename_i hc;let#[rfl,n0,kj]:=hc;let#[w,rfl,qw]:=qs.bJ;cases (show w=.int n from qw);let#[u,rfl,t,rfl]:=Qr rv;calc call_range_1<|Ey ?_;have gr:(C.heap.push {cls:=.type "range",data:=.fields (bS [.int 0 C.toks,.int n t,.int 1<|C.toks+1])}).get? C.heap.objs.size=V {cls:=.type "range",data:=.fields (bS [.int 0 C.toks,.int n t,.int 1<|C.toks+1])}:=Zw _ rfl;have M:=(L.jF (h':=C.heap.push {cls:=.type "range",data:=.fields (bS [.int 0 C.toks,.int n t,.int 1<|C.toks+1])}) (t':=C.toks+1+1) λb o e=>Zh _ e);have F1:aF X O H1 C.heap.objs.size:=L.inv.c8 (Zl _)<|L.inv.az.fresh<|Zl _;have N2:=M.gB gr F1 λv z=>by cases z
   have K2:=Kont.more (pl:=[(C.heap.objs.size,({cls:=.type "range",data:=.fields (bS [.int 0 C.toks,.int n t,.int 1<|C.toks+1])}:Obj))]) J;refine qS<|Ze<|AE N2 ej hcd hq (AI hx) P bC λf c pm I s3 H3 N3 n3 LC=>Ze<|jM<|Zp ?_
   calc qS<|Ze<|Zp<|Ze<|jM<|Zp<|uY ?_;have K3:=Kont.more (pl:=[(f,gz q' params body scope (bZ X.env.cells scope.names []) pm I c)])<|Kont.mono K2 n3;have pr:=N3.inv.pin (C.heap.objs.size,{cls:=.type "range",data:=.fields (bS [.int 0 C.toks,.int n t,.int 1<|C.toks+1])})<|Zo _<|iJ _<|Zo _<|Z6.mpr rfl;calc call_function_entry_kw kind_sorted plain_sorted entry_sorted (ksk_s2 _ _ _) ?_;unfold eG.«sorted»;calc Ze (m:=checkCount "sorted" 1 1 _)<|Zp ?_;refine Ze<|TH (n:=n.toNat) hh pr.1 (small_one 01 01 05 05) ?_ 05 λh4 tk acc keep le F=>?_
   .rw[rangeSize_one];split<;>lia
   have R:hX acc.toList ((ZM n.toNat).map λk=>((k:Nat):Int)):=by
    refine Gs _ _ (by simp[F.1]) λi v hv=>?_
    let#[t,rfl]:=F.2 i v<|by simpa using hv
    have hi:i<n.toNat:=by have:=(Zs.mp hv).1;simp![o8,F.1]at this;show this
    show#[t,by simp[Zq,hi]]
   calc TC (G:=λH=>QP H q'<|.ref c) (mk:=λv h'=>m (V v::js.map λj=>(bE[j]?).join) h') (ys:=aX 0 n) (λa=>ksk_t2 f a Zj) (λa=>ksk_l2 a _ _) ?_ (λH H' e g=>g.mono e.bf) N3 LC keep le (Ya R) (by rw[XO];show Az _) (by rw[XO];simp;show kj) (λD s' q=>#[_,rfl,q]) K3;intro pl s4 H4 U4 h4 v u Q4 N4 g4 ru4 K4;have pf:=N4.inv.pin (f,gz q' params body scope (bZ X.env.cells scope.names []) pm I c)<|Zo _<|iJ _<|Zo _<|Z6.mpr rfl;show AF (A:=X.A.in1.in1) N.inv.ok.frames hr.in1.in1 (.inl hn) N4 pf.1 g4 hx S (Z f<|.ref c) ru4 K4
  .show Zf J
 .show Zf J
end
end L3
namespace L3
open PySem PySem.Spec PyProof.Rows L2
end L3
namespace L4
open PySem PySem.Spec PyProof.Rows L2 L3
noncomputable def bQ:E1:=λ_ _=>.stuck
noncomputable def k4:T1:=λ_ _=>.stuck
noncomputable def TK:O1:=λ_ _=>.stuck
noncomputable def stI:I1:=λ_ _=>.stuck
noncomputable def mn:G1:=λ_ _ _=>.stuck
noncomputable def cy:S1:=λ_ _=>.stuck
structure Fn where
 np:Nat
 aU:Tu
 run:Tu->IH->Res IV
 cl:Bool
abbrev _root_.Tg:=Option Fn
set_option genInjectivity false in
structure Pg where
 fn:Str->Tg
 cls:Str->Tg
 eT:Str->Str->Tg
 mw:Str->Bool
 con:Str->Te
 mq:Str->Option (Str->Bool)
 fld:Str->Bool
 free:Str->Bool
 tabs:Str->Ta
 mu:Str->Bool
 xi:Str->Option (Str->Ww)
 xo:Str->Tg
 xf:Str->Str->Bool
 xb:Str->Bool
structure Sc where
 N:Tj
 names:Wh
 own:Bool
 q:Str
 cl:Bool
noncomputable def dJ (x:Str):Tj->Ta|[]=>Zg|y::r=>if y==x then V 0 else(dJ x r).map (· + 1)
noncomputable def Sc.nc (S:Sc)(x:Str):Ta:=match S.names.lookup x with|some .local=>if x=="__debug__"||x=="__classdict__" then Zg else dJ x S.N|some .cell=>if x=="__debug__"||x=="__classdict__" then Zg else dJ x S.N|some .free=>if x=="__debug__"||x=="__classdict__" then Zg else dJ x S.N|_=>Zg
noncomputable def Sc.gl (S:Sc)(x:Str):Bool:=S.names.lookup x==V .globalImplicit&&!(x=="__debug__")&&!(x=="__name__")
noncomputable def Sc.gY (S:Sc)(x:Str):Ta:=match S.names.lookup x with|some .local=>dJ x S.N|some .cell=>if S.own then dJ x S.N else Zg|_=>Zg
def GS:Const->E1|.int i=>eC<|.int i|.bool b=>eC<|.bl b|.none=>eC .af|.str x=>eC<|.str x|_=>bQ
def binI:r9->IV->IV->IH->Res IV|.Add=>Jr|.Sub=>Qh|.Mult=>Q6|.FloorDiv=>JW|.Mod=>JC|.Pow=>JQ|_=>λ_ _ _=>.stuck
def fL:CmpOp->IV->IV->IH->Res IV|.Lt=>gi|.LtE=>c7|.Gt=>fE|.GtE=>q7|.Eq=>jX|.NotEq=>jE|.Is=>mZ|.IsNot=>Xd|.In=>ot|.NotIn=>X1
def vw:UnaryOp->IV->IH->Res IV|.Not=>YB bG|.USub=>vG|_=>λ_ _=>.stuck
def AW:Tv->E1|[]=>bQ|[a]=>a|a::b::r=>dG a (AW<|b::r) bG
def pO:Tv->E1|[]=>bQ|[a]=>a|a::b::r=>qZ a (pO<|b::r) bG
def AX:List T1->T1|[]=>k4|[a]=>a|a::b::r=>QM a<|AX<|b::r
def pP:List T1->T1|[]=>k4|[a]=>a|a::b::r=>cJ a<|pP<|b::r
def cg:Tv->A1|[]=>Je|a::r=>Jb a<|cg r
noncomputable def J2:Expr->Bool|.Starred .. =>Zn|_=>Zj
def XH:Expr->Bool|.Set .. =>Zn|_=>Zj
def Xm:Expr->Bool|.Slice .. =>Zn|_=>Zj
def V9:Expr->Bool|.ListComp .. =>Zn|.SetComp .. =>Zn|.DictComp .. =>Zn|_=>Zj
def Vx:Expr->Bool|.Call (.Name ..) [] [] _=>Zn|_=>Zj
noncomputable def Fn.fill (f:Fn)(c:Bool)(n:Nat):Option (Tu):=if n<=f.np/\f.np<=n+f.aU.length/\(!f.cl||c)=Zj then V (f.aU.drop<|f.aU.length-(f.np-n))else Zg
def Xe(c:Bool)(f:Fn)(n:Nat)(a:A1):E1:=match f.fill c n with|some d=>Jm f.run d a|none=>bQ
def wg(b:Bool)(c:Str)(f:Fn)(n:Nat)(a:A1):E1:=match f.fill b (n+1)with|some d=>Q0 c f.run d a|none=>bQ
def tq(x:Str):Tu->IH->Res IV:=if x=="len" then aO aS else if x=="all" then aO allI else if x=="sum" then aO gu else if x=="sorted" then aO XU else if x=="min" then aO VP else if x=="max" then aO Vh else λ_ _=>.stuck
def tu(x:Str):Tu->IH->Res IV:=if x=="list" then aO Vv else if x=="tuple" then aO VW else if x=="int" then aO Y2 else if x=="str" then aO iw else λ_ _=>.stuck
noncomputable def AY (x:Str):Bool:=x=="len"||x=="all"||x=="sum"||x=="sorted"||x=="min"||x=="max"
noncomputable def AZ (x:Str):Bool:=x=="list"||x=="tuple"||x=="int"||x=="str"
def wh(P:Pg)(x:Str):Option (Ty->Ww):=match P.mq x with
 |some g=>V λt=>match t with|.ins c=>V (g c)|.exc _=>Zg|_=>V Zn
 |none=>if P.free x then(if x=="int" then V vQ else if x=="bool" then V vR else if x=="str" then V Ao else if x=="list" then V VG else if x=="tuple" then V Xx else Zg)else Zg
def A0(o:Option<|Ty->Ww)(e:E1):E1:=match o with|some dH=>bP dH e|none=>bQ
def dA(T:String)(m:Str)(n:Nat):Option (IV->Tu->IH->Res IV):=if T=="list"&&m=="append"&&n==1 then V Xa else if T=="list"&&m=="extend"&&n==1 then V X9 else if T=="list"&&m=="pop"&&n==0 then V XM else if T=="list"&&m=="remove"&&n==1 then V XN else if T=="str"&&m=="join"&&n==1 then V XD else if T=="dict"&&m=="setdefault"&&n==2 then V VT else Zg
def Qb(P:Pg)(m:Str)(n:Nat):Str->Option ((Tu->IH->Res IV)×Tu):=λc=>match P.eT c m with|some f=>(match f.fill Zj (n+1)with|some d=>V (f.run,d)|none=>Zg)|none=>Zg
def VM(v:IV)(h:IH):Bool:=match v with|.ref i=>(match h[i]? with|some (.ins ..)=>Zj|_=>Zn)|_=>Zn
def oB(v:IV)(h:IH):String:=match v with|.str _=>"str"|.cG _=>"list"|.ref i=>(match h[i]? with|some (.lst _)=>"list"|some (.a8 _)=>"dict"|_=>"")|_=>""
def Jp(P:Pg)(m:Str)(n:Nat)(o:E1)(a:A1):E1:=λU h=>match o U h with|.ok v h1=>if VM v h1 then vH m (Qb P m n) o a U h else(match dA (oB v h1) m n with|some g=>pJ (oB v h1) g o a U h|none=>.stuck)|_=>.stuck
def GU(n:Nat)(a:A1):I1:=match n with|1=>c4 Qd a|2=>c4 VN a|_=>stI
def ng:List G1->Tu->aI->IH->bU|[]=>gN|g::r=>gC g<|ng r
noncomputable def V8 (sc:eL):Tj:=sc.names.filterMap λx=>if x.2==.local&&!(x.1==(".0":Str))then V x.1 else Zg
noncomputable def QK (sc:eL):Tj:=sc.names.filterMap λx=>if x.2==.free then V x.1 else Zg
def dN(S:Sc)(sc:eL):Tp:=(QK sc).map λx=>(dJ x S.N).getD 0
def Sc.comp(S:Sc)(sc:eL):Sc where
 N:=V8 sc++QK sc
 names:=sc.names.map λx=>if x.2==.free&&S.names.lookup x.1==V .cell then(x.1,.cell)else x
 own:=Zn
 q:=""
 cl:=S.cl
def Sc.lam(S:Sc)(x:Str)(sc:eL):Sc where
 N:=x::QK sc
 names:=sc.names
 own:=Zn
 q:=""
 cl:=S.cl
def QD(S:Sc)(x:Str)(sc:eL):Bool:=sc.kind==.function&&!sc.isCoroutine&&!sc.isGenerator&&sc.names.all (λy=>!(y.2==.cell))&&sc.names.lookup x==V .local&&sc.names.all (λy=>!(y.2==.free)||S.names.lookup y.1==V .cell) && (QK sc).all (λy=>decide (S.N[(dJ y S.N).getD 0]?=V y)&&sc.names.lookup y==V .free)&&decide (x::QK sc).Nodup
def Sc.k6(S:Sc):eL:={kind:=.function,names:=S.names,isGenerator:=Zn,isCoroutine:=Zn}
noncomputable def A2:Expr->Bool|.Name x _=>x=="last_come"||x=="tops"||x=="last"||x=="_law_last"||x=="_law_last_here"||x=="_law_lows_here"|_=>Zn
def A3(a:Expr):IV->IV->IH->Res IV:=if A2 a then Vj else Jg
def A4:Expr->Bool|.Name x _=>x=="_law_word_here"||x=="_law_name"|.Subscript .. =>Zj|.Constant (.str _) _ _=>Zj|_=>Zn
def A5(a:Expr):IV->Wz->Wz->IH->Res IV:=if A4 a then oz else ir
def j4(o:CmpOp)(b:Expr):IV->IV->IH->Res IV:=match o with|.In=>if A2 b then gy else ot|o=>fL o
def pQ(a:Expr)(o i:E1):G1:=if A2 a then iy o i else mn
def GV:Expr->Wv|.Call (.Name y _) [e] [] _=>if y=="set"&&J2 e then V e else Zg|_=>Zg
def wi:Expr->Wv|.Call (.Name y _) [e] [] _=>if y=="range"&&J2 e then V e else Zg|_=>Zg
def A6(P:Pg)(S:Sc)(x:Str)(f:Expr->E1):Td->E1|[a,b]=>if x=="max" then aW (kQ jj) (Jb (f a)<|Jb (f b) Je)else if x=="min" then aW (kQ m6) (Jb (f a)<|Jb (f b) Je)else(match b with|.Name y _=>if x=="isinstance"&&S.gl y then A0 (wh P y) (f a)else bQ|_=>bQ)|[a,b,c,d]=>if x=="max" then aW Y6 (Jb (f a)<|Jb (f b)<|Jb (f c)<|Jb (f d) Je)else bQ|[a]=>(match (if x=="len"&&S.gl "set"&&P.free "set" then GV a else Zg)with|some e=>Yw<|Jb (f e) Je|none=>match (if x=="list"&&S.gl "range"&&P.free "range" then wi a else Zg)with|some _=>bQ|none=>if AY x then aW (tq x) (Jb (f a) Je)else if AZ x then aW (tu x) (Jb (f a) Je)else bQ)|_=>bQ
def isNm:Expr->Bool|.Call .. =>Zn|_=>Zj
def wm(x:Str)(args:Td):Bool:=x=="max"||x=="isinstance"||((x=="len"||x=="list")&&args.all isNm)
def wq(P:Pg)(S:Sc)(x:Str)(f:Expr->E1)(args:Td):E1:=if (S.cl||wm x args)=Zn then bQ else A6 P S x f args
def GW:Expr->Bool|.Constant (.bool Zj) _ _=>Zj|_=>Zn
def A7(P:Pg)(S:Sc)(f:Sc->Expr->E1)(x:Str)(a:Expr)(k:Str)(ps:uP)(body:Expr)(sc:eL)(k2:Str)(d:Expr):E1:=match wi a,QT ps,P.tabs S.q with|some e,V y,V j=>if x=="sorted"&&k=="key"&&k2=="reverse"&&GW d&&S.gl x&&P.free x&&S.gl "range"&&P.free "range"&&S.own&&QD S y sc then Yy S.q j (dN S sc) (Jb (f S e) Je) (f (S.lam y sc) body)else bQ|_,_,_=>bQ
def tw(P:Pg)(S:Sc)(f:Sc->Expr->E1)(x:Str)(a:Expr)(k:Str):Expr->E1|.Lambda ps body sc _=>(match QT ps,P.tabs S.q with|some y,V j=>if x=="min"&&k=="key"&&S.gl x&&P.free x&&J2 a&&S.own&&QD S y sc then X7 jG S.q j (dN S sc) (Jb (f S a) Je) (f (S.lam y sc) body)else bQ|_,_=>bQ)|_=>bQ
def A8(P:Pg)(S:Sc)(f:Sc->Expr->E1)(x:Str)(args:Td)(kws:Tn):E1:=match args,kws with|[a],[⟨V k,d,_⟩]=>if x=="max"&&k=="default"&&S.gl x&&P.free x&&J2 a then X6 (Jb (f S a) Je) (f S d)else tw P S f x a k d|[a],[⟨V k,.Lambda ps body sc _,_⟩,⟨V k2,d,_⟩]=>if x=="sorted" then(if S.cl then A7 P S f x a k ps body sc k2 d else bQ)else(match QT ps,P.tabs S.q with|some y,V j=>if x=="max"&&k=="key"&&k2=="default"&&S.gl x&&P.free x&&J2 a&&S.own&&QD S y sc then Yx m8 S.q j (dN S sc) (Jb (f S a) Je) (f (S.lam y sc) body) (f S d)else bQ|_,_=>bQ)|_,_=>bQ
def wt(P:Pg)(S:Sc)(m:Str):Expr->Tg|.Name x _=>if m=="__init__"&&S.gl x&&P.mu x then P.cls x else Zg|_=>Zg
def A9(P:Pg)(S:Sc)(m:Str):Expr->Bool|.Name x _=>m=="__init__"&&S.gl x&&P.xb x|_=>Zn
def wu(P:Pg)(S:Sc)(m:Str)(n:Nat)(o:Expr)(a:A1)(e:E1):E1:=if A9 P S m o&&decide (n≠0)then Yt (λc=>(P.xo c).isSome) a else e
def Ba(P:Pg)(c:Bool)(m:Str)(n:Nat)(b:Tg)(o:E1)(a:A1):E1:=match b with|some f=>if n=0 then bQ else Xe c f n a|none=>if c||P.mw m then Jp P m n o a else bQ
def Bb(ifs:Td)(f:Expr->T1)(m:T1->E1):E1:=match ifs with|[]=>m JB|[c]=>m<|f c|_=>bQ
section
mutual
def ev(P:Pg):Nat->Sc->Expr->E1|0,_,_=>bQ|n+1,S,e=>match e with
  |.Constant c _ _=>GS c
  |.Name x _=>(match S.nc x with|some i=>Ja i|none=>if S.gl x then(match P.con x with|some v=>eC v|none=>bQ)else bQ)
  |.BinOp a op b _=>Jc (binI op) (ev P n S a)<|ev P n S b
  |.UnaryOp op a _=>jg (vw op)<|ev P n S a
  |.BoolOp .And vs _=>AW<|vs.map<|ev P n S
  |.BoolOp .Or vs _=>pO<|vs.map<|ev P n S
  |.IfExp t a b _=>kM (k7 P n S t) (ev P n S a)<|ev P n S b
  |.Compare a [o] [b] _=>if qD o b then bQ else Jc (j4 o b) (ev P n S a) (ev P n S b)
  |.Compare a [o,o'] [b,c] _=>if qI [o,o'] [b,c]then bQ else JK (fL o) (fL o') (ev P n S a) (ev P n S b) (ev P n S c)
  |.JoinedStr (a::b::r) _=>kZ<|(a::b::r).map<|ev P n S
  |.FormattedValue a c Zg _=>if c=-1 then jg eS (ev P n S a)else bQ
  |.Tuple es _ _=>if es.all J2 then bN (cg<|es.map<|ev P n S)else bQ
  |.Dict [] [] _=>Yu
  |.List es _=>if es.all J2 then J9 (cg<|es.map<|ev P n S)else bQ
  |.Subscript a (.Slice lo hi Zg _) _=>gX (A5 a) (ev P n S a) (Bc P n S lo)<|Bc P n S hi
  |.Subscript a i _=>if Xm i then Jc (A3 a) (ev P n S a) (ev P n S i)else bQ
  |.Attribute o f _=>if Vx o then(if P.fld f then Jq f (ev P n S o)else Yv (P.xf f) f (ev P n S o))else bQ
  |.Call (.Name x _) args [] _=>if S.gl x&&args.all J2 then Be P n S x args else bQ
  |.Call (.Name x _) args (kw::kws) _=>A8 P S (λS e=>ev P n S e) x args<|kw::kws
  |.Call (.Attribute o m ap) args [] p=>if args.all J2&&Vx o&&(ap.endLine==p.line)&&decide (args.length<30)then wu P S m args.length o (cg<|args.map<|ev P n S) (Ba P S.cl m args.length (wt P S m o) (ev P n S o)<|cg<|args.map<|ev P n S)else bQ
  |.ListComp elt [⟨tg,iter,ifs,as⟩] sc _=>
   if as=0/\XH iter=Zj/\QQ S.N (V8 sc) (QK sc) (dN S sc) S.k6 sc=Zj then Bb ifs (k7 P n<|S.comp sc) λmt=>Jy (rf P n S tg iter) (V8 sc).length (dN S sc) (my P n (S.comp sc) tg) mt<|ev P n (S.comp sc) elt
   else bQ
  |_=>bQ
def k7(P:Pg):Nat->Sc->Expr->T1|0,_,_=>k4|n+1,S,e=>match e with|.UnaryOp .Not a _=>J6<|k7 P n S a|.BoolOp .And vs _=>AX<|vs.map<|k7 P n S|.BoolOp .Or vs _=>pP<|vs.map<|k7 P n S|.IfExp .. =>k4|.Compare a [o] [b] _=>if qD o b then k4 else Ji aR (Jc (j4 o b) (ev P n S a)<|ev P n S b)|.Compare a [o,o'] [b,c] _=>if qI [o,o'] [b,c]then k4 else Ji aR (JK (fL o) (fL o') (ev P n S a) (ev P n S b)<|ev P n S c)|.Compare .. =>k4|e=>Ji bG<|ev P n S e
def Bc(P:Pg):Nat->Sc->Wv->O1|0,_,_=>TK|_+1,_,Zg=>Q5|n+1,S,V e=>Qq<|ev P n S e
def Be(P:Pg):Nat->Sc->Str->Td->E1|0,_,_,_=>bQ|n+1,S,x,args=>match P.fn x with|some f=>Xe S.cl f args.length<|cg<|args.map<|ev P n S|none=>match P.cls x with|some f=>wg S.cl x f args.length<|cg<|args.map<|ev P n S|none=>if P.free x then wq P S x (ev P n S) args else bQ
def rf(P:Pg):Nat->Sc->Expr->Expr->I1|0,_,_,_=>stI|n+1,S,tg,e=>match e with
  |.Call (.Name x _) args [] _=>
   if S.gl x&&P.free x&&args.all J2&&(x=="range")then GU args.length (cg<|args.map<|ev P n S)
   else if S.gl x&&P.free x&&args.all J2&&(x=="enumerate")then(match tg,args with|.Tuple ..,[a]=>c4 V5<|Jb (ev P n S a) Je|_,_=>stI)
   else Jw (ev P n S e)
  |e=>Jw<|ev P n S e
def my(P:Pg):Nat->Sc->Expr->G1|0,_,_=>mn|n+1,S,e=>match e with|.Name x _=>(match S.gY x with|some i=>aV i|none=>mn)|.Tuple es _ _=>if es.all J2 then jV es.length (ng<|es.map<|my P n S)else mn|.Subscript o i _=>if Xm i then pQ o (ev P n S o) (ev P n S i)else mn|_=>mn
end
end
noncomputable def VY (t:T1)(b:S1):Nat->S1|0,_,_=>.stuck|n+1,U,h=>match t U h with|.ok c h1=>if c then(match b U h1 with|.next W2 J=>VY t b n W2 J|.cont W2 J=>VY t b n W2 J|.brk W2 J=>.next W2 J|.ret v J=>.ret v J|.exc m W2 J=>(match J[m]? with|some (.exc _ _)=>.exc m W2 J|_=>.stuck)|_=>.stuck)else .next U h1|_=>.stuck
@[irreducible] def XY:Nat:=1000000
def Bf(o:Bool)(t:T1)(b:S1):S1:=match o with|true=>VY t b XY|false=>cy
def VR(t:T1)(b:S1):S1:=Bf Zj t b
theorem TL(t)(b):VR t b=VY t b XY:=rfl
noncomputable def mz:r9->IV->IV->IH->Res IV|.Add,.int i,.int j,h=>.ok (.int<|i+j) h|_,_,_,_=>.stuck
def nh(op:r9)(i:Nat)(e:E1):S1:=λU h=>rS U (Ja i U h) λx h1=>rS U (e U h1) λy J=>rS U (mz op x y J) λz h3=>.next (U.set i<|V z) h3
def XR(op:r9)(f:Str)(o e:E1):S1:=λU h=>rS U (o U h) λov h1=>match ov with|.ref i=>(match h1[i]? with|some (.ins _ fs)=>(match fs.lookup f with|some x=>rS U (e U h1) λy J=>rS U (mz op x y J) λz h3=>(match h3[i]? with|some (.ins c gs)=>if gs.length<1000 then .next U (h3.set i<|.ins c<|bz f z gs)else .stuck|_=>.stuck)|none=>.stuck)|_=>.stuck)|_=>.stuck
def wx:IV->IV->IH->Res IV
 |.ref i,.int k,h=>match h[i]? with
  |some (.lst xs)=>(match a7 xs k with
   |some v=>if 0<=k then .ok v h else .stuck
   |none=>.stuck)
  |_=>.stuck
 |_,_,_=>.stuck
def XS(op:r9)(o k e:E1):S1:=λU h=>rS U (o U h) λov h1=>rS U (k U h1) λkv J=>rS U (wx ov kv J) λx h3=>rS U (e U h3) λy h4=>rS U (mz op x y h4) λz h5=>m5 ov kv z U h5
def d0:List S1->S1|[]=>Jv|[a]=>a|a::b::r=>Jh a<|d0<|b::r
def Bh:Expr->Bool|.Tuple .. =>Zn|_=>Zj
def wy:Expr->Bool|.Tuple .. =>Zj|_=>Zn
def k8:Expr->Bool|.ListComp .. =>Zj|_=>Zn
def wz:Expr->Bool|.Subscript .. =>Zj|_=>Zn
abbrev Xi:=Str->Option (Str->Ww)
section
def Bi(S:Sc):Wx->Option (Ta)|none=>V Zg|some x=>if S.names.lookup x==V .local then(dJ x S.N).map V else Zg
def pR(S:Sc):eI->S1|.Assign [.Name x _] (.Constant c _ _) _=>(match S.gY x with|some i=>Jl i<|GS c|none=>cy)|_=>cy
def Bj(S:Sc)(m:eI->S1)(sl:Ta)(suite:Tl):S1:=match sl with|some i=>if i<S.N.length then Xo i (d0<|suite.map m)else cy|none=>d0<|suite.map<|pR S
def Bk(P:Pg)(S:Sc)(m:eI->S1):Eh->Option Gw|.ExceptHandler (V (.Name D _)) nm (b::suite) _=>if S.gl D then(match P.xi D,Bi S nm with|some g,V sl=>V (g,sl,Bj S m sl<|b::suite)|_,_=>Zg)else Zg|_=>Zg
def k9(P:Pg)(S:Sc)(m:eI->S1):Tr->Option (Tq)|[]=>V []|h::r=>match Bk P S m h,k9 P S m r with|some q,V l=>V<|q::l|_,_=>Zg
end
def pS(K:W.Frag)(mg:Str->Tb)(xi:Xi)(xf:Str->Str->Bool):Prop:=(∀D g,xi D=V g->∃v,(mg D=V v\/(mg D=Zg/\kd D=V v)) /\ ∀c C b,g c=V b->W.nsIn K Z2 c=V (V<|.ref C)->gk K C/\W.kitOne K (.ref C) v=V b/\W.exmOne K (.ref C) v=V b) /\ ∀f c C,xf f c=Zj->W.nsIn K Z2 c=V (V<|.ref C)->fJ K C f/\gk K C/\W.findIn K (.ref C) f=V Zg
section
def Bl(P:Pg)(S:Sc)(m:Expr->E1)(x:Str)(e:Expr):S1:=match P.xo x with|some f=>if S.cl&&S.gl x&&J2 e&&decide (f.np<=8)then(match f.fill S.cl 2 with|some d=>YH (λc=>c==x)<|v8 x f.run d<|cg<|[e].map m|none=>cy)else cy|none=>cy
def Bm(P:Pg)(S:Sc)(m:Expr->E1)(exc cause:Wv):S1:=match exc,cause with|some (.Call (.Name x _) [e] [] _),Zg=>Bl P S m x e|_,_=>cy
def pT(P:Pg)(S:Sc)(m mw:eI->S1)(body:Tl)(hs:Tr)(o f:Tl):S1:=match hs,o,f with|h::r,[],[]=>if S.own then(match k9 P S mw (h::r)with|some ms=>jZ (d0<|body.map m) ms|none=>cy)else cy|_,_,_=>cy
end
def Bo(P:Pg)(f:Str)(o e:E1):S1:=if P.fld f then JP f o e else v9 (P.xf f) f o e
section
def ex(P:Pg):Nat->Sc->eI->S1|0,_,_=>cy|n+1,S,st=>match st with|.Pass _=>FG|.Break _=>FH|.Continue _=>FI|.Expr e _=>if V9 e then JS (ev P n S e)else cy|.Return Zg _=>FJ|.Return (V e) _=>Jk<|ev P n S e|.If c a b _=>bg (k7 P n S c) (d0<|a.map<|ex P n S)<|d0<|b.map<|ex P n S|.While c a [] _=>Bf S.own (k7 P n S c)<|d0<|a.map<|ex P n S|.For tg it a [] _=>if XH it&&S.own then bV (rf P n S tg it) (my P n S tg) (d0<|a.map<|ex P n S)else cy|.Assign [.Name x _] e _=>if V9 e||k8 e then(match S.gY x with|some i=>Jl i<|ev P n S e|none=>cy)else cy|.Assign [.Attribute o f _] e _=>if V9 e||k8 e then Bo P f (ev P n S o) (ev P n S e)else cy|.Assign [tg] e _=>if V9 e&&((wy tg&&Bh e)||wz tg)then fG (ev P n S e) (my P n S tg)else cy|.Raise exc cause _=>Bm P S (ev P n S) exc cause|.Try body hs o f _=>pT P S (ex P n S) (ex P n {S with cl:=Zn}) body hs o f|.AugAssign (.Name x _) op e _=>(match S.gY x with|some i=>nh op i<|ev P n S e|none=>cy)|.AugAssign (.Attribute o f _) op e _=>if P.fld f then XR op f (ev P n S o) (ev P n S e)else cy|.AugAssign (.Subscript o k _) op e _=>if Xm k then XS op (ev P n S o) (ev P n S k) (ev P n S e)else cy|_=>cy
end
structure pU(B:aM)(prog:cz)(w:bL)(K:W.Frag)(mg:Str->Tb)(base:bc)(k:Nat)(f:Fn)(fa:Z8)(fd:i6)(ps:Tj):Prop where
 len:ps.length=f.np
 ok:bM prog w K mg base (eB prog w) f.cl k fa fd ps<|iQ B K ps f.run
 dv:∀j,j<=f.aU.length->∃ds,Qa K fd ps ds/\ds.length=f.aU.length-j/\∃vs,Vals vs ds/\∀Y H,aC K Y H (f.aU.drop j) vs
structure tx(B:aM)(k:Nat)(P:Pg)(prog:cz)(w:bL)(K:W.Frag)(mg:Str->Tb)(base:bc):Prop where
 fn:∀x f,P.fn x=V f->∃fa fd ps,mg x=V (.ref fa)/\W.keepIn K (.ref fa)=Zj/\pU B prog w K mg base k f fa fd ps
 cls:∀x f,P.cls x=V f->∃C fa fd ps,mg x=V (.ref C)/\B x=V C/\Mk K C fa/\pU B prog w K mg base k f fa fd ps
 eT:∀c m f,P.eT c m=V f->∃C fa fd ps,B c=V C/\l9 K C/\Meth K C m fa/\pU B prog w K mg base k f fa fd ps
 mw:∀m,P.mw m=Zj->∀c f,P.eT c m=V f->f.cl=Zn
 con:∀x v,P.con x=V v->∃u y,mg x=V u/\RelV y u/\∀Y H,RV K Y H v y
 mq:∀D g,P.mq D=V g->∃c,mg D=V c/\fH B K c λt=>match t with|.ins c=>V (g c)|.exc _=>Zg|_=>V Zn
 fld:∀f,P.fld f=Zj->Yi B K f
 free:∀x,P.free x=Zj->mg x=Zg
 blt:∀q j,P.tabs q=V j->QH mg base
 xi:pS K mg P.xi P.xf
 mu:∀x,P.mu x=Zj->∃C,mg x=V (.ref C)/\j1 K C
 xo:∀x f,P.xo x=V f->∃C fa fd ps,mg x=V (.ref C)/\W.nsIn K Z2 x=V (V<|.ref C)/\Qm K C fa=Zj/\W.keepIn K (.ref C)=Zj/\(∀h:bc,K.In h->oA h C)/\pU B prog w K mg base k f fa fd ps
 xb:∀x,P.xb x=Zj->∃C,mg x=V (.ref C)/\j2 K C
structure Good(B:aM)(k:Nat)(P:Pg)(S:Sc)(X:Cx):Prop where
 n:X.N=S.N
 sc:X.env.scope.names=S.names
 nd:S.N.Nodup
 fk:X.env.scope.kind=.function
 calm:X.calm=Zj
 room:bu S.cl (k+1) X.A
 st:S.own=Zj->∀x,X.fn x=Zj
 pg:tx B k P X.prog X.w X.K X.mg X.base
 code:S.own=Zj->W.codeIn X.K X.env.code S.q=Zj/\X.env.qual=S.q++".<locals>."
 eV:S.own=Zj->bu S.cl (k+3) X.A
 top:S.own=Zj->X.stack=X.env::X.outer/\X.env.frame=V X.env.locals
section
variable{B:aM}{k:Nat}{P:Pg}{S:Sc}{X:Cx}{α β:Type}{R:pF α β}
theorem Jn:PX B X R t (λ_ _=>.stuck):=λ_ _ _ _ _ _ _ _ _ _ K=>(K).elim
def TM(k:∀bE h,∃j,m bE h=j bE h/\PX B X R t j):PX B X R t m:=by intro O s U H Y bE h Q E N K;let#[j,e,p]:=k bE h;rw[e]at K;show p O s U H Y bE h Q E N K
theorem wC:ji B X tg e stI:=λ_ _ _ _ _ _ _ _ _ _ K=>(K).elim
theorem XJ:jh B X e mn:=λ_ _ _ _ _ _ _ _ _ _ _ _ _ K=>(K).elim
theorem JO:zY B X t cy:=λ_ _ _ _ _ _ _ _ _ _ K=>(K).elim
theorem Y3:∀{l:Tj}{i:Nat},dJ x l=V i->l[i]?=V x
 |[],_,h=>by cases h
 |y::r,i,h=>by
  unfold dJ at h;split at h
  .rename_i e;cases h;simp[beq_iff_eq.mp e]
  .let#[j,k,rfl]:=ZH.mp h;simpa using Y3 k
def Good.kind(G:Good B k P S X)(x):X.env.kindOf x=S.names.lookup x:=by change X.env.scope.names.lookup x=_;rw[G.sc]
def Good.nc(G:Good B k P S X)(h:S.nc x=V i):X.N[i]?=V x/\pq X.env.scope x/\(x==("__debug__":Str))=Zn/\(x==("__classdict__":Str))=Zn:=by
 unfold Sc.nc at h;have fin:∀{o:nN},(o=.local\/o=.cell\/o=.free)->S.names.lookup x=V o->(if (x==("__debug__":Str)||x==("__classdict__":Str))=Zj then Zg else dJ x S.N)=V i ->X.N[i]?=V x/\pq X.env.scope x/\(x==("__debug__":Str))=Zn/\(x==("__classdict__":Str))=Zn:=λho e h=>by
  split at h
  .cases h
  .rename_i hd;have j:=o2.mpr hd;rw[Bool.or_eq_false_iff]at j;calc#[by rw[G.n];show Y3 h,?_,j.1,j.2];unfold pq;rw[G.sc,e];rcases ho with rfl|rfl|rfl
   .show .inl rfl
   .show .inr<|.inl rfl
   .show .inr<|.inr rfl
 cases e:S.names.lookup x with|none=>rw[e]at h;cases h|some o=>rw[e]at h;cases o with| «local» =>show fin (.inl rfl) e h|cell=>show fin (.inr<|.inl rfl) e h|free=>show fin (.inr<|.inr rfl) e h|_=>cases h
def Good.gl(G:Good B k P S X)(h:S.gl x=Zj):Gl X x/\(x==("__debug__":Str))=Zn/\x≠"__name__":=by
 unfold Sc.gl at h;simp![Zr,beq_iff_eq,o3]at h;refine#[?_,h.1.2,λe=>?_]
 .change X.env.kindOf x=_;rw[G.kind];show h.1.1
 .lia
def Good.gY(G:Good B k P S X)(h:S.gY x=V i):X.N[i]?=V x/\Loc X.env.scope x/\(X.fn x=Zj\/X.env.scope.names.lookup x=V .local):=by
 unfold Sc.gY at h;unfold L2.Loc;rw[G.sc];cases e:S.names.lookup x with|none=>rw[e]at h;cases h|some o=>
  rw[e]at h;cases o with
  | «local» =>show#[by rw[G.n];show Y3 h,.inl rfl,.inr rfl]
  |cell=>
   dsimp only at h;split at h
   .rename_i ho;show#[by rw[G.n];show Y3 h,.inr rfl,.inl<|G.st ho x]
   .cases h
  |_=>cases h
def Good.nodup(G:Good B k P S X):X.N.Nodup:=by rw[G.n];show G.nd
theorem Good.rg(G:Good B k P S X)(h:b=Zj->S.cl=Zj):Roo b (k+1) X:=#[#[λz=>G.room.hd<|h z,G.room.dp,G.room.un],G.calm]
def Jz(h:J2 a=Zj):ZR (a::es) env=(Zn,bp a env)::ZR es env:=by cases a<;>first|rfl|cases h
theorem VB:∀{es:Td},es.all J2=Zj->(d8 pos<|ZR es env).any (·.1)=Zn|[],_=>rfl|a::es,h=>by simp![fb,Zr]at h;rw[Jz h.1];change(Zn||(d8 pos (ZR es env)).any (·.1))=Zn;rw[VB h.2]<;>rfl
theorem Bp:∀{es:Td},es.all J2=Zj->(d8 pos<|ZR es env).all (λx=>!x.1)=Zj|[],_=>rfl|a::es,h=>by simp![fb,Zr]at h;rw[Jz h.1];change(Zj&&(d8 pos<|ZR es env).all (λx=>!x.1))=Zj;rw[Bp h.2]<;>rfl
def TN(ha:es.all J2=Zj)(hn:es.length<30):((d8 pos<|ZR es env).all (λx=>!x.1)&&(nV pos<|nP [] env).all (λx=>x.1.isSome) && decide (es.length+([]:Tn).length+(if ([]:Tn).isEmpty then 0 else 1)<30))=Zj:=by change((d8 pos<|ZR es env).all (λx=>!x.1)&&Zj&&decide (es.length+0+0<30))=Zj;rw[Bp ha];simpa using hn
theorem Xv:∀(l:Tv),mX l.length (cg l)|[]=>PB|_::r=>PC<|Xv r
theorem Vb:∀{es:Td},es.all J2=Zj->(∀e,ah B X e<|f e)->dX B X es (cg<|es.map f)|[],_,_=>Vc|a::es,h,hf=>by simp![fb,Zr]at h;show Qy (hf a) (Vb h.2 hf)<|Jz h.1
theorem GX(j:∀e,ah B X e<|f e):∀(vs:Td),ah B X (.BoolOp .And vs pos) (AW<|vs.map f)|[]=>Jn|[a]=>FE<|j a|a::b::r=>Ou YN (j a)<|GX j<|b::r
theorem GY(j:∀e,ah B X e<|f e):∀(vs:Td),ah B X (.BoolOp .Or vs pos) (pO<|vs.map f)|[]=>Jn|[a]=>FE<|j a|a::b::r=>zS YN (j a)<|GY j<|b::r
theorem GZ(j:∀e,gh B X e<|f e):∀(vs:Td),mf B X (.BoolOp .And vs pos) (AX<|vs.map f)|[]=>λ_=>Jn|[a]=>Ol<|j a|a::b::r=>Oo (j a)<|GZ j<|b::r
theorem G0(j:∀e,gh B X e<|f e):∀(vs:Td),mf B X (.BoolOp .Or vs pos) (pP<|vs.map f)|[]=>λ_=>Jn|[a]=>Om<|j a|a::b::r=>Oq (j a)<|G0 j<|b::r
theorem G2:∀{es:Td},es.all J2=Zj->(∀e,jh B X e<|f e)->kN B X es (ng<|es.map f)|[],_,_=>OW|a::es,h,hf=>by simp![fb,Zr]at h;calc OX (hf a) (G2 h.2 hf) ?_;cases a<;>first|rfl|show absurd h.1 Zx
theorem G3:∀{es:Td},es.all J2=Zj->(fQ es env).length=es.length
 |[],_=>rfl
 |a::es,h=>by
  simp![fb,Zr]at h;have:fQ (a::es) env=(Zn,lR a env)::fQ es env:=by cases a<;>first|rfl|show absurd h.1 Zx
  rw[this,jJ,jJ,G3 h.2]
theorem G4:∀{es:Td},es.all J2=Zj->(fQ es env).findIdx? (·.1)=Zg
 |[],_=>rfl
 |a::es,h=>by
  simp![fb,Zr]at h;have:fQ (a::es) env=(Zn,lR a env)::fQ es env:=by cases a<;>first|rfl|show absurd h.1 Zx
  rw[this,List.findIdx?_cons,G4 h.2];rfl
def TQ(op):dz B X (fy op) (binI op):=by
 cases op with
 |Add=>show Oz
 |Sub=>show OA
 |Mult=>show Rw
 |FloorDiv=>show OE
 |Mod=>show OF
 |Pow=>show OG
 |_=>show λ_ _ _ _ _ _ _ _ _ _ _ _ _ _ _ _ K=>(K).elim
def YA(j:X.A.units+64<kE)(op):dz B X (d6 op) (fL op):=by cases op with|Lt=>show zT|LtE=>show zU|Gt=>show zV|GtE=>show zW|Eq=>show Ak j|NotEq=>show Al j|Is=>show Am|IsNot=>show PG|In=>show sU j|NotIn=>show PF j
def G5(k:X.A.units+64<kE)(j:CmpOp)(b:Expr):dz B X (d6 j) (j4 j b):=by
 unfold j4;split
 .split
  .show RA
  .show sU k
 .show YA k j
def TR(a):vL B X (A5 a):=by
 unfold A5;split
 .show Sd
 .show sX
def TU(a):vJ B X (A3 a):=by
 unfold A3;split
 .show Rz
 .show Ai
def Bq(op):vF B X (unaryOp op) (vw op):=by cases op with|Not=>show Ov YN|USub=>show OH|_=>show λ_ _ _ _ _ _ _ _ _ _ _ _ _ K=>(K).elim
def Yl(h:Vx o=Zj):qC o m env w=w:=by
 cases o with
 |Call f k j p=>
  cases f with
  |Name x q=>
   cases k with
   |nil=>cases j with|nil=>cases h|cons _ _=>rfl
   |cons _ _=>rfl
  |_=>rfl
 |_=>rfl
def Y1(h:XH e=Zj)(x):rT e env x=pure x:=by cases e<;>first|rfl|cases h
def YM(h:V9 e=Zj):nS e t l env=pure Zn:=by cases e<;>first|rfl|cases h
theorem TV(h:Xm i=Zj):Fh i:=λ_ _=>by cases i<;>first|rfl|cases h
def wD(Z:Vx o=Zj)(hs:es.all J2=Zj)(u:(ap.endLine==pos.line)=Zj)(hn:es.length<30):bp (.Call (.Attribute o m ap) es [] pos) env=(do
   let ov<-bp o env
   nX ap.atName
   let (f,first)<-jx [ov] (oZ ov m (do return(<-importBound o env).getD Zj))
   r8 pos f first (d8 pos<|ZR es env) (nV pos<|nP [] env)):=by
 have j:methodCallForm (es.length+([]:Tn).length) (d8 pos<|ZR es env) (nV pos<|nP [] env)=Zj:=by change((d8 pos<|ZR es env).all (λx=>!x.1)&&Zj&&decide (es.length+0+0<30))=Zj;rw[Bp hs];simpa using hn
 have k:methodCallPos Zj o env ap pos=pure pos:=by unfold methodCallPos;simp[u]
 rw[arm_eval_Call,Yl Z];unfold methodCall;rw[j,k];rfl
end
section
variable{B:aM}{k:Nat}{P:Pg}{S:Sc}{X:Cx}
def G7(G:Good B k P S X)(N0 l c)(js)(sc):QQ N0 l c js X.env.scope sc=QQ N0 l c js S.k6 sc:=by unfold QQ;rw[G.fk,G.sc];rfl
def Good.comp(G:Good B k P S X){sc:eL}(h:QQ S.N (V8 sc) (QK sc) (dN S sc) S.k6 sc=Zj)(C)(s)(H)(fp):Good B k P (S.comp sc) (ft X (V8 sc++QK sc) sc C s H fp):=by
 simp![QQ,Zr,decide_eq_true_eq]at h;let#[#[#[#[#[#[#[#[#[kF,kF0],kNC],kL],kFr],kFx],kJ],kLen],kNd],kLo]:=h;calc#[rfl,?_,kNd,kF,G.calm,G.room,λz=>absurd z Zx,G.pg,λz=>absurd z Zx,λz=>absurd z Zx,λz=>absurd z Zx];change(relabel sc X.env).names=_;unfold relabel Sc.comp;dsimp only;refine yr λx _=>?_
 let#[n,j]:=x;dsimp only;rw[G.fk,G.kind];simp
end
structure wF(B:aM)(k:Nat)(P:Pg)(n:Nat):Prop where
 e:∀S X e,Good B k P S X->ah B X e (ev P n S e)
 t:∀S X e,Good B k P S X->gh B X e (k7 P n S e)
 o:∀S X e,Good B k P S X->sT B X e (Bc P n S e)
 c:∀S X x args p pos,Good B k P S X->S.gl x=Zj->args.all J2=Zj->ah B X (.Call (.Name x p) args [] pos) (Be P n S x args)
 i:∀S X tg e,Good B k P S X->ji B X tg e (rf P n S tg e)
 g:∀S X e,Good B k P S X->jh B X e (my P n S e)
section
variable{B:aM}{k:Nat}{P:Pg}{n:Nat}{S:Sc}{X:Cx}
theorem TX:wF B k P 0:=#[λ_ _ _ _=>Jn,λ_ _ _ _=>Jn,λ_ _ _ _=>Jn,λ_ _ _ _ _ _ _ _ _=>Jn,λ_ _ _ _ _=>wC,λ_ _ _ _=>XJ]
def Ys{K:W.Frag}(D:pU B prog w K mg base k f fa fd ps)(h:f.fill b m=V d):(f.cl=Zj->b=Zj)/\∃ds,Qa K fd ps ds/\m+ds.length=ps.length/\∃vs,Vals vs ds/\∀Y H,aC K Y H d vs:=by
 unfold Fn.fill at h;split at h
 .rename_i j;cases h;let#[ds,Z,u,q]:=D.dv (f.aU.length-(f.np-m))<|nF _ _;show#[λz=>by simpa[z]using j.2.2,ds,Z,by rw[u,D.len];lia,q]
 .cases h
def TY(G:Good B k P S X)(L:P.fn x=V f)(I:S.gl x=Zj)(ha:args.all J2=Zj)(J:∀e,ah B X e<|g e):ah B X (.Call (.Name x p) args [] pos) (Xe S.cl f args.length<|cg<|args.map g):=by
 let#[O,Q,ps,hm,C,D]:=G.pg.fn x f L;let#[gl,m,_]:=G.gl I;unfold Xe;cases hd:f.fill S.cl args.length with|none=>show Jn|some d=>let#[u,ds,Z,E,q]:=Ys D hd;have F:=(G.rg u).mono<|fY k;cases args with|nil=>show Pl D.ok F gl hm C Z q (by simpa using E) m|cons a M=>have j:=ha;simp![fb,Zr]at j;calc Pj D.ok F gl hm C Z q (Vb ha J) (λU h xs H e=>?_) m (Jz j.1)<|VB j.2;have:=Xv _ U h xs H e;rw[Zm]at this;rw[this];show E
def TZ(G:Good B k P S X)(L:P.cls x=V f)(I:S.gl x=Zj)(ha:args.all J2=Zj)(J:∀e,ah B X e<|g e):ah B X (.Call (.Name x p) args [] pos) (wg S.cl x f args.length<|cg<|args.map g):=by
 let#[C,Q,R,ps,hm,F,M,D]:=G.pg.cls x f L;let#[gl,u,_]:=G.gl I;unfold wg;cases hd:f.fill S.cl (args.length+1)with|none=>show Jn|some d=>let#[m,ds,Z,E,q]:=Ys D hd;cases args with|nil=>show Po M D.ok F (G.rg m) gl hm Z q (by simp at E;(rw[nE];show ZQ (Zi E)<|Zi E.symm)) u|cons a O=>have j:=ha;simp![fb,Zr]at j;calc Pm M D.ok F (G.rg m) gl hm Z q (Vb ha J) (λU h xs H e=>?_) u (Jz j.1)<|VB j.2;have:=Xv _ U h xs H e;rw[Zm]at this;lia
def G8(G:Good B k P S X)(E:(S.cl||P.mw m)=Zj)(n):Ah B X m n (Qb P m n):=by
 intro c f aU h;unfold Qb at h;cases hm:P.eT c m with|none=>rw[hm]at h;cases h|some fn=>rw[hm]at h;dsimp only at h;cases hd:fn.fill Zj (n+1)with|none=>rw[hd]at h;cases h|some d=>rw[hd]at h;cases h;let#[C,H,J,ps,I,j,F,D]:=G.pg.eT c m fn hm;let#[_,ds,Z,u,q]:=Ys D hd;show#[C,H,J,_,k,ps,ds,I,j,F,D.ok,(G.rg λz=>(Bool.or_eq_true_iff.mp E).elim id λy=>by rw[G.pg.mw m y c fn hm]at z;cases z).mono<|fY k,Z,q,by(rw[oJ];show ZQ (Zi u)<|Zi u.symm)]
def T3(h:dA T m n=V g):∃id,PlainAttrs T/\Slot T m id/\lT (.builtin id)=pure (.type "method_descriptor")/\m3 B X T id g:=by
 unfold dA at h;split at h
 .rename_i hm;simp![Zr,beq_iff_eq]at hm;let#[#[rfl,rfl],_]:=hm;cases h;show#[_,u4,PySem.F.slot_list_append,PySem.F.type_list_append,P7]
 .split at h
  .rename_i hm;simp![Zr,beq_iff_eq]at hm;let#[#[rfl,rfl],_]:=hm;cases h;show#[_,u4,PySem.F.slot_list_extend,PySem.F.type_list_extend,RJ]
  .split at h
   .rename_i hm;simp![Zr,beq_iff_eq]at hm;let#[#[rfl,rfl],_]:=hm;cases h;show#[_,u4,PySem.F.slot_list_pop,PySem.F.type_list_pop,TF]
   .split at h
    .rename_i hm;simp![Zr,beq_iff_eq]at hm;let#[#[rfl,rfl],_]:=hm;cases h;show#[_,u4,PySem.F.slot_list_remove,PySem.F.type_list_remove,TG]
    .split at h
     .rename_i hm;simp![Zr,beq_iff_eq]at hm;let#[#[rfl,rfl],_]:=hm;cases h;show#[_,PySem.F.plainAttrs_str,PySem.F.slot_str_join,PySem.F.type_str_join,Ra]
     .split at h
      .rename_i hm;simp![Zr,beq_iff_eq]at hm;let#[#[rfl,rfl],_]:=hm;cases h;show#[_,PySem.F.plainAttrs_dict,Ez,PySem.F.type_dict_setdefault,Ry]
      .cases h
def T4(F:dA T m n=V g)(ho:ah B X o mo)(E:∀e,ah B X e<|f e)(ha:args.all J2=Zj)(Z:Vx o=Zj)(D:(ap.endLine==pos.line)=Zj)(hn:args.length<30):ah B X (.Call (.Attribute o m ap) args [] pos) (pJ T g mo<|cg<|args.map f):=by let#[id,C,u,ty,k]:=T3 F;cases args with|nil=>show P6 C u ty k ho (Yl Z) D|cons a G=>have j:=ha;simp![fb,Zr]at j;show Au C u ty k ho (Vb ha E) (Yl Z) (TN ha hn) D (Jz j.1)<|VB j.2
def T5(G:Good B k P S X)(C:(S.cl||P.mw m)=Zj)(ho:ah B X o mo)(D:∀e,ah B X e<|f e)(ha:args.all J2=Zj)(Z:Vx o=Zj)(u:(ap.endLine==pos.line)=Zj)(hn:args.length<30):ah B X (.Call (.Attribute o m ap) args [] pos) (Jp P m args.length mo<|cg<|args.map f):=by
 refine TM λJ h=>?_
 unfold Jp;cases e:mo J h with|exc n E=>show#[λ_ _=>.stuck,rfl,Jn]|stuck=>show#[λ_ _=>.stuck,rfl,Jn]|ok v E=>
  dsimp only;split
  .calc#[_,rfl,?_];cases args with|nil=>show Pr ho (G8 G C 0)<|wD Z ha u hn|cons a F=>have j:=ha;simp![fb,Zr]at j;calc Pq ho (G8 G C (a::F).length) (Vb ha D) (λU h xs H e=>?_) (Jz j.1) (VB j.2)<|wD Z ha u hn;have:=Xv _ U h xs H e;rwa [Zm]at this
  .cases I:dA (oB v E) m args.length with|none=>show#[λ_ _=>.stuck,rfl,Jn]|some g=>show#[_,rfl,T4 I ho D ha Z u hn]
def T6(G:Good B k P S X)(ho:ah B X o mo)(R:∀e,ah B X e<|f e)(ha:args.all J2=Zj)(Z:Vx o=Zj)(O:(ap.endLine==pos.line)=Zj)(hn:args.length<30):ah B X (.Call (.Attribute o m ap) args [] pos) (Ba P S.cl m args.length (wt P S m o) mo<|cg<|args.map f):=by
 cases I:wt P S m o with
 |none=>
  change ah B X _ (if S.cl||P.mw m then _ else _);split
  .rename_i W;show T5 G W ho R ha Z O hn
  .show Jn
 |some g=>
  cases o with
  |Name x q=>
   have u:(if m=="__init__"&&S.gl x&&P.mu x then P.cls x else Zg)=V g:=I;clear I;split at u
   .rename_i Q;simp![Zr,beq_iff_eq]at Q;let#[#[rfl,hg],hx]:=Q;let#[C,fa,fd,ps,hm,hC,M,D]:=G.pg.cls x g u;let#[C',E,bC]:=G.pg.mu x hx;rw[hm]at E;cases E;let#[gl,F,_]:=G.gl hg;change ah B X _ (if args.length=0 then bQ else Xe S.cl g args.length (cg<|args.map f));split
    .show Jn
    rename_i hz;unfold Xe;cases hd:g.fill S.cl args.length with|none=>show Jn|some d=>let#[H,ds,J,L,q]:=Ys D hd;have hr:=(G.rg H).mono<|fY k;cases args with|nil=>show absurd rfl hz|cons a es=>have j:=ha;simp![fb,Zr]at j;calc Sj D.ok hr gl hm bC M J q (Vb ha R) (λU h xs Y e=>?_) F (Jz j.1) (VB j.2)<|wD Z ha O hn;have:=Xv _ U h xs Y e;rw[Zm]at this;rw[this];show L
   .cases u
  |_=>cases I
def T7(G:Good B k P S X)(U:ah B X (.Call (.Attribute o m ap) args [] pos) e)(R:∀e,ah B X e<|f e)(ha:args.all J2=Zj)(Z:Vx o=Zj)(J:(ap.endLine==pos.line)=Zj)(hn:args.length<30):ah B X (.Call (.Attribute o m ap) args [] pos) (wu P S m args.length o (cg<|args.map f) e):=by
 unfold wu;split
 .rename_i F;cases o with
  |Name x q=>simp![A9,Zr,beq_iff_eq,decide_eq_true_eq]at F;let#[#[#[rfl,u],Y],I]:=F;let#[D,hm,L]:=G.pg.xb x Y;let#[gl,E,_]:=G.gl u;cases args with|nil=>show absurd rfl I|cons a es=>have j:=ha;simp![fb,Zr]at j;calc SG (λc C M W=>?_) gl hm L (Vb ha R) E (Jz j.1) (VB j.2)<|wD Z ha J hn;let#[g,u]:=qf.mp M;let#[C',Q,fd,ps,_,H,O,_]:=G.pg.xo c g u;rw[W]at H;cases H;show#[Q,O]
  |_=>simp[A9]at F
 .show U
def T8(G:Good B k P S X){a:Expr}{ma:E1}{y:Str}{p p2 pos:Pos}(ha:ah B X a ma)(hs:J2 a=Zj)(H:S.gl "isinstance"=Zj)(C:P.free "isinstance"=Zj)(I:S.gl y=Zj):ah B X (.Call (.Name "isinstance" p) [a,.Name y p2] [] pos) (A0 (wh P y) ma):=by
 unfold A0;cases e:wh P y with|none=>show Jn|some dH=>
  let#[m,j,u]:=G.gl I;have fin:∀{c:Zu},kT X (.Name y p2) c->fH B X.K c dH->ah B X (.Call (.Name "isinstance" p) [a,.Name y p2] [] pos) (bP dH ma):=λJ D=>
   PK J D ha (G.gl H).1 (G.pg.free _ C) rfl (Jz hs) rfl rfl
  unfold wh at e;cases E:P.mq y with|some g=>rw[E]at e;cases e;let#[c,hm,D]:=G.pg.mq y g E;show fin (F3 m hm j) D|none=>
   rw[E]at e;dsimp only at e;split at e
   .rename_i F;have hm:=G.pg.free y F;split at e
    .rename_i q;cases (beq_iff_eq.mp q);cases e;show fin (X3 m hm rfl u j) PQ
    .split at e
     .rename_i q;cases (beq_iff_eq.mp q);cases e;show fin (X3 m hm rfl u j) PL
     .split at e
      .rename_i q;cases (beq_iff_eq.mp q);cases e;show fin (X3 m hm rfl u j) PM
      .split at e
       .rename_i q;cases (beq_iff_eq.mp q);cases e;show fin (X3 m hm rfl u j) PN
       .split at e
        .rename_i q;cases (beq_iff_eq.mp q);cases e;show fin (X3 m hm rfl u j) PO
        .cases e
   .cases e
def T9(G:Good B k P S X)(ha:ah B X a ma)(hs:J2 a=Zj)(I:S.gl x=Zj)(E:P.free x=Zj)(F:AY x=Zj)(H:(S.cl||wm x [a])=Zj):ah B X (.Call (.Name x p) [a] [] pos) (aW (tq x)<|Jb ma Je):=by
 let#[m,j,C]:=G.gl I;have hm:=G.pg.free x E;have D:wm x [a]=Zn->X.A.handled=Zg:=λz=>G.room.hd<|by simpa[z]using H
 have u:dX B X [a] (Jb ma Je):=Qy ha Vc<|Jz hs;unfold AY at F;simp![lW,beq_iff_eq]at F;rcases F with((((rfl|rfl)|rfl)|rfl)|rfl)|rfl
 .show V3 PA m hm rfl u C j (Jz hs) rfl
 .show V3 (P5<|D rfl) m hm rfl u C j (Jz hs) rfl
 .show V3 (Rb<|D rfl) m hm rfl u C j (Jz hs) rfl
 .show V3 RE m hm rfl u C j (Jz hs) rfl
 .show V3 (RG<|D rfl) m hm rfl u C j (Jz hs) rfl
 .show V3 (Sh G.calm) m hm rfl u C j (Jz hs) rfl
def Ub(G:Good B k P S X)(ha:ah B X a ma)(hs:J2 a=Zj)(F:S.gl x=Zj)(D:P.free x=Zj)(E:AZ x=Zj):ah B X (.Call (.Name x p) [a] [] pos) (aW (tu x)<|Jb ma Je):=by
 let#[m,j,C]:=G.gl F;have hm:=G.pg.free x D;have u:dX B X [a] (Jb ma Je):=Qy ha Vc<|Jz hs;unfold AZ at E;simp![lW,beq_iff_eq]at E;rcases E with((rfl|rfl)|rfl)|rfl
 .show vM P0 m hm rfl u C j (Jz hs) rfl
 .show vM P1 m hm rfl u C j (Jz hs) rfl
 .show vM Sk m hm rfl u C j (Jz hs) rfl
 .show vM P2 m hm rfl u C j (Jz hs) rfl
def Uc(G:Good B k P S X)(u:∀e,ah B X e<|f e)(E:S.gl x=Zj)(ha:args.all J2=Zj)(m:P.free x=Zj)(L:(S.cl||wm x args)=Zj):
  ah B X (.Call (.Name x p) args [] pos) (A6 P S x f args):=by
 unfold A6;split
 .rename_i a b;simp![fb,Zr]at ha;let#[J,C,I]:=G.gl E;have hm:=G.pg.free x m;have O:dX B X [a,b] (Jb (f a)<|Jb (f b) Je):=Qy (u a) (Qy (u b) Vc<|Jz ha.2.1)<|Jz ha.1;have Q:∀pos,(d8 pos<|ZR [b] X.env).any (·.1)=Zn:=λpos=>VB<|by simp[ha.2.1]
  split
  .rename_i D;cases (beq_iff_eq.mp D);show V3 (P8 G.calm) J hm rfl O I C (Jz ha.1) (Q _)
  .split
   .rename_i D;cases (beq_iff_eq.mp D);show V3 (P9 G.calm) J hm rfl O I C (Jz ha.1) (Q _)
   .split
    .rename_i y U _;split
     .rename_i D;simp![Zr,beq_iff_eq]at D;let#[rfl,R]:=D;show T8 G (u a) ha.1 E m R
     .show Jn
    .show Jn
 .rename_i a b c d;simp![fb,Zr]at ha;split
  .rename_i D;cases (beq_iff_eq.mp D);let#[J,C,I]:=G.gl E;show V3 (Si G.calm) J (G.pg.free _ m) rfl (Qy (u a) (Qy (u b) (Qy (u c) (Qy (u d) Vc<|Jz ha.2.2.2.1)<|Jz ha.2.2.1)<|Jz ha.2.1)<|Jz ha.1) I C (Jz ha.1) (VB<|by simp[ha.2.1,ha.2.2.1,ha.2.2.2.1])
  .show Jn
 .rename_i a;simp![fb,Zr]at ha;split
  .rename_i e j;split at j
   .rename_i F;simp![Zr,beq_iff_eq]at F;let#[#[rfl,g2],M]:=F;unfold GV at j;split at j
    .split at j
     .rename_i H;simp![Zr,beq_iff_eq]at H;let#[rfl,ns]:=H;cases j;show Rr (G.room.hd<|(Bool.or_eq_true_iff.mp L).resolve_right Zx) (G.gl E).1 (G.pg.free _ m) (G.gl g2).1 (G.pg.free _ M) (Qy (u e) Vc<|Jz ns) (Jz ns)
     .cases j
    .cases j
   .cases j
  .split
   .rename_i e j;split at j
    .rename_i F;simp![Zr,beq_iff_eq]at F;let#[#[rfl,g2],M]:=F;unfold wi at j;split at j
     .split at j
      .rename_i H;simp![Zr,beq_iff_eq]at H;let#[rfl,ns]:=H;cases j;show Jn
      .cases j
     .cases j
    .cases j
   .split
    .rename_i Z;show T9 G (u a) ha.1 E m Z L
    .split
     .rename_i Z;show Ub G (u a) ha.1 E m Z
     .show Jn
 .show Jn
def Ud(G:Good B k P S X)(u:∀e,ah B X e<|f e)(C:S.gl x=Zj)(ha:args.all J2=Zj)(j:P.free x=Zj):ah B X (.Call (.Name x p) args [] pos) (wq P S x f args):=by
 unfold wq;split
 .show Jn
 rename_i m;rw[Bool.not_eq_false]at m;show Uc G u C ha j m
def QD.of(G:Good B k P S X)(h:QD S y sc=Zj):iz X.N X.env.scope.names y (QK sc) (dN S sc) sc:=by rw[G.n,G.sc];simp![QD,Zr,beq_iff_eq,o3,decide_eq_true_eq,mG,lW,beq_eq_false_iff_ne]at h;let#[#[#[#[#[#[#[h1,J],h3],h4],h5],h6],h7],h8]:=h;calc#[h1,J,h3,h4,h5,λz C e=>(h6 z C).resolve_left λq=>q e,λz e=>jL e,λi j z m u=>?_,by simp[dN],h8];unfold dN at m;rw[ZK,u]at m;cases m;show h7 z<|oP u
def Good.lam(G:Good B k P S X)(ho:S.own=Zj){sc:eL}(h:QD S y sc=Zj)(f)(cd)(s)(H):Good B k P (S.lam y sc) (mj X X.A.in1 (y::QK sc) S.q sc f cd s H):=by have L:=QD.of G h;show#[rfl,rfl,L.nd,L.kind,rfl,(G.eV ho).in1.deeper _,λz=>absurd z Zx,G.pg,λz=>absurd z Zx,λz=>absurd z Zx,λz=>absurd z Zx]
def Good.Br(G:Good B k P S X)(ho:S.own=Zj){sc:eL}(h:QD S y sc=Zj)(f)(cd)(s)(H):Good B k P (S.lam y sc) (mj X X.A.in1.in1 (y::QK sc) S.q sc f cd s H):=by
 have L:=QD.of G h;have R:=G.eV ho;refine#[rfl,rfl,L.nd,L.kind,rfl,#[R.hd,?_,?_],λz=>absurd z Zx,G.pg,λz=>absurd z Zx,λz=>absurd z Zx,λz=>absurd z Zx]
 .have:=R.dp;change X.A.depth+1+3*(k+1)+5<_;lia
 .have:=R.un;change X.A.units+1+1+3+16*(k+1)+200<_;lia
def Ue(G:Good B k P S X)(u:S.cl=Zj)(C:∀S X e,Good B k P S X->ah B X e (f S e)):ah B X (.Call (.Name x p) [a] [#[V y,.Lambda ps body sc lp,kp],#[V y2,d,kp2]] pos) (A7 P S f x a y ps body sc y2 d):=by
 unfold A7;split
 .rename_i e z j m I F;split
  .rename_i D;simp![Zr,beq_iff_eq]at D;let#[#[#[#[#[#[#[#[#[rfl,rfl],rfl],ht],g1],f1],g2],f2],ho],ok]:=D;unfold wi at m;unfold GW at ht;split at m
   .split at m
    .rename_i E;simp![Zr,beq_iff_eq]at E;let#[rfl,ns]:=E;cases m;split at ht
     .show TJ (k:=k) (G.room.hd u) (G.gl g1).1 (G.pg.free _ f1) (G.gl g2).1 (G.pg.free _ f2) (Qy (C _ _ _ G) Vc<|Jz ns) (Jz ns) (G.room.hd u) (G.eV ho) (G.code ho).1 (G.code ho).2 (G.pg.blt _ _ F) I (QD.of G ok) λf cd J H=>C _ _ _<|G.Br ho ok f cd J H
     .cases ht
    .cases m
   .cases m
  .show Jn
 .show Jn
def Uh(G:Good B k P S X)(u:∀S X e,Good B k P S X->ah B X e (f S e)):ah B X (.Call (.Name x p) [a] [#[V y,d,kp]] pos) (tw P S f x a y d):=by
 cases d with
 |Lambda ps m sc lp=>
  change ah B X _ (match QT ps,P.tabs S.q with|some z,V j=>if x=="min"&&y=="key"&&S.gl x&&P.free x&&J2 a&&S.own&&QD S z sc then X7 jG S.q j (dN S sc) (Jb (f S a) Je) (f (S.lam z sc) m)else bQ|_,_=>bQ);cases F:QT ps with|none=>show Jn|some z=>
   cases D:P.tabs S.q with|none=>show Jn|some j=>
    dsimp only;split
    .rename_i C;simp![Zr,beq_iff_eq]at C;let#[#[#[#[#[#[rfl,rfl],g1],f1],ns],ho],ok]:=C;show SW (k:=k+1) (G.gl g1).1 (G.pg.free _ f1) (Qy (u _ _ _ G) Vc<|Jz ns) (λA h=>S2<|kr (Zk _ _) 06) (Jz ns) #[G.eV ho,G.calm] (G.code ho).1 (G.code ho).2 (G.pg.blt _ _ D) F (QD.of G ok) λf cd H E=>u _ _ _<|G.lam ho ok f cd H E
    .show Jn
 |_=>show Jn
def Ui(G:Good B k P S X)(m:∀S X e,Good B k P S X->ah B X e (f S e)):ah B X (.Call (.Name x p) args kws pos) (A8 P S f x args kws):=by
 unfold A8;split
 .split
  .rename_i u;simp![Zr,beq_iff_eq]at u;let#[#[#[#[rfl,rfl],g1],f1],ns]:=u;show Rl G.calm (G.gl g1).1 (G.pg.free _ f1) (Qy (m _ _ _ G) Vc<|Jz ns) (m _ _ _ G) (Jz ns)
  .show Uh G m
 .split
  .split
   .rename_i C;show Ue G C m
   .show Jn
  split
  .rename_i y j F D;split
   .rename_i u;simp![Zr,beq_iff_eq]at u;let#[#[#[#[#[#[#[rfl,rfl],rfl],g1],f1],ns],ho],ok]:=u;show R7 (k:=k+1) (G.gl g1).1 (G.pg.free _ f1) (Qy (m _ _ _ G) Vc<|Jz ns) (m _ _ _ G) (Jz ns) #[G.eV ho,G.calm] (G.code ho).1 (G.code ho).2 (G.pg.blt _ _ D) F (QD.of G ok) λf cd H E=>m _ _ _<|G.lam ho ok f cd H E
   .show Jn
  .show Jn
 .show Jn
def Uj(I:wF B k P n):wF B k P (n+1):=by
 refine#[λS X e G=>?_,λS X e G=>?_,λS X e G=>?_,λS X x E p pos G R ha=>?_,λS X tg e G=>?_,λS X e G=>?_]
 .have D:=λe=>I.e S X e G
  have U:=G.room.units;cases e with
  |Constant c j p=>cases c with|int i=>show Fz|bool b=>show sS|none=>show FA|str x=>show FC|_=>show Jn
  |Name x p=>
   change ah B X (.Name x p) (match S.nc x with|some i=>Ja i|none=>if S.gl x then(match P.con x with|some v=>eC v|none=>bQ)else bQ);cases hv:S.nc x with|some i=>let#[h1,J,h3,h4]:=G.nc hv;show Of i h1 J h3 h4|none=>
    dsimp only;split
    .rename_i R;let#[gx,xdb,_]:=G.gl R;cases Y:P.con x with|none=>show Jn|some v=>let#[u,y,hm,r,q]:=G.pg.con x v Y;show Og gx hm r q xdb
    .show Jn
  |BinOp a Q b p=>show Oh (TQ Q) (D a)<|D b
  |UnaryOp Q a p=>show zR (Bq Q)<|D a
  |BoolOp Q vs p=>cases Q with|And=>show GX D vs|Or=>show GY D vs
  |IfExp t a b p=>show Ow (I.t S X t G) (D a)<|D b
  |Compare a ops cs p=>
   match ops,cs with
   |[o],[b]=>
    change ah B X _ (if qD o b then bQ else Jc (j4 o b) (ev P n S a) (ev P n S b));split
    .show Jn
    .rename_i Z;show Oi (G5 U o b) (D a) (D b)<|o2.mpr Z
   |[o,o'],[b,c]=>
    change ah B X _ (if qI [o,o'] [b,c]then bQ else JK (fL o) (fL o') (ev P n S a) (ev P n S b) (ev P n S c));split
    .show Jn
    .rename_i Z;show Ox (YA U o) (YA U o') (D a) (D b) (D c)<|o2.mpr Z
   |[],_=>show Jn
   |[_],[]=>show Jn
   |[_],_::_::_=>show Jn
   |[_,_],[]=>show Jn
   |[_,_],[_]=>show Jn
   |[_,_],_::_::_::_=>show Jn
   |_::_::_::_,_=>show Jn
  |JoinedStr L p=>match L with|a::b::r=>show Sm D|[]=>show Jn|[_]=>show Jn
  |FormattedValue a c sp p=>
   cases sp with
   |none=>
    change ah B X _ (if c=-1 then jg eS (ev P n S a)else bQ);split
    .rename_i Y;subst Y;show Sl<|D a
    .show Jn
   |some _=>show Jn
  |Tuple L j p=>
   change ah B X _ (if L.all J2 then bN (cg<|L.map<|ev P n S)else bQ);split
   .rename_i F;show OI<|Vb F D
   .show Jn
  |List L p=>
   change ah B X _ (if L.all J2 then J9 (cg<|L.map<|ev P n S)else bQ);split
   .rename_i F;show OJ<|Vb F D
   .show Jn
  |Dict ks vs p=>match ks,vs with|[V k],[v]=>show Jn|[],[]=>show Rx|[],_::_=>show Jn|[Zg],_=>show Jn|[V _],[]=>show Jn|[V _],_::_::_=>show Jn|some _::_::_,_=>show Jn|none::_::_,_=>show Jn
  |Subscript a i p=>
   cases i with
   |Slice lo hi st q=>cases st with|none=>show Pz (TR a) (D a) (I.o S X lo G)<|I.o S X hi G|some st=>show Jn
   |_=>show Aj (TU a) (D a) (D _)<|TV rfl
  |Attribute o f p=>
   change ah B X _ (if Vx o then(if P.fld f then Jq f (ev P n S o)else Yv (P.xf f) f (ev P n S o))else bQ);split
   .rename_i F;split
    .rename_i hf;show Pt (D o) (G.pg.fld f hf)<|Yl F
    .show SS (D o) (λc C Y hC=>(G.pg.xi.2 f c C Y hC).2)<|Yl F
   .show Jn
  |Call f E O p=>
   cases O with
   |cons kw O=>cases f with|Name x q=>show Ui G λS X e G=>I.e S X e G|_=>show Jn
   |nil=>
    cases f with
    |Name x q=>
     change ah B X _ (if S.gl x&&E.all J2 then Be P n S x E else bQ);split
     .rename_i F;simp![Zr]at F;show I.c S X x E q p G F.1 F.2
     .show Jn
    |Attribute o m ap=>
     change ah B X _ (if E.all J2&&Vx o&&(ap.endLine==p.line)&&decide (E.length<30)then wu P S m E.length o (cg<|E.map<|ev P n S) (Ba P S.cl m E.length (wt P S m o) (ev P n S o)<|cg<|E.map<|ev P n S)else bQ);split
     .rename_i F;simp![Zr,decide_eq_true_eq]at F;show T7 G (T6 G (D o) D F.1.1.1 F.1.1.2 F.1.2 F.2) D F.1.1.1 F.1.1.2 F.1.2 F.2
     .show Jn
    |_=>show Jn
  |ListComp elt gens sc p=>
   match gens with
   |[⟨tg,iter,ifs,as⟩]=>
    change ah B X _ (if as=0/\XH iter=Zj/\QQ S.N (V8 sc) (QK sc) (dN S sc) S.k6 sc=Zj then
     Bb ifs (k7 P n<|S.comp sc) (λmt=>Jy (rf P n S tg iter) (V8 sc).length (dN S sc) (my P n (S.comp sc) tg) mt<|ev P n (S.comp sc) elt)else bQ)
    split
    .rename_i F;let#[rfl,hi,ok]:=F;have Gc:=G.comp ok;have W:=ok;rw[<-G7 G]at W;match ifs with|[]=>show Ge G.calm (I.i S X tg iter G) (λC s H M=>I.g _ _ tg<|Gc C s H M) (λC s H M=>F6) (λC s H M=>I.e _ _ elt<|Gc C s H M) W G.n rfl (Y1 hi)|[c]=>show Ge G.calm (I.i S X tg iter G) (λC s H M=>I.g _ _ tg<|Gc C s H M) (λC s H M=>F9<|I.t _ _ c<|Gc C s H M) (λC s H M=>I.e _ _ elt<|Gc C s H M) W G.n rfl (Y1 hi)|_::_::_=>show Jn
    .show Jn
   |[]=>show Jn
   |⟨_,_,_,_⟩::_::_=>show Jn
  |_=>show Jn
 .have D:=λe=>I.e S X e G
  have U:=G.room.units;cases e with
  |UnaryOp Q a p=>cases Q with|Not=>show Ot<|I.t S X a G|_=>show FD YN<|D _
  |BoolOp Q vs p=>cases Q with|And=>show(GZ (λe=>I.t S X e G) vs).t|Or=>show(G0 (λe=>I.t S X e G) vs).t
  |IfExp t a b p=>show Jn
  |Compare a ops cs p=>
   match ops,cs with
   |[o],[b]=>
    change gh B X _ (if qD o b then k4 else Ji aR (Jc (j4 o b) (ev P n S a)<|ev P n S b));split
    .show Jn
    .rename_i Z;show Oj (G5 U o b) (D a) (D b)<|o2.mpr Z
   |[o,o'],[b,c]=>
    change gh B X _ (if qI [o,o'] [b,c]then k4 else Ji aR (JK (fL o) (fL o') (ev P n S a) (ev P n S b)<|ev P n S c));split
    .show Jn
    .rename_i Z;show Oy (YA U o) (YA U o') (D a) (D b) (D c)<|o2.mpr Z
   |[],_=>show Jn
   |[_],[]=>show Jn
   |[_],_::_::_=>show Jn
   |[_,_],[]=>show Jn
   |[_,_],[_]=>show Jn
   |[_,_],_::_::_::_=>show Jn
   |_::_::_::_,_=>show Jn
  |_=>show FD YN<|D _
 .cases e with|none=>show Px|some e=>show Py<|I.e S X e G
 .have D:=λe=>I.e S X e G
  change ah B X _ (match P.fn x with|some f=>Xe S.cl f E.length<|cg<|E.map<|ev P n S|none=>match P.cls x with|some f=>wg S.cl x f E.length<|cg<|E.map<|ev P n S|none=>if P.free x then wq P S x (ev P n S) E else bQ);cases hx:P.fn x with|some f=>show TY G hx R ha D|none=>
   dsimp only;cases Y:P.cls x with|some f=>show TZ G Y R ha D|none=>
    dsimp only;split
    .rename_i hfr;show Ud G D R ha hfr
    .show Jn
 .have D:=λe=>I.e S X e G
  cases e with
  |Call f E O p=>
   cases O with|cons _ _=>cases f<;>show vX<|D _|nil=>
    cases f with
    |Name x q=>
     change ji B X tg _ (if S.gl x&&P.free x&&E.all J2&&(x=="range")then GU E.length (cg<|E.map<|ev P n S)
      else if S.gl x&&P.free x&&E.all J2&&(x=="enumerate")then(match tg,E with|.Tuple ..,[a]=>c4 V5<|Jb (ev P n S a) Je|_,_=>stI)
      else Jw (ev P n S<|.Call (.Name x q) E [] p))
     split
     .rename_i F;simp![Zr,beq_iff_eq]at F;let#[#[#[R,hf],ha],rfl]:=F;let#[gx,_,_]:=G.gl R;have hm:=G.pg.free _ hf;have pa:=Vb ha D;match E,ha,pa with|[],_,_=>show wC|[a],ha,pa=>simp![fb,Zr]at ha;show Pb gx hm pa<|Jz ha.1|[a,b],ha,pa=>simp![fb,Zr]at ha;show Pc gx hm pa (by rw[Jz ha.1,Jz ha.2.1];rfl)<|Jz ha.2.1|_::_::_::_,_,_=>show wC
     .split
      .rename_i F;simp![Zr,beq_iff_eq]at F;let#[#[#[R,hf],ha],rfl]:=F;let#[gx,_,_]:=G.gl R;have hm:=G.pg.free _ hf;split
       .simp only[fb,Zr]at ha;show RS gx hm (Qy (D _) Vc<|Jz ha.1)<|Jz ha.1
       .show wC
      .show vX<|D _
    |_=>show vX<|D _
  |_=>show vX<|D _
 .cases e with
  |Name x p=>change jh B X _ (match S.gY x with|some i=>aV i|none=>mn);cases hv:S.gY x with|none=>show XJ|some i=>let#[h1,J,h3]:=G.gY hv;show z9 G.nodup h1 J h3
  |Tuple L j p=>
   change jh B X _ (if L.all J2 then jV L.length (ng<|L.map<|my P n S)else mn);split
   .rename_i F;show OY G.calm (G2 F λe=>I.g S X e G) (G3 F)<|G4 F
   .show XJ
  |Subscript o i p=>
   change jh B X _ (if Xm i then pQ o (ev P n S o) (ev P n S i)else mn);split
   .rename_i F;unfold pQ;split
    .refine RC (I.e S X o G) (I.e S X i G) λv=>?_
     cases i<;>first|rfl|cases F
    .show XJ
   .show XJ
  |_=>show XJ
theorem wG(B)(k)(P):∀n,wF B k P n|0=>TX|n+1=>Uj<|wG B k P n
end
section
variable{B:aM}{X:Cx}{pos:Pos}
def Ul{mt:T1}(hst:X.stack=X.env::X.outer)(hf:X.env.frame=V X.env.locals)(hc:gh B X c mt)(Z:jD B X body mb):cK B X (.While c body [] pos) (VR mt mb):=by
 intro O s U H Y bE h Q E N K;rw[TL]at K;generalize XY=m0 at K;calc wpAny_While<|codeAny_whileLoop (λn s'=>∃Pk Uk hk U' H',aA B X O Pk Uk hk U' H' s'/\a9 Y H Pk H'/\JF B X O Pk H' (VY mt mb n Uk hk) Q E) ?_ m0 #[Y,bE,h,U,H,N,.refl,K];rintro n s1 ⟨W1,F,h1,U1,H1,N1,n1,j⟩;cases n with|zero=>show(j).elim|succ n=>
  unfold VY at j;calc mW<|hc O s1 U1 H1 W1 F h1 _ (λ_ _=>False) N1 ?_;cases et:mt F h1 with|exc m J=>rw[et]at j;show(j).elim|stuck=>rw[et]at j;show(j).elim|ok b J=>
   rw[et]at j;intro b' s2 H2 U2 N2 n2 r2;have r':b'=b:=r2;subst r';dsimp only at j;cases b' with|false=>show rX<|j s2 U1 H2 U2 N2 n2|true=>
    rw[if_pos rfl];rw[if_pos rfl]at j;calc Z O s2 U1 H2 U2 F J _ _ N2 ?_;cases R:mb F J with
    |next S P=>rw[R]at j;show λs3 k I L M D=>#[n,ZS n,L,S,P,k,I,M,(n1.trans n2).trans D,JF.mono j<|n2.trans D]
    |cont S P=>rw[R]at j;show λs3 k I L M D=>#[n,ZS n,L,S,P,k,I,M,(n1.trans n2).trans D,JF.mono j<|n2.trans D]
    |brk S P=>rw[R]at j;show λs3 k I L M D=>j s3 k I L M<|n2.trans D
    |ret v P=>rw[R]at j;show λu s3 U3i k I L M D r=>j u s3 U3i k I L M (n2.trans D) r
    |exc m S P=>
     rw[R]at j;dsimp only at j;cases hj:P[m]? with|none=>rw[hj]at j;show(j).elim|some ob=>
      cases ob with
      |exc c fs=>
       rw[hj]at j;intro pl a s7 W7 H7 U7 N7 n7 q s8 fl;let#[C,tv,d,fe,hC,ha,ht]:=N7.rel.get hj q;have G:∀W,eA X.env.locals (dQ X.stack) a s7.heap W->cameBackBy (Z5 X.prog X.w) X.A X.env E (.ref a) {s7 with heap:=W}:=λW n8=>
        FN hf n8 λh9 n9=>j pl a s7 W7 H7 U7 N7 (n2.trans n7) q _<|.inr #[h9,rfl,n9]
       rcases fl with rfl|⟨W,rfl,n8⟩
       .show Ab N7.inv hst hf ha ht G
       .show Ac hf n8<|G W n8
      |_=>rw[hj]at j;show(j).elim
    |stuck=>rw[R]at j;show(j).elim
def Um(no:¬ ∃i j,op=.Add/\x=.int i/\y=.int j):mz op x y h=.stuck:=by
 unfold mz;split
 .simp_all
 .rfl
def pV(op):dz B X (inplaceOp op) (mz op):=by
 intro O s U H Y J h x y v u Q E N m k K;by_cases c:∃i j,op=.Add/\x=.int i/\y=.int j
 .let#[i,j,rfl,rfl,rfl]:=c;let#[G,m,C]:=m;let#[I,k,D]:=k;cases (C);cases (D);let#[t,rfl]:=m;let#[F,rfl]:=k;show iadd_int<|K _ _ H Y #[N.inv.tok _,N.rel,N.st] .refl #[.int<|i+j,#[_,rfl],rfl]
 .rw[Um c]at K;show(K).elim
def Uo(R:X.N.Nodup)(he:ah B X e me)(hi:X.N[i]?=V x)(F:Loc X.env.scope x)(hf:X.fn x=Zj\/X.env.scope.names.lookup x=V .local):cK B X (.AugAssign (.Name x pos') op e pos) (nh op i me):=by
 intro O s U H Y G h Q E N K;calc wpAny_AugAssign_Name ?_;unfold nh at K;cases ev:Ja i G h with|exc n M=>exfalso;unfold Ja at ev;split at ev<;>cases ev|stuck=>rw[ev]at K;show(K).elim|ok v M=>
  rw[ev]at K;obtain⟨e1,rfl⟩:G[i]?=V (V v)/\M=h:=by
   unfold Ja at ev;split at ev
   .rename_i q;cases ev;show#[q,rfl]
   .cases ev
  let#[w,P,qw]:=N.st.at_ i v e1;let#[m,hn,Z]:=N.inv.loc;have nc:pq X.env.scope x:=by rcases F with k|k;show .inl k;show .inr (.inl k)
  let#[u,r,l]:=Z i x w hi P nc;have go:Zz (Z5 X.prog X.w) X.A (bp e X.env) (λw s₂=>Zz (Z5 X.prog X.w) X.A (inplaceOp op u w) (λr s₃=>Zz (Z5 X.prog X.w) X.A (storeName X.env x r) (λ_=>Q .next) E s₃) E s₂) E s:=by
   refine cV he N K λy J uy S W U2 N2 n2 r2 C=>?_
   calc pV op O S U W U2 G J v y u uy _ E N2 #[w,r,RV.mono n2 _ _ qw] r2 ?_;cases I:mz op v y J with|exc n h3=>rw[I]at C;show λpl a L H' Y' N' n' q=>C pl a L U H' Y' N' n' q L<|.inl rfl|stuck=>rw[I]at C;show C|ok z h3=>rw[I]at C;intro uz s3 H3 U3 D n3 r3;let#[zv,rz,qz]:=r3;show YK D.inv R hi F rz (λs4 I4=>C s4 _ H3 U3 #[I4,D.rel,D.st.set i qz] n3) hf
  rcases l with⟨j,hm⟩|⟨j,c,hc,hcell⟩
  .show wpAny_loadName_local N.inv.ok.kind j hn hm go
  .rcases j with j|j
   .show wpAny_loadName_cell N.inv.ok.kind j hc hcell go
   .rcases F with k|k
    .have:X.env.scope.names.lookup x=V .free:=j;rw[k]at this;cases this
    .have:X.env.scope.names.lookup x=V .free:=j;rw[k]at this;cases this
def Up(ho:ah B X o mo)(he:ah B X e me)(hf:Yi B X.K fl):cK B X (.AugAssign (.Attribute o fl tpos) op e pos) (XR op fl mo me):=by
 intro O s U H Y bE h Q E N K;refine wpAny_AugAssign_AttributeAny<|cV ho N K λov h1 w s1 H1 W1 J n1 r1 k=>?_
 cases ov with
 |ref i=>
  let#[w,rw',a,e1,hi]:=r1;subst e1;cases rw';dsimp only at k;cases M:h1[i]? with|none=>rw[M]at k;show(k).elim|some ob=>
   cases ob with
   |ins c fs=>
    rw[M]at k;dsimp only at k;cases hl:fs.lookup fl with|none=>rw[hl]at k;show(k).elim|some x=>
     rw[hl]at k;let#[C,dx,vs,hC,hH,rp]:=J.at M hi;let#[cl,na]:=hf c C hC;let#[y,hy,q]:=(b9.lookup rp).1 x hl;refine E2 J.inv hH cl na hy λu' s2 I2 ru=>?_
     refine cV he (#[I2,J.rel,J.st]:aA B X O W1 bE h1 U H1 s2) k λz h3 uz s3 H3 U3 N3 n3 r3 j=>?_
     calc pV op O s3 U H3 U3 bE h3 x z u' uz _ E N3 #[y,ru,RV.mono n3 _ _ q] r3 ?_;cases ez:mz op x z h3 with|exc n h4=>rw[ez]at j;show λpl a s' H' Y' N' n' q=>j pl a s' U H' Y' N' n' q s'<|.inl rfl|stuck=>rw[ez]at j;show j|ok v h4=>
      rw[ez]at j;intro uv s4 H4 U4 L n4 r4;dsimp only[rS]at j;have D:=n4.at<|n3.at hi;cases u:h4[i]? with|none=>rw[u]at j;show(j).elim|some ob=>
       cases ob with
       |ins c' gs=>
        rw[u]at j;dsimp only at j;split at j
        .rename_i hz;let#[W,F,S,I,m,G]:=L.at u D;let#[cl',R]:=hf c' W I;let#[yv,Z,qv]:=r4;refine E4 L.inv m cl' R (by rw[G.length];show hz) Z λs5 I5=>?_
         have P:a9 U4 H4 U4 (upd H4 a<|.ins W F<|cQ fl yv S):=#[#[[],03],Ext.cH m<|by rw[m];show eP];let#[R5,_]:=L.rel.write (io:=.ins c'<|bz fl v gs) D m (by rw[m];show eP) #[W,F,_,I,J0,b9.put (RV.mono P _ _ qv)<|b9.mono P _ _ G];show j s5 U _ U4 #[I5,R5,L.st.mono P]<|n4.trans P
        .show(j).elim
       |_=>rw[u]at j;show(j).elim
   |_=>rw[M]at k;show(k).elim
 |_=>show(k).elim
def Uq:dz B X lQ wx:=by
 intro O s U H Y bE h x y v u Q E N G F K;let#[xv,G,L]:=G;let#[yv,F,S]:=F;cases x with
 |ref i=>
  cases y with
  |int k=>
   let#[a,rfl,ha]:=L;cases (S);cases G;let#[t,rfl]:=F;dsimp only[wx]at K;cases C:h[i]? with|none=>rw[C]at K;show(K).elim|some ob=>
    rw[C]at K;cases ob with
    |lst xs=>
     dsimp only at K;cases m:a7 xs k with|none=>rw[m]at K;show(K).elim|some z=>
      rw[m]at K;dsimp only at K;split at K
      .rename_i I;let#[vs,Z,W]:=N.at C ha;let#[w,J,R]:=vI W m;let#[P,r,pl,hz]:=N.inv.list<|cf.of Z;let#[j,g1,g2,g3,g4,M]:=vA J;let#[w',ew,D]:=r.get g2;have hn:=Xl;have hj:k.toNat=j:=by rw[uL I M]at g1;show hV g1
       show wpAny_getItem_list pl.isList I 05 (by simp_all)<|K _ _ H Y N .refl #[w,D,R]
      .show(K).elim
    |_=>show(K).elim
  |_=>show(K).elim
 |_=>cases y<;>show(K).elim
def G9(p:dz B X f g)(N:aA B X O Y bE h U H s)(J:RU X.K Y H x v)(L:RU X.K Y H y u) (K:JF B X O Y H (rS bE (g x y h) k) Q E) (step:∀z h1 w s1 H1 j,aA B X O j bE h1 U H1 s1->a9 Y H j H1->RU X.K j H1 z w->JF B X O j H1 (k z h1) Q E->Q1 w s1):Zz (Z5 X.prog X.w) X.A (f v u) Q1 E s:=by calc p O s U H Y bE h x y v u Q1 E N J L ?_;cases e:g x y h with|ok z I=>rw[e]at K;show λw m D G F C r=>step z I w m D G F C r<|JF.mono K C|exc n I=>rw[e]at K;show λpl a m D G F C q=>K pl a m U D G F C q m<|.inl rfl|stuck=>rw[e]at K;show K
def Ur(N:aA B X O Y bE h U H s)(P:RU X.K Y H o ou)(L:RU X.K Y H i iu)(S:RU X.K Y H v u) (K:JF B X O Y H (m5 o i v bE h) Q E):Zz (Z5 X.prog X.w) X.A (setItem ou iu u) (λ_=>Q .next) E s:=by
 let#[ox,P,qo]:=P;let#[ix,L,qi]:=L;let#[J,I,qv]:=S;cases o with
 |ref i=>
  rename_i iv;cases iv with
  |int k=>
   let#[a,rfl,D]:=qo;cases (qi);dsimp only[m5]at K;cases F:h[i]? with|none=>rw[F]at K;show(K).elim|some ob=>
    rw[F]at K;cases ob with
    |lst xs=>
     dsimp only at K;cases G:jS xs.length k with|none=>rw[G]at K;show(K).elim|some j=>
      rw[G]at K;let#[M,m,C]:=N.at F D;refine dm (NM (X:=X.bq E) O s U H (.ref a) (.int k) J ou iu u (λR=>R=upd H a (.lst<|M.set j J)) (N.inv.bq E) P L I #[a,M,k,j,rfl,rfl,m,by rw[C.length];show G,rfl]) (λ_ Z hq=>?_) λ_ _ z=>z
      let#[R,W,rfl]:=hq;have n:a9 Y H Y (upd H a<|.lst<|M.set j J):=#[#[[],03],Ext.cH m<|by rw[m];show eP];let#[R3,_]:=N.rel.write (io:=.lst<|xs.set j v) D m (by rw[m];show eP) #[_,J0,(aC.mono n _ _ C).set (RV.mono n _ _ qv) j];show K Z U _ Y #[W.bx,R3,N.st.mono n] n
    |_=>show(K).elim
  |_=>show(K).elim
 |_=>cases i<;>show(K).elim
def Us(ho:ah B X o mo)(hi:ah B X i mi)(he:ah B X e me)(hs:Xm i=Zj):cK B X (.AugAssign (.Subscript o i tpos) op e pos) (XS op mo mi me):=by
 intro O s U H Y bE h Q E N K;calc wpAny_AugAssign_SubscriptAny (cV ho N K λov h1 ou s1 H1 W1 M n1 C W=>cV hi M W λkv J ku s2 H2 U2 R n2 k S=>?_) (λ_ _ _=>by cases i<;>first|rfl|cases hs);refine G9 Uq R (C.mono n2) k S λx h3 xu s3 H3 U3 F m r3 P=>?_
 refine cV he F P λy h4 yu s4 H4 U4 Z j G K4=>?_
 refine G9 (pV op) Z (r3.mono j) G K4 λz h5 zu s5 H5 U5 I u L D=>?_
 show Ur I ((((C.mono n2).mono m).mono j).mono u) (((k.mono m).mono j).mono u) L D
end
section
variable{B:aM}{k:Nat}{P:Pg}{n:Nat}{S:Sc}{X:Cx}
theorem VA(j:∀s,cK B X s<|f s):∀(l:Tl),jD B X l (d0<|l.map f)|[]=>ON|[a]=>OP<|j a|a::b::r=>OO (j a)<|VA j<|b::r
end
section
variable{B:aM}{k:Nat}{P:Pg}{S:Sc}{X:Cx}{xi:Xi}{xf:Str->Str->Bool}{fr:Str->Bool}
theorem Ut:tj B X a sl suite cy:=λ_ _ _ _ _ _ _ _ _ _ _ _ _ _ _ _ _ K=>(show False from K).elim
def Uu(G:Good B k P S X)(a:Z8)(st:eI):cK B (JY X a) st (pR S st):=by
 unfold pR;split
 .rename_i x q c j p D;cases u:S.gY x with|none=>show JO|some i=>let#[m,J,C]:=G.gY u;calc z8 (X:=JY X a) G.nodup ?_ m J (YM rfl) C;cases c with|int i=>show Fz|bool b=>show sS|none=>show FA|str x=>show FC|_=>show Jn
 .show JO
def Uv(G:Good B k P S X){m:eI->S1}(hm:∀X,Good B k P {S with cl:=Zn} X->∀st,cK B X st<|m st)(a:Z8)(sl:Ta)(suite:Tl):tj B X a sl suite (Bj S m sl suite):=by
 unfold Bj;split
 .rename_i i;split
  .rename_i h;show SU (e:=S.N[i]) (by rw[G.n];show Zd h) λj=>VA (hm (v7 X a j) #[G.n,G.sc,G.nd,G.fk,G.calm,#[nofun,G.room.dp,G.room.un],G.st,G.pg,G.code,λz=>#[nofun,(G.eV z).dp,(G.eV z).un],G.top]) suite
  .show Ut
 .show(VA (Uu G a) suite).h
def Uw(G:Good B k P S X)(bD:pS X.K X.mg xi xf)(hx:xi D=V g)(J:S.gl D=Zj)(a)(c)(C)(b)(O)(U)(H)(s)(Q)(E)(Z:g c=V b) (hC:W.nsIn X.K Z2 c=V (V<|.ref C))(I:Inv (JY X a) O U H s)(ho:∃oe,s.heap.get? a=V oe/\oe.cls=.ref C)(Y:Q b s):Zz (Z5 X.prog X.w) (JY X a).A (bp (.Name D q) X.env) (λv s₁=>Zz (Z5 X.prog X.w) (JY X a).A (excMatches (.ref a) v) Q E s₁) E s:=by
 let#[v,F,L]:=bD.1 D g hx;let#[m,u,nn]:=G.gl J;have R:kT (JY X a) (.Name D q) v:=by
  rcases F with z|⟨z,w⟩
  .show F3 m z u
  .show X3 m z w nn u
 calc R O U H s _ E I ?_;let#[_,_,M]:=L c C b Z hC;let#[oe,h1,J]:=ho;let#[j,gg,d,tk,os]:=s;have LT:W.Looks (Z5 X.prog X.w) j (lT<|.ref a) (.ref C):=J▸(W.Looks.ld h1).andThen .now;show(W.exm_one (I.cN:X.K.In j) LT M).at Y
theorem Hb(G:Good B k P S X)(hm:∀X,Good B k P {S with cl:=Zn} X->∀st,cK B X st<|m st):∀{l:Tr}{F:Tq},k9 P S m l=V F->fT B X l F
 |[],F,e=>by cases e;show .nil
 |h::r,F,e=>by
  unfold k9 at e;cases j:Bk P S m h with
  |none=>rw[j]at e;cases e
  |some q=>
   cases R:k9 P S m r with
   |none=>rw[j,R]at e;cases e
   |some l=>
    rw[j,R]at e;cases e;unfold Bk at j;split at j
    .rename_i D q2 nm b L pos;split at j
     .rename_i hD;cases J:P.xi D with
      |none=>rw[J]at j;cases j
      |some g=>
       cases u:Bi S nm with
       |none=>rw[J,u]at j;cases j
       |some sl=>
        rw[J,u]at j;cases j;calc .cons #[λa c C b O U H s Q E Z hC I ho Y=>Uw G G.pg.xi J hD a c C b O U H s Q E Z hC I ho Y,?_,λa=>Uv G hm a sl _]<|Hb G hm R;unfold Bi at u;cases nm with
        |none=>cases u;show .inl #[rfl,rfl]
        |some x=>
         dsimp only at u;split at u
         .rename_i W;let#[i,M,rfl]:=ZH.mp u;calc .inr #[x,i,rfl,rfl,by rw[G.n];show Y3 M,?_];rw[G.kind];show beq_iff_eq.mp W
         .cases u
     .cases j
    .cases j
end
section
variable{B:aM}{k:Nat}{P:Pg}{n:Nat}{S:Sc}{X:Cx}
def Ux(G:Good B k P S X)(hm:∀e,ah B X e<|m e):cK B X (.Raise (V<|.Call (.Name x q) [e] [] q2) Zg p) (Bl P S m x e):=by
 unfold Bl;split
 .rename_i f hf;split
  .rename_i h;simp![Zr,decide_eq_true_eq]at h;let#[#[#[E,h1],J],W]:=h;split
   .rename_i d hd;let#[C,fa,fd,ps,c1,F,Y,I,M,D]:=G.pg.xo x f hf;let#[R,O,_]:=G.gl h1;let#[u,ds,Z,hl,qd]:=Ys D hd;have Q:ps.length<=sizeLine:=by have:=D.len;rw[jN];show Zb (Zb (Zi this) W)<|Zk _ 16777208
    refine Ss (G.room.hd E) (Sz Y I D.ok F (G.rg u) R c1 Z qd (Vb (es:=[e]) (by simp[J]) hm) (λU h xs H z=>?_) Q O (Jz J) rfl) λc C' u j h L=>?_
    .have:=Xv _ U h xs H z;rw[Zm]at this;simp at this;lia
    .have e1:c=x:=beq_iff_eq.mp u;subst e1;rw[F]at j;cases j;show M h L
   .show JO
  .show JO
 .show JO
def Uy(G:Good B k P S X){m:Expr->E1}(hm:∀e,ah B X e<|m e){exc cause:Wv}{p:Pos}:cK B X (.Raise exc cause p) (Bm P S m exc cause):=by
 unfold Bm;split
 .rename_i x q e j;show Ux G hm
 .show JO
def Uz(G:Good B k P S X)(hm:∀s,cK B X s<|m s)(u:∀X,Good B k P {S with cl:=Zn} X->∀st,cK B X st<|mw st):cK B X (.Try body hs o f p) (pT P S m mw body hs o f):=by
 unfold pT;split
 .split
  .rename_i h;let#[C,j]:=G.top h;split
   .rename_i D e;show Sb G.nodup C j (VA hm body)<|Hb G u e
   .show JO
  .show JO
 .show JO
def UA(h:J2 tg=Zj):(fQ [tg] env).map (·.2)=[lR tg env]:=by cases tg<;>first|rfl|cases h
def UB(G:Good B k P S X)(i)(h:k8 e=Zj)(h1:X.N[i]?=V x)(J:L2.Loc X.env.scope x)(h3:X.fn x=Zj\/X.env.scope.names.lookup x=V .local):cK B X (.Assign [.Name x q] e p) (Jl i<|ev P n S e):=by
 cases e with
 |ListComp F D sc R=>
  cases Z:(X.env.blockKind==.function&&X.env.kindOf x==V .local&&q.line==R.line&&!(sc.names.any λ(n,k)=>n==x&&(k==.local||k==.cell)))with|false=>calc z8 G.nodup ((wG B k P n).e S X _ G) h1 J ?_ h3;change(pure (X.env.blockKind==.function&&X.env.kindOf x==V .local&&q.line==R.line&&!(sc.names.any λ(n,k)=>n==x&&(k==.local||k==.cell))):Sem Bool)=pure Zn;rw[Z]|true=>
   have u:nS (.ListComp F D sc R) (V<|.Name x q) p.line X.env=pure Zj:=by change(pure (X.env.blockKind==.function&&X.env.kindOf x==V .local&&q.line==R.line&&!(sc.names.any λ(n,k)=>n==x&&(k==.local||k==.cell))):Sem Bool)=pure Zj;rw[Z]
   have j:∀m:E1,(∀U h,m U h=.stuck)->cK B X (.Assign [.Name x q] (.ListComp F D sc R) p) (Jl i m):=λm hm=>by intro O s U H Y bE h Q E N K;unfold Jl at K;rw[hm]at K;show Zf K
   cases n with|zero=>show j _ λ_ _=>rfl|succ n=>
    have L:=wG B k P n;match D,u with
    |[⟨tg,iter,ifs,as⟩],u=>
     change cK B X _ (Jl i (if as=0/\XH iter=Zj/\QQ S.N (V8 sc) (QK sc) (dN S sc) S.k6 sc=Zj then Bb ifs (k7 P n<|S.comp sc) (λmt=>Jy (rf P n S tg iter) (V8 sc).length (dN S sc) (my P n (S.comp sc) tg) mt<|ev P n (S.comp sc) F)else bQ));split
     .rename_i hs;let#[rfl,hi,ok]:=hs;have W:=G.comp ok;have M:=ok;rw[<-G7 G]at M;match ifs,u with|[],u=>show Gf G.calm (L.i S X tg iter G) (λC s H I=>L.g _ _ tg<|W C s H I) (λC s H I=>F6) (λC s H I=>L.e _ _ F<|W C s H I) M G.n rfl (Y1 hi) G.nodup h1 J h3 u|[c],u=>show Gf G.calm (L.i S X tg iter G) (λC s H I=>L.g _ _ tg<|W C s H I) (λC s H I=>F9<|L.t _ _ c<|W C s H I) (λC s H I=>L.e _ _ F<|W C s H I) M G.n rfl (Y1 hi) G.nodup h1 J h3 u|_::_::_,_=>show j _ λ_ _=>rfl
     .show j _ λ_ _=>rfl
    |[],_=>show j _ λ_ _=>rfl
    |⟨_,_,_,_⟩::_::_,_=>show j _ λ_ _=>rfl
 |_=>cases h
theorem Bt(B)(k)(P):∀(n:Nat)(S:Sc)(X:Cx)(st:eI),Good B k P S X->cK B X st (ex P n S st)
 |0,_,_,_,_=>JO
 |n+1,S,X,st,G=>by
  have u:=λst=>Bt B k P n S X st G
  have E:=wG B k P n;have m:=λe=>E.e S X e G
  cases st with
  |Pass p=>show OQ
  |Break p=>show OR
  |Continue p=>show OS
  |Expr e p=>
   change cK B X _ (if V9 e then JS (ev P n S e)else cy);split
   .rename_i h;show OT (m e)<|YM h
   .show JO
  |Return v p=>
   cases v with
   |none=>show OV
   |some e=>show OU<|m e
  |If c a b p=>show zZ (E.t S X c G) (VA u a)<|VA u b
  |Raise exc I p=>show Uy G m
  |Try W hs o f p=>show Uz G u λX G st=>Bt B k P n _ X st G
  |While c a o p=>
   cases o with
   |nil=>
    change cK B X _<|Bf S.own (k7 P n S c)<|d0<|a.map<|ex P n S;cases h:S.own with
    |true=>let#[Q,D]:=G.top h;show Ul Q D (E.t S X c G)<|VA u a
    |false=>show JO
   |cons _ _=>show JO
  |For tg it a o p=>
   cases o with
   |nil=>
    change cK B X _ (if XH it&&S.own then bV (rf P n S tg it) (my P n S tg) (d0<|a.map<|ex P n S)else cy);split
    .rename_i h;rw[Zr]at h;let#[Q,D]:=G.top h.2;show O5 G.calm Q D (E.i S X tg it G) (E.g S X tg G) (VA u a)<|Y1 h.1
    .show JO
   |cons _ _=>show JO
  |AugAssign tg L e p=>
   cases tg with
   |Name x q=>
    change cK B X _ (match S.gY x with|some i=>nh L i (ev P n S e)|none=>cy);cases O:S.gY x with
    |none=>show JO
    |some i=>let#[H,J,F]:=G.gY O;show Uo G.nodup (m e) H J F
   |Attribute o f q=>
    change cK B X _ (if P.fld f then XR L f (ev P n S o) (ev P n S e)else cy);split
    .rename_i h;show Up (m o) (m e)<|G.pg.fld f h
    .show JO
   |Subscript o i q=>
    change cK B X _ (if Xm i then XS L (ev P n S o) (ev P n S i) (ev P n S e)else cy);split
    .rename_i h;show Us (m o) (m i) (m e) h
    .show JO
   |_=>show JO
  |Assign M e p=>
   match M with
   |[]=>show JO
   |a::_::_=>cases a<;>show JO
   |[tg]=>
    have gen:cK B X (.Assign [tg] e p) (if V9 e&&((wy tg&&Bh e)||wz tg)then fG (ev P n S e) (my P n S tg)else cy):=by
     split
     .rename_i h;simp![Zr,lW]at h;have R:J2 tg=Zj:=by
       rcases h.2 with q|q
       .cases tg<;>first|rfl|(simp[wy]at q)
       .cases tg<;>first|rfl|(simp[wz]at q)
      calc OZ (m e) (E.g S X tg G) (YM h.1) ?_<|UA R;rcases h.2 with q|q
      .cases tg with
       |Tuple es j pp=>have Y:=q.2;cases e<;>first|rfl|(simp[Bh]at Y)
       |_=>simp[wy]at q
      .cases tg with
       |Subscript=>cases e<;>rfl
       |_=>simp[wz]at q
     .show JO
    cases tg with
    |Name x q=>
     change cK B X _ (if V9 e||k8 e then(match S.gY x with|some i=>Jl i (ev P n S e)|none=>cy)else cy);split
     .rename_i h;cases O:S.gY x with
      |none=>show JO
      |some i=>
       let#[H,J,F]:=G.gY O;rcases lW _ _▸h with h|h
       .show z8 G.nodup (m e) H J (YM h) F
       .show UB G i h H J F
     .show JO
    |Attribute o f q=>
     change cK B X _ (if V9 e||k8 e then Bo P f (ev P n S o) (ev P n S e)else cy);split
     .rename_i h;have U:nS e (V<|.Attribute o f q) p.line X.env=pure Zn:=by
       rcases lW _ _▸h with h|h
       .show YM h
       .cases e<;>first|rfl|cases h
      unfold Bo;split
      .rename_i D;show Pu (m o) (m e) (G.pg.fld f D) U
      .show SM (m o) (m e) (λc C Z hC=>(G.pg.xi.2 f c C Z hC).1) U
     .show JO
    |_=>show gen
  |_=>show JO
end
structure D4 where
 st:eI
 qual:Str
 ps:Tj
 N:Tj
 aU:Tu
abbrev _root_.Wr:=List<|Str×D4
set_option genInjectivity false in
structure Tab where
 fns:Wr
 ni:Wr
 meths:List<|Str×Wr
 cons:Wo
 nj:List<|Str×Tj
 j5:Tj
 frees:Tj
 tabs:Tj:=[]
 pW:List (Str×Wd):=[]
 nk:Tj:=[]
 He:Tj:=[]
 rh:Wr:=[]
 oE:List (Str×Tj):=[]
 rl:Tj:=[]
noncomputable def df (x:Str):Tj->Bool|[]=>Zn|y::r=>y==x||df x r
noncomputable def Qc {α:Type}(x:Str):List (Str×α)->Option α|[]=>Zg|(y,a)::r=>if y==x then V a else Qc x r
def Tab.cl(T:Tab)(d:D4):Bool:=!df d.qual T.He
def D4.sc(T:Tab)(d:D4):Sc:=#[d.N,(Qo d.st).names,Zj,d.qual,T.cl d]
def eJ(T:Tab)(f c:Str):Bool:=match Qc f T.oE with|some l=>df c l|none=>Zn
def lg(T:Tab)(r:D4->Tu->IH->Res IV):Pg where
 fn:=λx=>(Qc x T.fns).map λd=>#[d.ps.length,d.aU,r d,T.cl d]
 cls:=λx=>(Qc x T.ni).map λd=>#[d.ps.length,d.aU,r d,T.cl d]
 eT:=λc m=>((Qc c T.meths).bind<|Qc m).map λd=>#[d.ps.length,d.aU,r d,T.cl d]
 mw:=λm=>T.meths.all λq=>match Qc m q.2 with|some d=>!T.cl d|none=>Zj
 con:=λx=>Qc x T.cons
 mq:=λx=>(Qc x T.nj).map λl c=>df c l
 fld:=λx=>df x T.j5
 free:=λx=>df x T.frees
 tabs:=λq=>dJ q T.tabs
 xi:=λD=>(Qc D T.pW).map λl c=>Qc c l
 mu:=λx=>df x T.nk
 xo:=λx=>(Qc x T.rh).map λd=>#[d.ps.length,d.aU,r d,T.cl d]
 xf:=eJ T
 xb:=λx=>df x T.rl
def run(T:Tab):Nat->D4->Tu->IH->Res IV|0,_=>λ_ _=>.stuck|k+1,d=>Af d.N.length<|d0<|(Vd d.st).map<|ex (lg T<|run T k) 40<|d.sc T
theorem Qv:∀{l:List (Str×α)},Qc x l=V a->(x,a)∈l
 |[],h=>by cases h
 |(y,b)::r,h=>by
  unfold Qc at h;split at h
  .simp_all
  .show Zt _<|Qv h
theorem XG:∀{l:Tj},df x l=Zj->x∈l
 |[],h=>by cases h
 |y::r,h=>by
  rcases lW _ _▸h with e|e
  .simp_all
  .show Zt _<|XG e
structure aY(K:W.Frag)(x:Str)(d:D4)(fa:Z8)(fd:i6):Prop where
 tB:∃dV,pG K x d.qual d.st fa fd dV
 sc:dF d.N d.ps<|Qo d.st
 dv:∀j,j<=d.aU.length->∃ds,Qa K fd d.ps ds/\ds.length=d.aU.length-j/\∃vs,Vals vs ds/\∀Y H,aC K Y H (d.aU.drop j) vs
structure fU(B:aM)(T:Tab)(K:W.Frag)(mg:Str->Tb):Prop where
 fn:∀x d,(x,d)∈T.fns->∃fa fd,mg x=V (.ref fa)/\aY K x d fa fd
 cls:∀x d,(x,d)∈T.ni->∃C fa fd,mg x=V (.ref C)/\B x=V C/\Mk K C fa/\aY K "__init__" d fa fd
 eT:∀c l m d,(c,l)∈T.meths->(m,d)∈l->∃C fa fd,B c=V C/\l9 K C/\Meth K C m fa/\aY K m d fa fd
 con:∀x v,(x,v)∈T.cons->∃u y,mg x=V u/\RelV y u/\∀Y H,RV K Y H v y
 mq:∀D l,(D,l)∈T.nj->∃c,mg D=V c/\fH B K c λt=>match t with|.ins c=>V (df c l)|.exc _=>Zg|_=>V Zn
 fld:∀f,f∈T.j5->Yi B K f
 free:∀x,x∈T.frees->mg x=Zg
 xi:∀D l,(D,l)∈T.pW->∃v,(mg D=V v\/(mg D=Zg/\kd D=V v))/\∀c b,(c,b)∈l->∃C,W.nsIn K Z2 c=V (V<|.ref C)/\gk K C/\W.kitOne K (.ref C) v=V b/\W.exmOne K (.ref C) v=V b
 mu:∀x,x∈T.nk->∃C,mg x=V (.ref C)/\j1 K C
 xo:∀x d,(x,d)∈T.rh->∃C fa fd,mg x=V (.ref C)/\W.nsIn K Z2 x=V (V<|.ref C)/\Qm K C fa=Zj/\W.keepIn K (.ref C)=Zj/\(∀h:bc,K.In h->oA h C)/\aY K "__init__" d fa fd
 xf:∀f l c,(f,l)∈T.oE->c∈l->∃C,W.nsIn K Z2 c=V (V<|.ref C)/\fJ K C f/\gk K C/\W.findIn K (.ref C) f=V Zg
 xb:∀x,x∈T.rl->∃C,mg x=V (.ref C)/\j2 K C
section
variable{B:aM}{T:Tab}{prog:cz}{w:bL}{K:W.Frag}{mg:Str->Tb}{base:bc}
theorem UC:bM prog w K mg base (eB prog w) b k fa fd ps (iQ B K ps λ_ _=>.stuck):=#[λ_ _ _ _ h=>h.1,λ_ _ _ _ _ _ _ _ _ _ _ _ _ h=>by let#[_,_,_,_,_,_,z]:=h;show z.elim]
def UD(bD:fU B T K mg):pS K mg (λD=>(Qc D T.pW).map λl c=>Qc c l) (eJ T):=by
 refine#[λD g h=>?_,λf c C h m=>?_]
 rotate_left
 .have k:(match Qc f T.oE with|some l=>df c l|none=>Zn)=Zj:=h;cases j:Qc f T.oE with|none=>rw[j]at k;cases k|some l=>rw[j]at k;let#[F,q,r]:=bD.xf f l c (Qv j)<|XG k;rw[m]at q;cases q;show r
 let#[l,j,rfl]:=ZH.mp h;let#[v,E,G]:=bD.xi D l<|Qv j;calc#[v,E,λc C b e m=>?_];let#[F,u,J]:=G c b<|Qv e;rw[m]at u;cases u;show J
def UE(bD:fU B T K mg)(bC:T.tabs≠[]->QH mg base)(k:Nat)(E:∀x d fa fd,aY K x d fa fd->pU B prog w K mg base (4*k) #[d.ps.length,d.aU,run T k d,T.cl d] fa fd d.ps):tx B (4*k) (lg T<|run T k) prog w K mg base:=by
 refine#[λx f h=>?_,λx f h=>?_,λc m f h=>?_,λm h c f q=>?_,λx v h=>?_,λD g h=>?_,λf h=>?_,λx h=>?_,λq j h=>bC λe=>?_,UD bD,λx h=>bD.mu x<|XG h,λx f h=>?_,λx h=>bD.xb x<|XG h]
 .let#[d,hd,rfl]:=ZH.mp h;let#[fa,fd,hm,ok]:=bD.fn x d<|Qv hd;let#[R,F]:=ok.tB;show#[fa,fd,d.ps,hm,F.kp,E x d fa fd ok]
 .let#[d,hd,rfl]:=ZH.mp h;let#[C,fa,fd,hm,G,M,ok]:=bD.cls x d<|Qv hd;show#[C,fa,fd,d.ps,hm,G,M,E _ d fa fd ok]
 .let#[d,hd,rfl]:=ZH.mp h;let#[l,u,hd]:=ye.mp hd;let#[C,fa,fd,G,cl,Q,ok]:=bD.eT c l m d (Qv u)<|Qv hd;show#[C,fa,fd,d.ps,G,cl,Q,E m d fa fd ok]
 .let#[d,hd,rfl]:=ZH.mp q;let#[l,u,hd]:=ye.mp hd;have z:=mG.mp h _<|Qv u;rw[hd]at z;show o3 _▸z
 .show bD.con x v<|Qv h
 .let#[l,u,rfl]:=ZH.mp h;show bD.mq D l<|Qv u
 .show bD.fld f<|XG h
 .show bD.free x<|XG h
 .have H:dJ q T.tabs=V j:=h;rw[e]at H;cases H
 .let#[d,hd,rfl]:=ZH.mp h;let#[C,fa,fd,L,J,P,I,O,ok]:=bD.xo x d<|Qv hd;show#[C,fa,fd,d.ps,L,J,P,I,O,E _ d fa fd ok]
theorem Hf(bD:fU B T K mg)(bC:T.tabs≠[]->QH mg base):∀k x d fa fd,aY K x d fa fd->pU B prog w K mg base (4*k) #[d.ps.length,d.aU,run T k d,T.cl d] fa fd d.ps
 |0,x,d,fa,fd,ok=>#[rfl,UC,ok.dv]
 |k+1,x,d,fa,fd,ok=>by
  calc#[rfl,?_,ok.dv];let#[D,F]:=ok.tB;change bM prog w K mg base (eB prog w) (T.cl d) (4*k+3+1) fa fd d.ps<|iQ B K d.ps<|run T (k+1) d;refine F.fn (m:=d0<|(Vd d.st).map<|ex (lg T<|run T k) 40<|d.sc T) ok.sc λC A outer s H E j u=>?_
  calc VA (λst=>Bt B (4*k) (lg T<|run T k) 40 (d.sc T) _ st ?_) _;show#[rfl,rfl,ok.sc.nd,ok.sc.kind,rfl,u.mono 05,λ_ _=>rfl,UE bD bC k<|Hf bD bC k,λ_=>#[j,rfl],λ_=>u,λ_=>#[rfl,rfl]]
end
inductive All{α:Type}(p:α->Prop):List α->Prop|nil:All p []|cons {a:α}{l:List α}:p a->All p l->All p (a::l)
theorem All.mem:∀{l:List α}{a:α},All p l->a∈l->p a
 |_,_,.nil,h=>by cases h
 |_,_,.cons h r,m=>by
  rcases ZC.mp m with rfl|m
  .show h
  .show r.mem m
def Qz(l:Tj):Ty->Ww:=λt=>match t with|.ins c=>V (df c l)|.exc _=>Zg|_=>V Zn
section
variable{T:Tab}{K:W.Frag}{mg:Str->Tb}
def fM(ces:Wq):aM:=λc=>Qc c ces
def UG(ces:Wq)(fn:All (λp:Str×D4=>∃fa fd,mg p.1=V (.ref fa)/\aY K p.1 p.2 fa fd) T.fns) (cls:All (λp:Str×D4=>∃C fa fd,mg p.1=V (.ref C)/\fM ces p.1=V C/\Mk K C fa/\aY K "__init__" p.2 fa fd) T.ni) (eT:All (λq:Str×Wr=>∃C,fM ces q.1=V C/\All (λp:Str×D4=>∃fa fd,Meth K C p.1 fa/\aY K p.1 p.2 fa fd) q.2) T.meths) (con:All (λp:Str×IV=>∃u y,mg p.1=V u/\RelV y u/\∀Y H,RV K Y H p.2 y) T.cons) (cl:All (λp:Str×Z8=>kR K p.2/\All (λf=>Vr K p.2 f) T.j5) ces) (mq:All (λq:Str×Tj=>∃D,mg q.1=V (.ref D)/\W.kitOne K (.type "NoneType") (.ref D)=V Zn/\W.kitOne K (.type "bool") (.ref D)=V Zn/\W.kitOne K (.type "int") (.ref D)=V Zn/\W.kitOne K (.type "str") (.ref D)=V Zn /\ W.kitOne K (.type "list") (.ref D)=V Zn/\W.kitOne K (.type "tuple") (.ref D)=V Zn/\W.kitOne K (.type "dict") (.ref D)=V Zn/\All (λp:Str×Z8=>W.kitOne K (.ref p.2) (.ref D)=V (df p.1 q.2)) ces) T.nj) (free:All (λx=>mg x=Zg) T.frees) (pW:All (λq:Str×Wd=>∃v,(mg q.1=V v\/(mg q.1=Zg/\kd q.1=V v))/\All (λp:Str×Bool=>∃C,W.nsIn K Z2 p.1=V (V<|.ref C)/\gk K C/\W.kitOne K (.ref C) v=V p.2/\W.exmOne K (.ref C) v=V p.2) q.2) T.pW:=by show .nil) (mu:All (λx=>∃C,mg x=V (.ref C)/\j1 K C) T.nk:=by show .nil) (rh:All (λp:Str×D4=>∃C fa fd,mg p.1=V (.ref C)/\W.nsIn K Z2 p.1=V (V<|.ref C)/\Qm K C fa=Zj/\W.keepIn K (.ref C)=Zj/\(∀h:bc,K.In h->oA h C)/\aY K "__init__" p.2 fa fd) T.rh:=by show .nil) (oE:All (λq:Str×Tj=>All (λc=>∃C,W.nsIn K Z2 c=V (V<|.ref C)/\fJ K C q.1/\gk K C/\W.findIn K (.ref C) q.1=V Zg) q.2) T.oE:=by show .nil) (rl:All (λx=>∃C,mg x=V (.ref C)/\j2 K C) T.rl:=by show .nil):fU (fM ces) T K mg:=by
 refine#[λx d h=>fn.mem h,λx d h=>cls.mem h,λc l m d j hm=>?_,λx v h=>con.mem h,λD l h=>?_,λf X=>?_,λx h=>free.mem h,λD l h=>?_,λx h=>mu.mem h,λx d h=>rh.mem h,λf l c h j=>(oE.mem h).mem j,λx h=>rl.mem h]
 .let#[C,B,E]:=eT.mem j;let#[fa,fd,S,ok]:=E.mem hm;show#[C,fa,fd,B,(cl.mem<|Qv B).1.cl,S,ok]
 .let#[C,B,F,J,Q,L,P,U,M,I]:=mq.mem h;refine#[_,B,#[λb e=>?_,λb e=>?_,λb e=>?_,λb e=>?_,λb e=>?_,λb e=>?_,λb e=>?_,λk R b e G=>?_,(λk R b e=>by cases e)]]
  .cases e;show F
  .cases e;show J
  .cases e;show Q
  .cases e;show L
  .cases e;show P
  .cases e;show U
  .cases e;show M
  .cases e;show#[(cl.mem<|Qv G).1,I.mem<|Qv G]
 .intro c C e;let#[F,J]:=cl.mem<|Qv e;show#[F.cl,J.mem X]
 .let#[v,O,E]:=pW.mem h;show#[v,O,λc b j=>E.mem j]
theorem kO{P:List α->Prop}(j:∀a,P [a]):∀us:List α,us.length=1->P us|[a],_=>j a
theorem Bu{P:List α->Prop}(j:∀a b,P [a,b]):∀us:List α,us.length=2->P us|[a,b],_=>j a b
theorem Bv{P:List α->Prop}(j:∀a b c,P [a,b,c]):∀us:List α,us.length=3->P us|[a,b,c],_=>j a b c
theorem Bw{P:List α->Prop}(j:∀a b c d,P [a,b,c,d]):∀us:List α,us.length=4->P us|[a,b,c,d],_=>j a b c d
theorem tD{P:List α->Prop}(j:∀a b c d e f g,P [a,b,c,d,e,f,g]):∀us:List α,us.length=7->P us|[a,b,c,d,e,f,g],_=>j a b c d e f g
noncomputable def jm (N P:Tj)(sc:eL):Bool:=sc.kind==.function&&!sc.isCoroutine&&!sc.isGenerator&&decide N.Nodup&&decide (N.take P.length=P)&&P.all (λx=>sc.names.lookup x==V .local||sc.names.lookup x==V .cell)&&sc.names.all (λy=>!(y.2==.free))
def jm.of(h:jm N P sc=Zj):dF N P sc:=by simp![jm,Zr,beq_iff_eq,o3,decide_eq_true_eq,mG,lW,beq_eq_false_iff_ne]at h;let#[#[#[#[#[#[h1,J],h3],h4],h5],h6],h7]:=h;show#[h1,J,h3,h4,h5,h6,h7]
def UH(x:Qm K C f=Zj)(h)(I:K.In h):oA h C:=by let#[u,N,nm,q,bs,j,J,sub,H,k,D,G,B,F,E,m,O,M,L,_,_,T,_]:=Qm.obj x I;show#[nm,q,N,bs,u,j,J,sub,H,k,D,G,B,F,E,m,_,L,T.hasType 01]
def UI(bD:fU B T K mg)(bC:T.tabs≠[]->QH mg base)(k)(hp:d.ps=[x])(ok:aY K "law" d fa fd):bM prog w K mg base (eB prog w) (T.cl d) (4*k) fa fd [x] (XW K x<|run T k d):=by have:=(Hf (prog:=prog) (w:=w) (base:=base) bD bC k "law" d fa fd ok).ok;rw[hp]at this;show PD this
end
def WR{α:Type}(r:Res α)(Q:α->IH->Prop):Prop:=match r with|.ok a h=>Q a h|_=>False
def WS(r:bU)(N:aI->IH->Prop)(R:IV->IH->Prop):Prop:=match r with|.next U h=>N U h|.ret v h=>R v h|_=>False
section
variable{α β:Type}{U:aI}{h:IH}{Q:α->IH->Prop}{N:aI->IH->Prop}{R:IV->IH->Prop}
def WR.mono(x:WR r P)(f:∀a h,P a h->Q a h):WR r Q:=by cases r with|ok a h=>show f a h x|exc n h=>show x|stuck=>show x
def Jf(e:r=.ok a h)(q:Q a h):WR r Q:=by rw[e];show q
def WR.eq(x:WR r Q):∃a h,r=.ok a h/\Q a h:=by cases r with|ok a h=>show#[a,h,rfl,x]|exc n h=>show x.elim|stuck=>show x.elim
def WS.mono(x:WS r N R)(f:∀U h,N U h->N' U h)(g:∀v h,R v h->R' v h):WS r N' R':=by cases r with|next U h=>show f U h x|ret v h=>show g v h x|_=>show x
theorem Xr(a):WR (.ok a h) Q=Q a h:=rfl
theorem UJ:WR (.stuck:Res α) Q=False:=rfl
def JD(r)(f:α->IH->Res β)(Q):WR (r.bind f) Q=WR r λa h=>WR (f a h) Q:=by cases r<;>rfl
def Va(c)[Decidable c](x y):WR (if c then x else y) Q=((c->WR x Q)/\(¬c->WR y Q)):=by by_cases j:c<;>simp[j]
def V0(r:Res α)(k):WS (rS U r k) N R=WR r λa h=>WS (k a h) N R:=by cases r<;>rfl
def UK(r)(Q):WR r.fin Q=WS r (λ_ h=>Q .af h) Q:=by cases r with|exc n U h=>change WR (match h[n]? with|some (.exc _ _)=>Res.exc n h|_=>Res.stuck) Q=False;split<;>rfl|_=>rfl
theorem UL(U):WS (.next U h) N R=N U h:=rfl
def UM(a b):WS (Jh a b U h) N R=WS (a U h) (λj h1=>WS (b j h1) N R) R:=by unfold Jh;cases a U h<;>rfl
def UN(i)(e):WS (Jl i e U h) N R=WR (e U h) λv h1=>N (U.set i<|V v) h1:=by unfold Jl;rw[V0];rfl
def UO(t)(a b):WS (bg t a b U h) N R=WR (t U h) λc h1=>(c=Zj->WS (a U h1) N R)/\(c=Zn->WS (b U h1) N R):=by unfold bg;rw[V0];congr 1;funext c h1;cases c<;>simp
def UP(e):WS (Jk e U h) N R=WR (e U h) R:=by unfold Jk;rw[V0];rfl
def UQ(e):WS (JS e U h) N R=WR (e U h) λ_ h1=>N U h1:=by unfold JS;rw[V0];rfl
def Bx(e)(g):WS (fG e g U h) N R=WR (e U h) λv h1=>WS (g v U h1) N R:=by unfold fG;rw[V0]
def YU(f)(o e):WS (JP f o e U h) N R=WR (e U h) λv h1=>WR (o U h1) λm J=>∃i c fs,m=.ref i/\J[i]?=V (.ins c fs)/\fs.length<1000/\N U (J.set i<|.ins c<|bz f v fs):=by
 unfold JP;rw[V0];congr 1;funext v h1;rw[V0];congr 1;funext m J;cases m with
 |ref i=>
  cases e:J[i]? with|none=>simp[WS,e]|some o=>
   cases o with
   |ins c fs=>
    by_cases k:fs.length<1000
    .simp only[e,k];calc propext #[λq=>#[i,c,fs,rfl,e,k,q],λ⟨E,D,B,C,j,_,q⟩=>?_];cases C;rw[e]at j;cases j;show q
    .simp only[e,k];calc propext #[λq=>q.elim,λ⟨E,D,B,C,j,u,_⟩=>?_];cases C;rw[e]at j;cases j;show k u
   |_=>simp[WS,e]
 |_=>simp[WS]
def Hg(it)(g)(b):WS (bV it g b U h) N R=WR (it U h) λbB h1=>WS (JZ bB.ba g b bB.xs U h1) N R:=by unfold bV;rw[V0]
theorem VD(v)(Q):WR (eC v U h) Q=Q v h:=rfl
def YR(f)(a b)(Q):WR (Jc f a b U h) Q=WR (a U h) λx h1=>WR (b U h1) λy J=>WR (f x y J) Q:=by unfold Jc;rw[JD];congr 1;funext x h1;rw[JD]
def UR(t)(a b)(Q):WR (kM t a b U h) Q=WR (t U h) λc h1=>(c=Zj->WR (a U h1) Q)/\(c=Zn->WR (b U h1) Q):=by unfold kM;rw[JD];congr 1;funext c h1;cases c<;>simp
def US(a b)(Q):WR (QM a b U h) Q=WR (a U h) λc h1=>(c=Zj->WR (b U h1) Q)/\(c=Zn->Q Zn h1):=by unfold QM;rw[JD];congr 1;funext c h1;cases c<;>simp[WR]
def UT(f g)(a b c)(Q):WR (JK f g a b c U h) Q=WR (a U h) λx h1=>WR (b U h1) λy J=>WR (f x y J) λk h3=>∃t,k=.bl t/\(t=Zj->WR (c U h3) λz j=>WR (g y z j) Q)/\(t=Zn->Q (.bl Zn) h3):=by
 unfold JK;rw[JD];congr 1;funext x h1;rw[JD];congr 1;funext y J;rw[JD];congr 1;funext k h3;cases k with
 |bl t=>cases t with|true=>rw[JD];simp|false=>simp[WR]
 |_=>simp[WR]
def UU(a)(Q):WR (bN a U h) Q=WR (a U h) λxs h1=>xs.length<=sizeLine/\Q (.tup xs) h1:=by unfold bN;rw[JD];congr 1;funext xs h1;rw[Va];by_cases j:xs.length<=sizeLine<;>simp[j,WR]
def UW(a)(Q):WR (J9 a U h) Q=WR (a U h) λxs h1=>xs.length<=sizeLine/\Q (.ref h1.length) (h1++[.lst xs]):=by unfold J9;rw[JD];congr 1;funext xs h1;rw[Va];by_cases j:xs.length<=sizeLine<;>simp[j,WR]
def Yb(f)(d)(a)(Q):WR (Jm f d a U h) Q=WR (a U h) λvs h1=>WR (f (vs++d) h1) Q:=by unfold Jm;rw[JD]
def YT(c)(f)(d)(a)(Q):WR (Q0 c f d a U h) Q=WR (a U h) λvs h1=>WR (f (.ref h1.length::(vs++d))<|h1++[.ins c []]) λr J=>r=.af/\Q (.ref h1.length) J:=by unfold Q0;rw[JD];congr 1;funext vs h1;rw[JD];congr 1;funext r J;cases r<;>simp[WR]
def Hh(f)(a)(Q):WR (aW f a U h) Q=WR (a U h) λvs h1=>WR (f vs h1) Q:=by unfold aW;rw[JD]
theorem By(f)(x)(Q):WR (aO f [x] h) Q=WR (f x h) Q:=rfl
def UX(dH)(e)(Q):WR (bP dH e U h) Q=WR (e U h) λv h1=>∃b,(gp v h1).bind dH=V b/\Q (.bl b) h1:=by unfold bP;rw[JD];congr 1;funext v h1;cases (gp v h1).bind dH<;>simp[WR]
def wH(e)(Q):WR (Qq e U h) Q=WR (e U h) λv h1=>∃i,v=.int i/\Q (V i) h1:=by unfold Qq;rw[JD];congr 1;funext v h1;cases v<;>simp[WR]
def VE(f)(e)(lo hi)(Q):WR (gX f e lo hi U h) Q=WR (e U h) λx h1=>WR (lo U h1) λl J=>WR (hi U J) λu h3=>WR (f x l u h3) Q:=by unfold gX;rw[JD];congr 1;funext x h1;rw[JD];congr 1;funext l J;rw[JD]
noncomputable def Ve (f:Str)(v:IV)(h:IH):Te:=match v with|.ref i=>(match h[i]? with|some (.ins _ fs)=>fs.lookup f|_=>Zg)|_=>Zg
def UY(f)(o)(Q):WR (Jq f o U h) Q=WR (o U h) λv h1=>∃x,Ve f v h1=V x/\Q x h1:=by
 unfold Jq;rw[JD];congr 1;funext v h1;cases v with
 |ref i=>
  unfold Ve;cases e:h1[i]? with|none=>simp[WR,e]|some ob=>cases ob with|ins c fs=>cases j:fs.lookup f<;>simp[WR,e,j]|_=>simp[WR,e]
 |_=>simp[WR,Ve]
variable{i j:Int}{x y:Str}{P:IV->IH->Prop}
def UZ(i j):WR (Q6 (.int i) (.int j) h) P=(Vq i j/\P (.int<|i*j) h):=by change WR (XI (.int i) (.int j) h) P=_;unfold XI;rw[Va];by_cases hm:Vq i j<;>simp[hm,WR]
def U0(i j):WR (JW (.int i) (.int j) h) P=((0<j/\j.natAbs.log2<9000)/\P (.int<|i/j) h):=by unfold JW;rw[Va];by_cases hm:0<j/\j.natAbs.log2<9000<;>simp[hm,WR]
def WA(i j):WR (JC (.int i) (.int j) h) P=(0<j/\P (.int<|i%j) h):=by unfold JC;rw[Va];by_cases hm:0<j<;>simp[hm,WR]
def wI(i j):WR (JQ (.int i) (.int j) h) P=((0<=j/\j<=1000000/\i.natAbs<2^64)/\P (.int<|i^j.toNat) h):=by unfold JQ;rw[Va];by_cases hm:0<=j/\j<=1000000/\i.natAbs<2^64<;>simp[hm,WR]
def WB(x y):WR (Jr (.str x) (.str y) h) P=(x.length+y.length<=sizeLine/\P (.str<|x++y) h):=by unfold Jr;rw[Va];by_cases hm:x.length+y.length<=sizeLine<;>simp[hm,WR]
theorem WC(x y):WR (c7 (.str x) (.str y) h) P=P (.bl (!decide (y.cps.toList<x.cps.toList))) h:=rfl
def Qx(I:Nat->aI->IH->Prop)(H:∀i U h,I i U h->ba h) (E:∀i (hi:i<xs.length) U h,I i U h->WS (g xs[i] U h) (λF h1=>WS (b F h1) (I<|i+1) R) λ_ _=>False)(done:∀U h,I xs.length U h->N U h)(start:I 0 U h):WS (JZ ba g b xs U h) N R:=by
 have G:∀(n i:Nat)(U:aI)(h:IH),xs.length-i=n->i<=xs.length->I i U h->WS (JZ ba g b (xs.drop i) U h) N R:=by
  intro n;induction n with|zero=>intro i U h hn hi D;have:i=xs.length:=05;subst this;rw[uu];unfold JZ;rw[if_pos<|H _ _ _ D];show done _ _ D|succ n L=>
   intro i U h hn hi D;have k:i<xs.length:=nA 06;rw[oN k];unfold JZ;rw[if_pos<|H _ _ _ D];have t:=E i k U h D;cases C:g xs[i] U h with
   |next F h1=>rw[C]at t;have j:WS (b F h1) (I<|i+1) R:=t;dsimp only;cases B:b F h1 with|next u J=>rw[B]at j;show L (i+1) u J (congrArg rF 06) k j|ret v J=>rw[B]at j;show j|brk u J=>rw[B]at j;show j.elim|cont u J=>rw[B]at j;show j.elim|exc m u J=>rw[B]at j;show j.elim|stuck=>rw[B]at j;show j.elim
   |ret v h1=>rw[C]at t;show t.elim
   |brk u J=>rw[C]at t;show t.elim
   |cont u J=>rw[C]at t;show t.elim
   |exc m u J=>rw[C]at t;show t.elim
   |stuck=>rw[C]at t;show t.elim
 have:=G xs.length 0 U h 04 (ZW _) start;simpa using this
end
section
variable{α:Type}{h h1:IH}{a:α}{r:Res α}{P:IV->IH->Prop}
def Ju(x:WR r λv h'=>v=a/\h'=h1):r=.ok a h1:=by let#[_,_,e,rfl,rfl]:=x.eq;show e
def WG(xs)(n):WR (Jg (.tup xs) (.int n) h) P=∃x,a7 xs n=V x/\P x h:=by unfold Jg;cases e:a7 xs n<;>simp[WR,e]
def WH(xs)(n):WR (Jg (.cG xs) (.int n) h) P=∃x,a7 xs n=V x/\P x h:=by unfold Jg;cases e:a7 xs n<;>simp[WR,e]
def WI(i)(n):WR (Jg (.ref i) (.int n) h) P=∃xs,h[i]?=V (.lst xs)/\∃x,a7 xs n=V x/\P x h:=by
 unfold Jg;cases e:h[i]? with|none=>simp[WR,e]|some o=>cases o with|lst xs=>cases j:a7 xs n<;>simp[WR,e,j]|_=>simp[WR,e]
def WJ(i):WR (aS (.ref i) h) P=∃xs,h[i]?=V (.lst xs)/\P (.int xs.length) h:=by unfold aS;cases e:h[i]? with|none=>simp[WR,e]|some o=>cases o<;>simp[WR,e]
def Hi(x):WR (aS (.str x) h) P=(x.length<=sizeLine/\P (.int x.length) h):=by unfold aS;rw[Va];by_cases hm:x.length<=sizeLine<;>simp[hm,WR]
def JE{n:Nat}(e:xs[n]?=V x):a7 xs (n:Int)=V x:=by have hn:=(Zs.mp e).1;have:(n:Int)<xs.length:=lZ.mpr 06;simp[a7,jS,this,e]
def JU:a7 (x::xs) 0=V x:=by simp[a7,jS]
theorem JI:a7 (x::y::xs) 1=V y:=JE rfl
theorem Qj:a7 (x::y::z::xs) 2=V z:=JE rfl
theorem Xb:a7 (x::y::z::u::xs) 3=V u:=JE rfl
theorem Yk:a7 (x::y::z::u::v::xs) 4=V v:=JE rfl
def Bz(h0:0<=n)(e:xs[n.toNat]?=V x):a7 xs n=V x:=by have:=JE e;rwa [sf h0]at this
def YO(e:h[i]?=V (.lst xs)):gp (.ref i) h=V .lst:=by simp[gp,e]
def grow{i:Nat}(e:h[i]?=V o):(h++g)[i]?=V o:=by rw[ZV (Zs.mp e).1];show e
theorem Jo:(h++[o])[h.length]?=V o:=03
theorem JJ(e:h[i]?=V o):i<h.length:=(Zs.mp e).1
theorem Hj(f):∀xs:Tu,Xz (xs.map λx=>.bl<|f x)=V (xs.map f)|[]=>rfl|x::xs=>by simp[Xz,Hj f xs]
def all_map{xs:Tu}(e:h[i]?=V (.lst<|xs.map λx=>.bl<|f x)):allI (.ref i) h=.ok (.bl<|xs.all f) h:=by simp[allI,e,Hj]
end
def Ex(h h':IH):Prop:=∃g,h'=h++g
theorem Ex.refl(h):Ex h h:=#[[],03]
def Ex.trans(a:Ex h h1)(b:Ex h1 J):Ex h J:=by let#[g,rfl]:=a;let#[j,rfl]:=b;show#[g++j,03]
def Ex.get(a:Ex h h'){i:Nat}(e:h[i]?=V o):h'[i]?=V o:=by let#[g,rfl]:=a;show grow e
theorem Ex.one(h)(o):Ex h (h++[o]):=#[[o],rfl]
def Ex.len(a:Ex h h'):h.length<=h'.length:=by let#[g,rfl]:=a;simp
section
variable{α:Type}{h:IH}
theorem BA(i0):∀{xs acc:Tu}{o:Te}{h1:IH},h1[i0]?=V (.lst acc)->(∀J,(∀j ob,j≠i0->h1[j]?=V ob->J[j]?=V ob)->ba J)->acc.length+xs.length<sizeLine ->(∀x∈xs,∀J,(∀j ob,j≠i0->h1[j]?=V ob->J[j]?=V ob)->WR (t (V x::caps) J) λb h3=>b=p x/\Ex J h3) ->(∀x∈xs,p x=Zj->∀J,(∀j ob,j≠i0->h1[j]?=V ob->J[j]?=V ob)->WR (e (V x::caps) J) λv h3=>v=f x/\Ex J h3) ->WR (JV ba (aV 0) t e i0 xs (o::caps) h1) λv h3=>v=.ref i0/\∃g,h3=h1.set i0 (.lst<|acc++(xs.filter p).map f)++g
 |[],acc,o,h1,hi,hc,_,_,_=>by
  unfold JV;rw[if_pos<|hc h1 λ_ _ _ q=>q];calc#[rfl,[],?_];simp;calc(rL λj=>?_);by_cases I:j=i0
  .subst I;rw[hi,iV<|JJ hi]
  .rw[hL<|bI I]
 |x::xs,acc,o,h1,hi,hc,hl,ht,he=>by
  unfold JV;rw[if_pos<|hc h1 λ_ _ _ q=>q];dsimp only[aV,yw];have H:acc.length+xs.length+1<sizeLine:=by simpa[rE]using hl
  let#[b,J,M,rfl,u]:=(ht x ZD h1 λ_ _ _ q=>q).eq;rw[M];have k:∀j ob,j≠i0->h1[j]?=V ob->J[j]?=V ob:=λj ob _ q=>u.get q
  cases F:p x with
  |false=>
   dsimp only;refine WR.mono (BA i0 (u.get hi) (λh3 q=>hc h3 λj ob n r=>q j ob n<|k j ob n r) (lF 06) (λy C h3 q=>ht y (Zt _ C) h3 λj ob n r=>q j ob n<|k j ob n r) λy C m h3 q=>he y (Zt _ C) m h3 λj ob n r=>q j ob n<|k j ob n r) λv h3 ⟨ev,g,G⟩=>#[ev,?_]
   let#[g2,rfl]:=u;calc#[g2++g,?_];rw[G,mE (h:=JJ hi)];simp[F]
  |true=>
   dsimp only;let#[v,h3,L,rfl,E]:=(he x ZD F J k).eq;rw[L];dsimp only;rw[E.get<|u.get hi];dsimp only;rw[if_pos<|kr (Zk _ _) 06];have B:∀j ob,j≠i0->h1[j]?=V ob->(h3.set i0<|.lst<|acc++[f x])[j]?=V ob:=λj ob n q=>by rw[hL<|bI n];show E.get<|u.get q
   refine WR.mono (BA i0 (acc:=acc++[f x]) (by rw[iV<|JJ<|E.get<|u.get hi]) (λD q=>hc D λj ob n r=>q j ob n<|B j ob n r) (by simp;(rw[oJ];show H)) (λy C D q=>ht y (Zt _ C) D λj ob n r=>q j ob n<|B j ob n r) λy C m D q=>he y (Zt _ C) m D λj ob n r=>q j ob n<|B j ob n r) λv D ⟨ev,g,G⟩=>#[ev,?_]
   let#[P,O]:=u.trans E;calc#[P++g,?_];rw[G,O,mE (h:=JJ hi),mE (h:=by rw[oR];show JJ hi),uB];simp[F]
def YS(m:WR (it U h0) λbB h1=>bB.xs=xs/\bB.ba=ba/\h1=h)(E:xs.length<sizeLine) (F:∀J:IH,(∀(j:Nat)(ob:IX),h[j]?=V ob->J[j]?=V ob)->ba J) (D:∀x∈xs,∀J:IH,(∀(j:Nat)(ob:IX),h[j]?=V ob->J[j]?=V ob)->WR (t (V x::js.map λj=>(U[j]?).join) J) λb h3=>b=p x/\Ex J h3) (H:∀x∈xs,p x=Zj->∀J:IH,(∀(j:Nat)(ob:IX),h[j]?=V ob->J[j]?=V ob)->WR (e (V x::js.map λj=>(U[j]?).join) J) λv h3=>v=f x/\Ex J h3):WR (Jy it 1 js (aV 0) t e U h0) λv h3=>v=.ref h.length/\∃g,h3=h++.lst ((xs.filter p).map f)::g:=by
 let#[bB,h1,I,q1,B,rfl]:=m.eq;unfold Jy;rw[I];change WR (JV bB.ba (aV 0) t e h1.length bB.xs (Zg::js.map λj=>(U[j]?).join)<|h1++[.lst []]) _;rw[q1,B];have k:∀{J:IH},(∀j ob,j≠h1.length->(h1++[IX.lst []])[j]?=V ob->J[j]?=V ob)->∀j ob,h1[j]?=V ob->J[j]?=V ob:=λq j ob r=>q j ob (Zv<|JJ r)<|grow r
 refine WR.mono (BA h1.length Jo (λJ q=>F J<|k q) (by simpa using E) (λx u J q=>D x u J<|k q) λx u C J q=>H x u C J<|k q) λv h3 ⟨ev,g,G⟩=>#[ev,g,?_]
 rw[G];simp
theorem BB(xs:List α):xs.filter (λ_=>Zj)=xs:=yt.mpr 03
def Qg(k:WR (it U h0) λbB h1=>bB.xs=xs/\bB.ba=ba/\h1=h)(C:xs.length<sizeLine) (u:∀J:IH,(∀(j:Nat)(ob:IX),h[j]?=V ob->J[j]?=V ob)->ba J) (m:∀x∈xs,∀J:IH,(∀(j:Nat)(ob:IX),h[j]?=V ob->J[j]?=V ob)->WR (e (V x::js.map λj=>(U[j]?).join) J) λv h3=>v=f x/\Ex J h3):WR (Jy it 1 js (aV 0) JB e U h0) λv h3=>v=.ref h.length/\∃g,h3=h++.lst (xs.map f)::g:=by
 have:=YS (t:=JB) k C u (λ_ _ J _=>#[rfl,.refl _]) λx B _ J q=>m x B J q
 rwa [BB]at this
theorem J1:(h++o::g)[h.length]?=V o:=03
theorem Ex.cons(h)(o)(g):Ex h (h++o::g):=#[_,rfl]
end
section
variable{U:aI}{h h1:IH}{Q:IV->IH->Prop}{bB:jW->IH->Prop}
def JN(e):WR (Jw e U h) bB=WR (e U h) λv h1=>WR (vW v h1) bB:=by unfold Jw;rw[JD]
def Vz(f)(a):WR (c4 f a U h) bB=WR (a U h) λvs h1=>WR (f vs h1) bB:=by unfold c4;rw[JD]
def JR(i):WR (vW (.ref i) h) bB=∃xs,h[i]?=V (.lst xs)/\bB #[xs,λh'=>h'[i]?=V (.lst xs)] h:=by change WR (iq (.ref i) h) bB=_;unfold iq;cases e:h[i]? with|none=>simp[WR,e]|some o=>cases o<;>simp[WR,e]
theorem Hk(xs):WR (vW (.tup xs) h) bB=bB #[xs,λ_=>True] h:=rfl
def Hl(i):WR (V5 [.ref i] h) bB=∃xs,h[i]?=V (.lst xs)/\bB #[Q9 0 xs,λh'=>h'[i]?=V (.lst xs)] h:=by change WR (V4 [.ref i] h) bB=_;unfold V4;cases e:h[i]? with|none=>simp[WR,e]|some o=>cases o<;>simp[WR,e]
def Xs(j):WR (Qd [.int j] h) bB=((-(2^62)<=j/\j<2^62)/\bB #[aX 0 j,λ_=>True] h):=by unfold Qd;rw[Va];show propext #[λ⟨a,b⟩=>(yV _).elim (λq=>#[q,a q]) λq=>(b q).elim,λ⟨a,b⟩=>#[λ_=>b,λq=>absurd a q]]
def WK(i j):WR (VN [.int i,.int j] h) bB=((-(2^62)<=i/\i<2^62/\ -(2^62)<=j/\j<2^62)/\bB #[aX i j,λ_=>True] h):=by unfold VN;rw[Va];show propext #[λ⟨a,b⟩=>(yV _).elim (λq=>#[q,a q]) λq=>(b q).elim,λ⟨a,b⟩=>#[λ_=>b,λq=>absurd a q]]
def JH(i j):(aX i j).length=(j-i).toNat:=by simp[aX]
def Qw(i j)(n)(hn:n<(aX i j).length):(aX i j)[n]=.int (i+n):=by simp[aX]
def Hm(xs)(n:Nat)(hn):(Q9 0 xs)[n]=.tup [.int n,xs[n]'(by rwa [Xf]at hn)]:=by have:=vV xs 0 n;rw[Zd hn,Zd<|by rwa [Xf]at hn]at this;simpa using this
def Xt(i)(lo hi):WR (ir (.ref i) lo hi h) Q=∃xs,h[i]?=V (.lst xs)/\Q (.ref h.length) (h++[.lst<|dY xs lo hi]):=by unfold ir;cases e:h[i]? with|none=>simp[WR,e]|some o=>cases o<;>simp[WR,e]
theorem Hn(n d):HT.bT n d Zg=d:=HT.kH n d
def Yq(xs:List α)(n:Nat):dY xs Zg (V (n:Int))=xs.take n:=by unfold dY;rw[Hn,HT.jC];simp
def BC(xs:List α)(n:Nat):dY xs (V (n:Int)) Zg=xs.drop n:=by
 unfold dY;rw[Hn,HT.jC];by_cases hn:n<=xs.length
 .rw[yj hn];show mC 03
 .rw[Nat.min_eq_right<|Z3<|yi hn,uu,yp<|Z3<|yi hn];simp
variable{P:Pg}{m:Str}{n i:Nat}{o:E1}{a:A1}{xs:Tu}{c:Str}{fs:Wo}
def WL(e:o U h=.ok (.ref i) h1)(j:h1[i]?=V (.lst xs))(u:dA "list" m n=V g):WR (Jp P m n o a U h) Q=WR (a U h1) λvs J=>WR (g (.ref i) vs J) Q:=by
 unfold Jp;rw[e];have k:VM (.ref i) h1=Zn:=by simp[VM,j]
 have B:oB (.ref i) h1="list":=by simp[oB,j]
 dsimp only;rw[k,B,u];rw[if_neg Zx];unfold pJ;rw[e,JD,Xr];have:dI "list" (.ref i) h1=Zj:=by simp[dI,j]
 rw[if_pos this,JD]
def Ho(e:o U h=.ok (.ref i) h1)(hi:h1[i]?=V (.ins c fs))(k:fs.lookup m=Zg)(hd:Qb P m n c=V (f,d)):WR (Jp P m n o a U h) Q=WR (a U h1) λvs J=>WR (f (.ref i::(vs++d)) J) Q:=by
 unfold Jp;rw[e];have j:VM (.ref i) h1=Zj:=by simp[VM,hi]
 dsimp only;rw[j,if_pos rfl];unfold vH;rw[e,JD,Xr];dsimp only;rw[hi];dsimp only;rw[hd,k];rw[JD]
def WM(y):WR (Xa (.ref i) [y] h) Q=∃xs,h[i]?=V (.lst xs)/\xs.length<sizeLine/\Q .af (h.set i<|.lst<|xs++[y]):=by
 unfold Xa;cases e:h[i]? with|none=>simp[WR,e]|some ob=>cases ob with|lst xs=>by_cases j:xs.length<sizeLine<;>simp[WR,e,j]|_=>simp[WR,e]
theorem Xc:dA "list" "append" 1=V Xa:=02
def QB(e:h[i]?=V (.ins c fs)):Ve f (.ref i) h=fs.lookup f:=by simp[Ve,e]
def WN:WR (Vv (.ref i) h) Q=∃xs,h[i]?=V (.lst xs)/\Q (.ref h.length) (h++[.lst xs]):=by unfold Vv;cases e:h[i]? with|none=>simp[WR,e]|some ob=>cases ob<;>simp[WR,e]
def Hr:WR (VW (.ref i) h) Q=∃xs,h[i]?=V (.lst xs)/\Q (.tup xs) h:=by unfold VW;cases e:h[i]? with|none=>simp[WR,e]|some ob=>cases ob<;>simp[WR,e]
end
section
variable{U:aI}{h:IH}{Q:IV->IH->Prop}
def wJ(i j):WR (Jr (.ref i) (.ref j) h) Q=∃xs,h[i]?=V (.lst xs)/\∃ys,h[j]?=V (.lst ys)/\xs.length+ys.length<=sizeLine/\Q (.ref h.length) (h++[.lst<|xs++ys]):=by
 unfold Jr;dsimp only;split
 .rename_i xs ys e m;rw[Va];refine propext #[λ⟨a,b⟩=>?_,λ⟨B,f,u,k,l,q⟩=>?_]
  .by_cases l:xs.length+ys.length<=sizeLine
   .show#[xs,e,ys,m,l,a l]
   .show(b l).elim
  .rw[e]at f;rw[m]at k;cases f;cases k;show#[λ_=>q,λn=>absurd l n]
 .rename_i no;show propext #[iN,λ⟨xs,f,ys,k,_⟩=>(no xs ys f k).elim]
def WO(i):WR (iw (.int i) h) Q=(i.natAbs.log2<1920/\Q (.str<|toString i) h):=by unfold iw;rw[Va];simp![Xr,UJ,imp_false,Decidable.not_not,eq_iff_iff];show#[λ⟨a,b⟩=>#[b,a b],λ⟨a,b⟩=>#[λ_=>b,a]]
end
section
variable{U:aI}{h h1:IH}{Q:IV->IH->Prop}{P:Pg}{m:Str}{n i:Nat}{o:E1}{a:A1}{x:Str}
def WQ(e:o U h=.ok (.str x) h1)(k:dA "str" m n=V g):WR (Jp P m n o a U h) Q=WR (a U h1) λvs J=>WR (g (.str x) vs J) Q:=by unfold Jp;rw[e];have j:VM (.str x) h1=Zn:=rfl;have u:oB (.str x) h1="str":=rfl;dsimp only;rw[j,u,k];rw[if_neg Zx];unfold pJ;rw[e,JD,Xr];have:dI "str" (.str x) h1=Zj:=rfl;rw[if_pos this,JD]
theorem WT:dA "str" "join" 1=V XD:=02
theorem BD:dA "list" "extend" 1=V X9:=02
def WU:WR (XD (.str x) [.ref i] h) Q=∃xs,h[i]?=V (.lst xs)/\∃zs,QL xs=V zs/\JoinOk x zs=Zj/\Q (.str<|Txt.join x zs) h:=by
 unfold XD;cases e:h[i]? with|none=>simp[WR,e]|some ob=>
  cases ob with
  |lst xs=>cases q:QL xs with|none=>simp[WR,e,q]|some zs=>by_cases j:JoinOk x zs=Zj<;>simp[WR,e,q,j]
  |_=>simp[WR,e]
theorem BE:∀zs:Tj,QL (zs.map IV.str)=V zs|[]=>rfl|z::zs=>by rw[ZN,QL,BE zs];rfl
end
section
variable{U:aI}{h:IH}{Q:IV->IH->Prop}{i:Nat}
def BF:WR (gu (.ref i) h) Q=∃xs,h[i]?=V (.lst xs)/\∃ns,JL xs=V ns/\Q (.int ns.sum) h:=by
 unfold gu;cases e:h[i]? with|none=>simp[WR,e]|some ob=>cases ob with|lst xs=>cases q:JL xs<;>simp[WR,e,q]|_=>simp[WR,e]
theorem Vf:∀ns:To,JL (ns.map IV.int)=V ns|[]=>rfl|n::ns=>by rw[ZN,JL,Vf ns];rfl
def WV(aa)(md):WR (X6 aa md U h) Q=WR (aa U h) λxs h1=>WR (md U h1) λd J=>∃i,xs=[.ref i]/\∃ys,J[i]?=V (.lst ys)/\∃ns,JL ys=V ns/\Q (maxD ns d) J:=by
 unfold X6;rw[JD];congr 1;funext xs h1;rw[JD];congr 1;funext d J;match xs with
 |[.ref i]=>
  simp;cases e:J[i]? with|none=>simp[WR]|some ob=>cases ob with|lst ys=>cases q:JL ys<;>simp[WR,q]|_=>simp[WR]
 |[]=>simp[WR]
 |[.af]=>simp[WR]
 |[.bl _]=>simp[WR]
 |[.int _]=>simp[WR]
 |[.str _]=>simp[WR]
 |[.tup _]=>simp[WR]
 |[.cG _]=>simp[WR]
 |x::_::_=>cases x<;>simp[WR]
def WW(aa):WR (Yw aa U h) Q=WR (aa U h) λxs h1=>∃i,xs=[.ref i]/\∃ys,h1[i]?=V (.lst ys)/\∃zs,QL ys=V zs/\zs.length+1<nU/\Q (.int<|gw (QY zs) zs.length) h1:=by
 unfold Yw;rw[JD];congr 1;funext xs h1;match xs with
 |[.ref i]=>
  simp;cases e:h1[i]? with|none=>simp[WR]|some ob=>
   cases ob with
   |lst ys=>cases q:QL ys with|none=>simp[WR,q]|some zs=>by_cases j:zs.length+1<nU<;>simp[WR,q,j]
   |_=>simp[WR]
 |[]=>simp[WR]
 |[.af]=>simp[WR]
 |[.bl _]=>simp[WR]
 |[.int _]=>simp[WR]
 |[.str _]=>simp[WR]
 |[.tup _]=>simp[WR]
 |[.cG _]=>simp[WR]
 |x::_::_=>cases x<;>simp[WR]
theorem Hs(nd:zs.Nodup):∀i,i<=zs.length->gw (QY zs) i=i
 |0,_=>rfl
 |i+1,hi=>by
  have m:=Hs nd i<|Z3 06;have hm:jk (QY zs) i (QY zs i)=Zn:=by unfold jk;rw[yy];intro j k;have k:=hU.mp k;simp;intro e;simp![QY,Zd (show j<zs.length by show qk 06 06),Zd<|show i<zs.length by show hi]at e;have:=(ur nd).mp e;show uf k<|Zi this
  unfold gw;rw[hm,m];rfl
theorem BG(f):∀(n j:Nat),j<n->f j<=JM f n
 |0,_,h=>by show absurd 06<|oM _
 |1,j,h=>by
  obtain rfl:j=0:=by show qg 06
  show ZJ _
 |n+2,j,h=>by
  rw[vZ f<|by show fX _];by_cases k:j=n+1
  .subst k;split<;>(first|show cT.mp 06|show ZJ _|lia)
  .have:=BG f (n+1) j<|by show iH (yh h) k
   split<;>(first|show ZG (Zy this 06)|show this|lia)
theorem wK(f)(b):∀(n:Nat),0<n->(∀j,j<n->f j<=b)->JM f n<=b
 |0,h,_=>absurd 06<|iU _
 |1,_,q=>q 0 06
 |n+2,_,q=>by
  rw[vZ f<|fX _];have:=wK f b (n+1) (fX _) λj k=>q j<|fP 06
  have:=q (n+1)<|ZS _;split<;>assumption
end
section
variable{h:IH}{Q:IV->IH->Prop}{i:Nat}
def BH(hi:h[i]?=V (.lst xs))(m:h[j]?=V (.lst ys))(k:xs.length+ys.length<=sizeLine):WR (X9 (.ref i) [.ref j] h) Q=Q .af (h.set i<|.lst<|xs++ys):=by unfold X9;simp![hi,m];rw[if_pos k];rfl
end
def iR(i0:Nat)(h h':IH):Prop:=∀(j:Nat)(ob:IX),j≠i0->h[j]?=V ob->h'[j]?=V ob
def Kp(h h':IH):Prop:=∀(j:Nat)(ob:IX),h[j]?=V ob->h'[j]?=V ob
theorem iR.trans(p:iR i0 a b)(q:iR i0 b c):iR i0 a c:=λj ob n e=>q j ob n<|p j ob n e
theorem Kp.but(p:Kp a b):iR i0 a b:=λj ob _ e=>p j ob e
theorem Ex.kp(x:Ex a b):Kp a b:=λ_ _ e=>x.get e
theorem Ht{D:IV->IV->IH->Prop}(i0)(mono:∀x y J h3,iR i0 J h3->D x y J->D x y h3):∀{xs acc:Tu}{o:Te}{h1:IH},h1[i0]?=V (.lst acc)->(∀J,iR i0 h1 J->ba J)->acc.length+xs.length<sizeLine ->(∀x∈xs,∀J:IH,iR i0 h1 J->i0<J.length->WR (e (V x::caps) J) λv h3=>Ex J h3/\D x v h3) ->WR (JV ba (aV 0) JB e i0 xs (o::caps) h1) λv h3=>v=.ref i0/\∃ys,h3[i0]?=V (.lst<|acc++ys)/\ys.length=xs.length/\iR i0 h1 h3/\∀(i:Nat) x y,xs[i]?=V x->ys[i]?=V y->D x y h3
 |[],acc,o,h1,hi,hc,_,_=>by unfold JV;rw[if_pos<|hc h1 λ_ _ _ q=>q];show#[rfl,[],by simpa using hi,rfl,λ_ _ _ q=>q,λi x y q=>by simp at q]
 |x::xs,acc,o,h1,hi,hc,hl,he=>by
  unfold JV;rw[if_pos<|hc h1 λ_ _ _ q=>q];dsimp only[aV,yw,JB];have C:acc.length+xs.length+1<sizeLine:=by simpa[rE]using hl
  let#[v,h3,G,E,dv]:=(he x ZD h1 (λ_ _ _ q=>q)<|JJ hi).eq;rw[G];dsimp only;rw[E.get hi];dsimp only;rw[if_pos<|kr (Zk _ _) 06];have m:iR i0 h3 (h3.set i0<|.lst<|acc++[v]):=λj ob n q=>by rw[hL<|bI n];show q
  have k:=E.kp.but.trans m;calc WR.mono (Ht i0 mono (by rw[iV<|JJ<|E.get hi]) (λB q=>hc B<|k.trans q) (by simp;(rw[oJ];show C)) λy O B q=>he y (Zt _ O) B<|k.trans q) ?_;rintro w P ⟨rfl,ys,I,ln,F,H⟩;calc#[rfl,v::ys,by simpa using I,by simp[ln],k.trans F,?_];intro i L M q1 u;cases i with
  |zero=>simp at q1 u;subst q1;subst u;show mono _ _ _ _ (m.trans F) dv
  |succ i=>show H i L M (by simpa using q1)<|by simpa using u
def WX(D:IV->IV->IH->Prop)(m:WR (it U h0) λbB h1=>bB.xs=xs/\bB.ba=ba/\h1=h)(C:xs.length<sizeLine) (mono:∀x y J h3,iR h.length J h3->D x y J->D x y h3)(F:∀J:IH,Kp h J->ba J) (H:∀x∈xs,∀J:IH,Kp h J->h.length<J.length->WR (e (V x::js.map λj=>(U[j]?).join) J) λv h3=>Ex J h3/\D x v h3):WR (Jy it 1 js (aV 0) JB e U h0) λv h3=>v=.ref h.length/\∃ys,h3[h.length]?=V (.lst ys)/\ys.length=xs.length/\Kp h h3/\∀(i:Nat) x y,xs[i]?=V x->ys[i]?=V y->D x y h3:=by
 let#[bB,h1,L,q1,B,rfl]:=m.eq;unfold Jy;rw[L];change WR (JV bB.ba (aV 0) JB e h1.length bB.xs (Zg::js.map λj=>(U[j]?).join)<|h1++[.lst []]) _;rw[q1,B];have k:∀{J:IH},iR h1.length (h1++[IX.lst []]) J->Kp h1 J:=λq j ob r=>q j ob (Zv<|JJ r)<|grow r
 calc WR.mono (Ht h1.length mono Jo (λJ q=>F J<|k q) (by simpa using C) λx I J q ln=>H x I J (k q) ln) ?_;rintro v h3 ⟨rfl,ys,G,ln,E,u⟩;show#[rfl,ys,by simpa using G,ln,k E,u]
section
variable{h:IH}
theorem BI{st:IV->aI}(i0):∀{xs acc:Tu}{u:aI}{h1:IH},u.length=n->h1[i0]?=V (.lst acc)->(∀J,(∀j ob,j≠i0->h1[j]?=V ob->J[j]?=V ob)->ba J)->acc.length+xs.length<sizeLine ->(∀x∈xs,∀(u:aI)(J:IH),u.length=n->(st x).length=n/\g x (u++caps) J=.next (st x++caps) J) ->(∀x∈xs,∀J,(∀j ob,j≠i0->h1[j]?=V ob->J[j]?=V ob)->WR (t (st x++caps) J) λb h3=>b=p x/\Ex J h3) ->(∀x∈xs,p x=Zj->∀J,(∀j ob,j≠i0->h1[j]?=V ob->J[j]?=V ob)->WR (e (st x++caps) J) λv h3=>v=f x/\Ex J h3) ->WR (JV ba g t e i0 xs (u++caps) h1) λv h3=>v=.ref i0/\∃g,h3=h1.set i0 (.lst<|acc++(xs.filter p).map f)++g
 |[],acc,u,h1,_,hi,hc,_,_,_,_=>by
  unfold JV;rw[if_pos<|hc h1 λ_ _ _ q=>q];calc#[rfl,[],?_];simp;calc(rL λj=>?_);by_cases M:j=i0
  .subst M;rw[hi,iV<|JJ hi]
  .rw[hL<|bI M]
 |x::xs,acc,u,h1,hls,hi,hc,hl,hg,ht,he=>by
  unfold JV;rw[if_pos<|hc h1 λ_ _ _ q=>q];let#[O,I]:=hg x ZD u h1 hls;rw[I];dsimp only;have L:acc.length+xs.length+1<sizeLine:=by simpa[rE]using hl
  let#[b,J,Q,rfl,C]:=(ht x ZD h1 λ_ _ _ q=>q).eq;rw[Q];have m:∀j ob,j≠i0->h1[j]?=V ob->J[j]?=V ob:=λj ob _ q=>C.get q
  cases G:p x with
  |false=>
   dsimp only;refine WR.mono (BI i0 O (C.get hi) (λh3 q=>hc h3 λj ob n r=>q j ob n<|m j ob n r) (lF 06) (λy k=>hg y<|Zt _ k) (λy k h3 q=>ht y (Zt _ k) h3 λj ob n r=>q j ob n<|m j ob n r) λy k B h3 q=>he y (Zt _ k) B h3 λj ob n r=>q j ob n<|m j ob n r) λv h3 ⟨ev,g,H⟩=>#[ev,?_]
   let#[g2,rfl]:=C;calc#[g2++g,?_];rw[H,mE (h:=JJ hi)];simp[G]
  |true=>
   dsimp only;let#[v,h3,P,rfl,F]:=(he x ZD G J m).eq;rw[P];dsimp only;rw[F.get<|C.get hi];dsimp only;rw[if_pos<|kr (Zk _ _) 06];have D:∀j ob,j≠i0->h1[j]?=V ob->(h3.set i0<|.lst<|acc++[f x])[j]?=V ob:=λj ob n q=>by rw[hL<|bI n];show F.get<|C.get q
   refine WR.mono (BI i0 (acc:=acc++[f x]) O (by rw[iV<|JJ<|F.get<|C.get hi]) (λE q=>hc E λj ob n r=>q j ob n<|D j ob n r) (by simp;(rw[oJ];show L)) (λy k=>hg y<|Zt _ k) (λy k E q=>ht y (Zt _ k) E λj ob n r=>q j ob n<|D j ob n r) λy k B E q=>he y (Zt _ k) B E λj ob n r=>q j ob n<|D j ob n r) λv E ⟨ev,g,H⟩=>#[ev,?_]
   let#[S,R]:=C.trans F;calc#[S++g,?_];rw[H,R,mE (h:=JJ hi),mE (h:=by rw[oR];show JJ hi),uB];simp[G]
def WY{st:IV->aI}(m:WR (it U h0) λbB h1=>bB.xs=xs/\bB.ba=ba/\h1=h)(G:xs.length<sizeLine) (H:∀J:IH,(∀(j:Nat)(ob:IX),h[j]?=V ob->J[j]?=V ob)->ba J) (C:∀x∈xs,∀(B:aI)(J:IH),B.length=n->(st x).length=n/\g x (B++js.map λj=>(U[j]?).join) J=.next (st x++js.map λj=>(U[j]?).join) J) (F:∀x∈xs,∀J:IH,(∀(j:Nat)(ob:IX),h[j]?=V ob->J[j]?=V ob)->WR (t (st x++js.map λj=>(U[j]?).join) J) λb h3=>b=p x/\Ex J h3) (L:∀x∈xs,p x=Zj->∀J:IH,(∀(j:Nat)(ob:IX),h[j]?=V ob->J[j]?=V ob)->WR (e (st x++js.map λj=>(U[j]?).join) J) λv h3=>v=f x/\Ex J h3):WR (Jy it n js g t e U h0) λv h3=>v=.ref h.length/\∃g,h3=h++.lst ((xs.filter p).map f)::g:=by
 let#[bB,h1,M,q1,D,rfl]:=m.eq;unfold Jy;rw[M];change WR (JV bB.ba g t e h1.length bB.xs (fw n Zg++js.map λj=>(U[j]?).join)<|h1++[.lst []]) _;rw[q1,D];have k:∀{J:IH},(∀j ob,j≠h1.length->(h1++[IX.lst []])[j]?=V ob->J[j]?=V ob)->∀j ob,h1[j]?=V ob->J[j]?=V ob:=λq j ob r=>q j ob (Zv<|JJ r)<|grow r
 refine WR.mono (BI h1.length (rG ..) Jo (λJ q=>H J<|k q) (by simpa using G) C (λx u J q=>F x u J<|k q) λx u E J q=>L x u E J<|k q) λv h3 ⟨ev,g,I⟩=>#[ev,g,?_]
 rw[I];simp
end
def BJ(ts:Ts)(H:Hp):Prop:=∀b,H b=Zg\/(∃o xs,H b=V (.bw o<|.lst xs))\/(b∈ts/\H b=V (.hY #[]))
def WZ{K:W.Frag}
  (KX:K.In s₁.heap)(O:s₁.heap.Ns Z2 mg)(Z:s₁.heap.Ns nR mb)(hbb:∀x:Str,x≠"__name__"->mb x=kd x)(U:s₁.heap.NoLimit)(hg:s₁.gens=#[])
  (ha:s₁.heap.get? a=V {cls:=.type "list",data:=.seq vs.toArray})(hi:hX vs ns)(hl:ns.length<=sizeLine)(hr:bu κ k o1)
  (M:∀p∈ts,s₁.heap.get? p=V (W.tabObj #[])/\isCodeTable s₁.heap p/\K.lookup p=Zg)
  (hbm:∃bm ob,mg "__builtins__"=V (.ref bm)/\bm≠nR/\s₁.heap.get? bm=V ob/\ob.cls=.type "module"/\ob.dict=V nR/\ob.data=.plain)
  (F:∀base:bc,K.In base->base.Ns Z2 mg->QH mg base->bM P w K mg base (eB P w) κ k fa fd [x] sp)(hbind:∀(s:Z1)(u:Zu),qK s fd #[[u],[]] [(x,u)])
  (hsp:∀H:Hp,BJ ts H->cf K H a (ns.map bA.int)->(∀p∈ts,H p=V (.hY #[]))->sp [.ref a] H (λv _=>v=.bl Zj) λ_ _ _=>False):
  iK (Z5 P w) o1 (.call (.ref fa) #[[.ref a],[]]) (λr s'=>r=.ok (.ret<|.bool Zj)/\OldK s₁.heap s'.heap/\s'.os=s₁.os/\l5 s'.gens) s₁:=by
 have rv:=L2.Ya hi;have R:=hi.length;have X:a∉ts:=λz=>by
  have e:=(M a z).1;rw[ha]at e;have E:=hV e;injection E with h1
  cases h1
 have G:∀H:Hp,BJ ts H->cf K H a (ns.map bA.int)->cZ P w H s₁.heap->(∀b,H b≠Zg->b=a\/b∈ts)->(H a≠Zg->K.lookup a=Zg)->(∀p∈ts,H p=V (.hY #[])) ->
   iK (Z5 P w) o1 (.call (.ref fa) #[[.ref a],[]]) (λr s'=>r=.ok (.ret<|.bool Zj)/\OldK s₁.heap s'.heap/\s'.os=s₁.os/\l5 s'.gens) s₁:=by
  intro H hO hS az hA hK hTt;have j:∀{b:Z8}{o:Obj},s₁.heap.get? b=V o->H b=Zg->(fA s₁.heap H).get? b=V o:=λe n=>MN e n
  have ic:∀{b:Z8}{o:Obj},s₁.heap.get? b=V o->(∀vs n,o.data≠.seq vs n)->(∀vs,o.data≠.fields vs)->H b=Zg:=λ{b o} e d1 d2=>by
   cases q:H b with|none=>rfl|some u=>
    rcases hA b (by rw[q];simp)with E|E
    .subst E;rw[ha]at e;cases e;show absurd rfl (d1 _ _)
    .rw[(M b E).1]at e;cases e;show absurd rfl (d2 _)
  have C:∀{b:Z8}{m:Str->Tb},s₁.heap.Ns b m->(fA s₁.heap H).Ns b m:=λ{b m} ⟨o,es,ep,e,d,r⟩=>#[o,es,ep,j e (ic e (λ_ _ z=>by rw[d]at z;cases z) λ_ z=>by rw[d]at z;cases z),d,r];have Q:K.In (fA s₁.heap H):=λb o e=>j (KX b o e) (by
   cases q:H b with|none=>rfl|some u=>
    rcases hA b (by rw[q];simp)with E|E
    .subst E;rw[hK<|by rw[q];simp]at e;cases e
    .rw[(M b E).2.2]at e;cases e)
  have hM:Mod K mg (fA s₁.heap H):=#[Q,C O,#[mb,C Z,hbb],let ⟨mc,h1,J⟩:=U;#[mc,C h1,J]];have hB:QH mg (fA s₁.heap H):=by let#[bm,ob,b1,b2,b3,b4,b5,b6]:=hbm;calc#[bm,ob,b1,b2,λz=>?_,j b3 (ic b3 (λ_ _ z=>by rw[b6]at z;cases z) λ_ z=>by rw[b6]at z;cases z),b4,b5,b6];let#[o,es,ep,e,d,_]:=O;rw[<-z,b3]at e;cases e;rw[b6]at d;cases d
  have e0:je P w K mg (fA s₁.heap H) o1 [] s₁ H:=#[rfl,hM,λb o e=>MO e,Zi<|MM _ _,trivial,λb Z=>absurd (show b∈([]:Ts)from Z) 03,az,.of_eq hg,.inl rfl];refine oU ((F _ Q (C O) hB).run o1 [] s₁ H #[[.ref a],[]] [.ref a] [.ref a] _ _ hr e0 (hbind s₁<|.ref a) (.cons rfl .nil)<|hsp H hO hS hTt) λr s' h=>?_
  cases r with|error e=>show h.elim λ_ z=>z.2.2.2.2.elim|ok fl=>
   cases fl with|next=>show iN h|brk=>show iN h|cont=>show iN h|ret u=>
    let#[v,H',os,bare,un,L,r',q]:=h;have q':v=.bl Zj:=q;subst q';obtain rfl:u=qP Zj:=r';have I:∀b o,s₁.heap.get? b=V o->asItWas s₁.heap s'.heap b o/\∃o',s'.heap.get? b=V o':=λb o e=>by
     rcases hO b with z|⟨ob,xs,z⟩|⟨Z,z⟩
     .have:=un.keep b o e z (by intro z;show absurd (show b∈([]:Ts)from z) 03) 03;show#[.inl this,_,this]
     .have z2:=un.bf b ob _ z;let#[Y,_]:=az b _ z;let#[S,_]:=L b _ z2;rw[e]at Y;cases Y;show#[.inl S,_,S]
     .let#[more,z2]:=un.cU b _ z;have S:=L b _ z2;have Y:=(M b Z).1;rw[e]at Y;cases Y;show#[.inr<|.inl #[(M b Z).2.1,rfl,#[],more,rfl,S],_,S]
    show#[rfl,#[λb o e=>(I b o e).1,λb o e=>(I b o e).2],os,bare]
 cases hk:K.lookup a with
 |some o=>
  have e:=KX a o hk;rw[ha]at e;cases e;refine G (λb=>if b∈ts then V (.hY #[])else Zg) (λb=>?_) (.inr #[_,vs.toArray,_,hk,rfl,rfl,rfl,by rw[ZT,R];show hl,by simpa using rv]) (λb u z=>?_) (λb z=>?_) (λz=>absurd (if_neg X) z) λp hp=>if_pos hp
  .by_cases Z:b∈ts
   .show .inr<|.inr #[Z,if_pos Z]
   .show .inl<|if_neg Z
  .by_cases Z:b∈ts
   .have D:=(if_pos Z).symm.trans z;cases D;show(M b Z).1
   .have D:=(if_neg Z).symm.trans z;cases D
  .by_cases Z:b∈ts
   .show .inr Z
   .show absurd (if_neg Z) z
 |none=>
  refine G (λb=>if b=a then V (.bw {cls:=.type "list",data:=.seq vs.toArray} (.lst<|ns.map bA.int))else if b∈ts then V (.hY #[])else Zg) (λb=>?_) (.inl<|.inr #[{cls:=.type "list",data:=.seq vs.toArray},if_pos rfl]) (λb u z=>?_) (λb z=>?_) (λ_=>hk) λp hp=>?_
  .by_cases Z:b=a
   .show .inr<|.inl #[_,_,if_pos Z]
   .by_cases B:b∈ts
    .show .inr<|.inr #[B,(if_neg Z).trans<|if_pos B]
    .show .inl<|(if_neg Z).trans<|if_neg B
  .by_cases Z:b=a
   .have D:=(if_pos Z).symm.trans z;cases D;subst Z;show#[ha,by rw[Zm];show hl,vs,_,rv,ha]
   .by_cases B:b∈ts
    .have D:=((if_neg Z).trans<|if_pos B).symm.trans z;cases D;show(M b B).1
    .have D:=((if_neg Z).trans<|if_neg B).symm.trans z;cases D
  .by_cases Z:b=a
   .show .inl Z
   .by_cases B:b∈ts
    .show .inr B
    .show absurd ((if_neg Z).trans<|if_neg B) z
  .have Z:p≠a:=λz=>X<|z▸hp
   show(if_neg Z).trans<|if_pos hp
noncomputable def BK (o:Obj)(q:Str):Bool:=match o with|⟨_,_,.fields vs,_⟩=>(match vs.toList with|_::.str n _::_=>n==q|_=>Zn)|_=>Zn
def Vn(K:W.Frag)(q:Str)(p:Z8):Bool:=(K.lookup p).isNone&&K.all (λe=>!(BK e.2 q)||W.codeHdIn K e.1 p)&&K.any (λe=>BK e.2 q&&W.codeHdIn K e.1 p)
def Vs(K:W.Frag):Tj->Ts->Bool|[],[]=>Zj|q::qs,p::ps=>Vn K q p&&!ps.contains p&&Vs K qs ps|_,_=>Zn
def W0{K:W.Frag}(h:K.lookup c=V o):(c,o)∈K:=by
 induction K with|nil=>cases h|cons p K k=>
  let#[b,j]:=p;rw[iX]at h;split at h
  .simp_all
  .simp_all
def Vn.code{K:W.Frag}(h:Vn K q p=Zj):∀j,W.codeIn K j q=Zj->∃c,j=.ref c/\W.codeHdIn K c p=Zj:=by
 simp![Vn,Zr,mG,lW]at h;intro j e;unfold W.codeIn at e;split at e
 .rename_i c;calc#[c,rfl,?_];cases k:K.lookup c with|none=>rw[k]at e;cases e|some o=>
   rw[k]at e;rcases h.1.2 _ (W0 k)with z|z
   .exfalso;have B:BK o q=Zj:=by let#[D,E,u,C]:=o;cases u<;>first|show e|cases e
    have m:=z;rw[B]at m;cases m
   .show z
 .cases e
def Vn.some{K:W.Frag}(h:Vn K q p=Zj):K.lookup p=Zg/\∃c,W.codeHdIn K c p=Zj:=by simp![Vn,Zr,mH,Option.isNone_iff_eq_none]at h;let#[#[j,_],e,_,J]:=h;show#[j,e.1,J.2]
theorem Vs.mem{K:W.Frag}:∀{qs:Tj}{ts:Ts},Vs K qs ts=Zj->ts.Nodup/\qs.length=ts.length/\(∀(i:Nat)(q:Str),qs[i]?=V q->∃p,ts[i]?=V p/\Vn K q p=Zj)/\∀p∈ts,∃q,Vn K q p=Zj
 |[],[],_=>#[.nil,rfl,λi q e=>by simp at e,λp B=>by cases B]
 |q::qs,p::ps,h=>by
  simp![Vs,Zr,o3,List.contains_eq_mem,decide_eq_false_iff_not]at h;let#[#[k,J],m]:=h;let#[a,b,c,d]:=Vs.mem m;refine#[rN.mpr #[J,a],by simp[b],λi r e=>?_,λr j=>?_]
  .cases i with|zero=>have u:=e;cases u;show#[p,rfl,k]|succ i=>show c i r e
  .rcases ZC.mp j with rfl|j
   .show#[q,k]
   .show d r j
 |[],_::_,h=>by cases h
 |_::_,[],h=>by cases h
def W5{K:W.Frag}{ns:To}(C:BJ ts H)(u:cf K H a<|ns.map bA.int)(E:∀p∈ts,H p=V (.hY #[]))(D:Vs K qs ts=Zj) (j:∃h',f [.cG<|ns.map IV.int] (qs.map IX.tab)=.ok (.bl Zj) h'):XW K x f [.ref a] H (λv _=>v=.bl Zj) λ_ _ _=>False:=by
 intro B;let#[h',j]:=j;have sr:pE K H a (ns.map bA.int):=by
  rcases u with(h|⟨o,h⟩)|h
  .rcases C a with z|⟨ob,xs,z⟩|⟨_,z⟩
   .rw[z]at h;cases h
   .rw[z]at h;cases h
   .rw[z]at h;cases h
  .show .inl #[o,h]
  .show .inr h
 let#[nd,le,at_,_]:=Vs.mem D;refine#[rfl,ts,qs.map IX.tab,[.cG<|ns.map IV.int],#[by simp[le],nd,λi o e=>?_],#[.ref a,[],rfl,#[a,_,rfl,sr,aC.ints ns],rfl],?_]
 .rw[ZK]at e;cases eq:qs[i]? with|none=>rw[eq]at e;cases e|some q=>rw[eq]at e;cases e;let#[p,k,m]:=at_ i q eq;show#[p,k,Vn.code m,#[],E p<|oP k,trivial,λF I z=>by cases z]
 .rw[j];intro v G J _ _ q;show q
def W8{l:W.OpenLaw}{K:Params->W.Frag} (hn:l.most=V n)(M:n<=sizeLine)(C:d.params.defaults=[])(S:bu κ k o1) (Y:∀(w:bL)(h:bc),YP w h->(K w.params).In h/\∀p∈ts,h.get? p=V (W.tabObj #[]))(O:∀w:bL,Vs (K w.params) qs ts=Zj) (F:∀(w:bL)(mg:Str->Tb)(fa:Z8)(h:bc),(K w.params).In h->h.Ns Z2 mg->mg d.name=V (.ref fa) ->∃fd:i6,(∀(s:Z1)(u:Zu),qK s fd #[[u],[]] [(x,u)]) /\ ∀base:bc,(K w.params).In base->base.Ns Z2 mg->QH mg base->bM l.prog w (K w.params) mg base (eB l.prog w) κ k fa fd [x] (XW (K w.params) x f)) (hf:∀ns:To,ns.length<=n->∃h',f [.cG<|ns.map IV.int] (qs.map IX.tab)=.ok (.bl Zj) h'):W.WalkO q loose XP YP l.row.toRowW d [] (λf vs=>PySem.call f vs):=by
 refine Att.ig hn C λw s₀ s₁ mg mb fa o pm cd doc a vs ns G Q ho hd hcd L B m j hg=>?_
 let#[E,P]:=Y w _ Q;let#[fd,Z,U]:=F w mg fa _ E G.T.g L;refine WZ E G.T.g G.T.b G.T.builtins G.T.nolimit hg B m (Zb j M) S (λp I=>?_) G.T.bmain U Z λH hO R D=>W5 hO R D (O w)<|hf ns j
 let#[q,X]:=(Vs.mem<|O w).2.2.2 p I;let#[h1,c,J]:=Vn.some X;show#[P p I,((W.codeHd_of_K E J).tab<|P p I).isCodeTable,h1]
noncomputable def QI (kf:IV->Int):IV->Tu->IV|b,[]=>b|b,y::r=>if kf y>kf b then QI kf y r else QI kf b r
theorem BL(kf):∀(r:Tu)(b:IV),QI kf b r=b\/QI kf b r∈r
 |[],b=>.inl rfl
 |y::r,b=>by
  unfold QI;split
  .rcases BL kf r y with e|e
   .rw[e];show .inr ZD
   .show .inr<|Zt _ e
  .rcases BL kf r b with e|e
   .show .inl e
   .show .inr<|Zt _ e
theorem BM(kf:IV->Int):∀(r:Tu)(b:IV),kf b<=kf (QI kf b r)/\∀y∈r,kf y<=kf (QI kf b r)
 |[],b=>#[ZJ _,λy m=>by cases m]
 |y::r,b=>by
  unfold QI;split
  .rename_i h;let#[k,J]:=BM kf r y;show#[ZG<|ZF h k,λz j=>by
    rcases ZC.mp j with rfl|j
    .show k
    .show J z j]
  .rename_i h;let#[k,J]:=BM kf r b;show#[k,λz j=>by
    rcases ZC.mp j with rfl|j
    .show ZE (cT.mp h) k
    .show J z j]
theorem BN(hi:h0[i]?=V (.lst ys))(hm:∀y∈ys,∀h,Ex h0 h->WR (mk y h) λv h'=>v=.int (kf y)/\Ex h h'):∀(r:Nat)(b:IV)(h:IH),Ex h0 h->r<=ys.length->WR (QC m8 mk i ys.length r b (.int<|kf b) h) λv h'=>v=QI kf b (ys.drop<|ys.length-r)/\Ex h h'
 |0,b,h,x,_=>by unfold QC;rw[x.get hi];dsimp only;rw[if_pos rfl];calc#[?_,.refl _];rw[Nat.sub_zero,uu];rfl
 |r+1,b,h,x,hr=>by
  unfold QC;rw[x.get hi];dsimp only;rw[if_pos rfl];have j:ys.length-(r+1)<ys.length:=00;rw[Zd j];dsimp only;have hd:ys.drop (ys.length-(r+1))=ys[ys.length-(r+1)]::ys.drop (ys.length-r):=by rw[oN j,show ys.length-(r+1)+1=ys.length-r by show qh<|Nat.sub_pos_of_lt 06]
  let#[v,J,e,rfl,k]:=(hm _ (Z4 j) h x).eq;rw[e,hd];change WR (match m8 (.int<|kf ys[ys.length-(r+1)]) (.int<|kf b)with|some Zj=>_|some Zn=>_|none=>_) _;unfold m8;dsimp only;unfold QI;by_cases Z:kf ys[ys.length-(r+1)]>kf b
  .rw[decide_eq_true Z,if_pos Z];show WR.mono (BN hi hm r _ J (x.trans k)<|Z3 hr) λv h' ⟨a,c⟩=>#[a,k.trans c]
  .rw[decide_eq_false Z,if_neg Z];show WR.mono (BN hi hm r _ J (x.trans k)<|Z3 hr) λv h' ⟨a,c⟩=>#[a,k.trans c]
def Ym(kf:IV->Int)(d:IV):Tu->IV
 |[]=>d
 |y::r=>QI kf y r
def W9(hi:h[i]?=V (.lst ys))(hm:∀y∈ys,∀h',Ex h h'->WR (mk y h') λv J=>v=.int (kf y)/\Ex h' J):WR (QR m8 mk i (V d) h) λv h'=>v=Ym kf d ys/\Ex h h':=by
 unfold QR;rw[hi];dsimp only;cases ys with|nil=>show#[rfl,.refl _]|cons y r=>
  let#[v,J,e,rfl,j]:=(hm y ZD h<|.refl _).eq;change WR ((mk y h).nx.bind λk h'=>QC m8 mk i (y::r).length ((y::r).length-1) y k h') _;rw[e];have:=BN (kf:=kf) (j.get hi) (λz m h' x=>hm z m h'<|j.trans x) ((y::r).length-1) y J (.refl _) 03;refine WR.mono this λv h' ⟨a,c⟩=>#[?_,j.trans c]
  rw[a];simp[Ym]
section
variable{α β:Type}{U:aI}{h:IH}
def WE(r:Res α)(Q:α->IH->Prop)(Z_:Nat->IH->Prop):Prop:=match r with|.ok a h=>Q a h|.exc n h=>Z_ n h|.stuck=>False
def eK(r:bU)(N:aI->IH->Prop)(R:IV->IH->Prop)(Z_:Nat->aI->IH->Prop):Prop:=match r with|.next U h=>N U h|.ret v h=>R v h|.exc n U h=>Z_ n U h|_=>False
variable{Q:α->IH->Prop}{Z_:Nat->IH->Prop}{N:aI->IH->Prop}{R:IV->IH->Prop}{YY:Nat->aI->IH->Prop}
theorem YW(a):WE (.ok a h) Q Z_=Q a h:=rfl
def YQ{Q:β->IH->Prop}(r:Res α)(f):WE (r.bind f) Q Z_=WE r (λa h=>WE (f a h) Q Z_) Z_:=by cases r<;>rfl
def WE.of(w:WR r Q):WE r Q Z_:=by cases r with|ok a h=>show w|exc n h=>show(w).elim|stuck=>show(w).elim
def WE.mono(w:WE r Q Z_)(k:∀a h,Q a h->Q' a h)(j:∀n h,Z_ n h->Z' n h):WE r Q' Z':=by cases r with|ok a h=>show k _ _ w|exc n h=>show j _ _ w|stuck=>show w
def eK.of(w:WS r N R):eK r N R YY:=by cases r with|next U h=>show w|ret v h=>show w|_=>show Zf w
def YV(r:Res α)(k):eK (rS U r k) N R YY=WE r (λa h=>eK (k a h) N R YY) λn h=>YY n U h:=by cases r<;>rfl
def wM(a b):eK (Jh a b U h) N R YY=eK (a U h) (λj h1=>eK (b j h1) N R YY) R YY:=by unfold Jh;cases a U h<;>rfl
theorem YX:eK (Jv U h) N R YY=N U h:=rfl
def YZ(i)(e):eK (Jl i e U h) N R YY=WE (e U h) (λv h1=>N (U.set i<|V v) h1) λn h=>YY n U h:=by unfold Jl;rw[YV];rfl
def Za(e):eK (Jk e U h) N R YY=WE (e U h) R λn h=>YY n U h:=by unfold Jk;rw[YV];rfl
def J6l(t)(a b):eK (bg t a b U h) N R YY=WE (t U h) (λc h1=>(c=Zj->eK (a U h1) N R YY)/\(c=Zn->eK (b U h1) N R YY)) λn h=>YY n U h:=by unfold bg;rw[YV];congr 1;funext c h1;cases c<;>simp
def Hu{Q:IV->IH->Prop}(f)(d)(a):WE (Jm f d a U h) Q Z_=WE (a U h) (λvs h1=>WE (f (vs++d) h1) Q Z_) Z_:=by unfold Jm;rw[YQ]
def J55{Q:IV->IH->Prop}(w:eK r (λ_ h=>Q .af h) Q λn _ h=>(∃c fs,h[n]?=V (.exc c fs))/\Z_ n h):WE r.fin Q Z_:=by cases r with|next U h=>show w|ret v h=>show w|exc n U h=>let#[#[c,fs,e],z]:=w;rw[Rt e];show z|_=>show(w).elim
def J6k(b)(hs)(w:eK (b U h) N R λn j h1=>∃c fs,h1[n]?=V (.exc c fs)/\WS (Xh hs c n j h1) N R):WS (jZ b hs U h) N R:=by unfold jZ;cases e:b U h with|next j h1=>rw[e]at w;show w|ret v h1=>rw[e]at w;show w|exc n j h1=>rw[e]at w;let#[c,fs,k,w]:=w;dsimp only;rw[k];show w|_=>rw[e]at w;show(w).elim
def J2p(it)(g)(b):eK (bV it g b U h) N R YY=WE (it U h) (λbB h1=>eK (JZ bB.ba g b bB.xs U h1) N R YY) λn h=>YY n U h:=by unfold bV;rw[YV]
def Jxs(I:Nat->aI->IH->Prop)(G:∀i U h,I i U h->ba h) (C:∀i (hi:i<xs.length) U h,I i U h->WS (g xs[i] U h) (λD h1=>eK (b D h1) (I<|i+1) R λn u J=>(∃c fs,J[n]?=V (.exc c fs))/\YY n u J) λ_ _=>False)(done:∀U h,I xs.length U h->N U h)(start:I 0 U h):eK (JZ ba g b xs U h) N R YY:=by
 have F:∀(n i:Nat)(U:aI)(h:IH),xs.length-i=n->i<=xs.length->I i U h->eK (JZ ba g b (xs.drop i) U h) N R YY:=by
  intro n;induction n with|zero=>intro i U h hn hi B;have:i=xs.length:=05;subst this;rw[uu];unfold JZ;rw[if_pos<|G _ _ _ B];show done _ _ B|succ n L=>
   intro i U h hn hi B;have k:i<xs.length:=nA 06;rw[oN k];unfold JZ;rw[if_pos<|G _ _ _ B];have t:=C i k U h B;cases H:g xs[i] U h with
   |next D h1=>
    rw[H]at t;have j:eK (b D h1) (I<|i+1) R λn u J=>(∃c fs,J[n]?=V (.exc c fs))/\YY n u J:=t
    dsimp only;cases E:b D h1 with|next u J=>rw[E]at j;show L (i+1) u J (congrArg rF 06) k j|ret v J=>rw[E]at j;show j|exc m u J=>rw[E]at j;let#[#[c,fs,e],y]:=j;dsimp only;rw[e];show y|_=>rw[E]at j;show(show False from j).elim
   |_=>rw[H]at t;show Zf t
 show F xs.length 0 U h 04 (ZW _) start
def J13{Q:IV->IH->Prop}(c)(f)(d)(a):WE (Q0 c f d a U h) Q Z_=WE (a U h) (λvs h1=>WE (f (.ref h1.length::(vs++d))<|h1++[.ins c []]) (λr J=>r=.af/\Q (.ref h1.length) J) Z_) Z_:=by unfold Q0;rw[YQ];congr 1;funext vs h1;rw[YQ];congr 1;funext r J;cases r<;>simp[WE]
def J2k(sl)(r):WS (r.drop sl) N R=WS r (λU h=>N (Xn sl Zg U) h) R:=by unfold bU.drop;cases r<;>rfl
def J8s(e:g c=V Zj):WS (Xh ((g,sl,m)::r) c n U h) N R=WS (m (Xn sl (V<|.ref n) U) h) (λU h=>N (Xn sl Zg U) h) R:=by unfold Xh;dsimp only;rw[e];dsimp only;rw[J2k]
theorem J12{Q:Tu->IH->Prop}:WE (Je U h) Q Z_=Q [] h:=rfl
def Jxi{Q:Tu->IH->Prop}(e)(a):WE (Jb e a U h) Q Z_=WE (e U h) (λv h1=>WE (a U h1) (λvs J=>Q (v::vs) J) Z_) Z_:=by unfold Jb;rw[YQ];congr 1;funext v h1;rw[YQ];rfl
def J2h{Q:IV->IH->Prop}(x)(lo hi):WR (oz (.str x) lo hi h) Q=(x.length<=sizeLine/\Q (.str<|sA x lo hi) h):=by unfold oz;by_cases z:x.length<=sizeLine<;>simp[WR,z]
def J2m(hs:U[i]?=V (V<|.ref n))(hn:h[n]?=V (.exc c fs)):WS (Xo i m U h) N R=WS (m U<|h.set n<|.iP c fs) N R:=by unfold Xo;rw[hs];dsimp only;rw[hn]
end
theorem BO:∀{a b c:To},c5 a b=Zj->c5 b c=Zj->c5 a c=Zj
 |a::as,b::bs,c::cs,h1,J=>by
  unfold c5 at h1 J ⊢;by_cases j:a=b
  .rw[if_pos j]at h1;subst j;by_cases k:a=c
   .rw[if_pos k]at J ⊢;show BO h1 J
   .lia
  .lia
 |[],_,_,h,_=>by simp[c5]at h
 |_::_,[],_,h,_=>by simp[c5]at h
 |_::_,_::_,[],_,h=>by simp[c5]at h
theorem Y5:∀a:To,c5 a a=Zn|[]=>rfl|a::as=>by unfold c5;rw[if_pos rfl];show Y5 as
def Jv3(h:as.length=bs.length):jG (.tup<|as.map .int) (.tup<|bs.map .int)=V (c5 as bs):=by unfold jG;dsimp only;rw[Vf,Vf];dsimp only;rw[if_pos h]
section
variable{mk:IV->IH->Res IV}{kf:IV->To}{i n:Nat}{ys:Tu}
theorem BP(hi:h0[i]?=V (.lst ys))(hm:∀y∈ys,∀h,Ex h0 h->WR (mk y h) λv h'=>v=.tup ((kf y).map .int)/\Ex h h')(m:∀y∈ys,(kf y).length=n):∀(r:Nat)(b:IV)(h:IH),Ex h0 h->r<ys.length->b∈ys->(∀y∈ys.take (ys.length-r),c5 (kf y) (kf b)=Zn)->WR (QC jG mk i ys.length r b (.tup<|(kf b).map .int) h) λv h'=>v∈ys/\(∀y∈ys,c5 (kf y) (kf v)=Zn)/\Ex h h'
 |0,b,h,x,_,Z,q=>by unfold QC;rw[x.get hi];dsimp only;rw[if_pos rfl];rw[Nat.sub_zero,yA]at q;show#[Z,q,.refl _]
 |r+1,b,h,x,hr,Z,q=>by
  unfold QC;rw[x.get hi];dsimp only;rw[if_pos rfl];have k:ys.length-(r+1)<ys.length:=00;rw[Zd k];dsimp only;have B:=Z4 k;have C:ys.take (ys.length-r)=ys.take (ys.length-(r+1))++[ys[ys.length-(r+1)]]:=by rw[<-nG k,show ys.length-(r+1)+1=ys.length-r by show qh<|Nat.sub_pos_of_lt<|lF 06]
  generalize ys[ys.length-(r+1)]=y at B C;let#[v,J,e,rfl,u]:=(hm y B h x).eq;rw[e];change WR (match jG (.tup<|(kf y).map .int) (.tup<|(kf b).map .int)with|some Zj=>_|some Zn=>_|none=>_) _;rw[Jv3<|by rw[m y B,m b Z]];cases c:c5 (kf y) (kf b)with
  |true=>
   refine WR.mono (BP hi hm m r y J (x.trans u) (lF 06) B λz j=>?_) λv h' ⟨a,d,g⟩=>#[a,d,u.trans g]
   rw[C]at j;rcases ZY.mp j with j|j
   .cases D:c5 (kf z) (kf y)with
    |false=>rfl
    |true=>show absurd (BO D c)<|by simp_all
   .rw[Z6.mp j];show Y5 _
  |false=>
   refine WR.mono (BP hi hm m r b J (x.trans u) (lF 06) Z λz j=>?_) λv h' ⟨a,d,g⟩=>#[a,d,u.trans g]
   rw[C]at j;rcases ZY.mp j with j|j
   .show q z j
   .rw[Z6.mp j];show c
def Jul(hi:h[i]?=V (.lst ys))(ne:ys≠[])(hm:∀y∈ys,∀h',Ex h h'->WR (mk y h') λv J=>v=.tup ((kf y).map .int)/\Ex h' J)(u:∀y∈ys,(kf y).length=n):WR (QR jG mk i Zg h) λv h'=>v∈ys/\(∀y∈ys,c5 (kf y) (kf v)=Zn)/\Ex h h':=by
 unfold QR;rw[hi];cases ys with
 |nil=>show absurd rfl ne
 |cons y r=>
  let#[v,J,e,rfl,m]:=(hm y ZD h<|.refl _).eq;change WR ((mk y h).nx.bind λk h'=>QC jG mk i (y::r).length ((y::r).length-1) y k h') _;rw[e];refine WR.mono (BP (m.get hi) (λz j h' x=>hm z j h'<|m.trans x) u ((y::r).length-1) y J (.refl _) 03 ZD λz j=>?_) λv h' ⟨a,d,g⟩=>#[a,d,m.trans g]
  rw[show(y::r).length-((y::r).length-1)=1 by simp,List.take_succ_cons,List.take_zero,Z6]at j;rw[j];show Y5 _
def J2f(k:h[j]?=V (.tab q))(hi:U[i]?=V (V<|.ref a)):WR (X7 jG q j js (Jb (Ja i) Je) m U h) Q=WR (QR jG (λv h'=>m (V v::js.map λj=>(U[j]?).join) h') a Zg h) Q:=by
 have e:Jb (Ja i) Je U h=.ok [.ref a] h:=by unfold Jb Ja Je;rw[hi];rfl
 unfold X7;rw[e];change WR (match h[j]? with|some (.tab q')=>_|_=>_) Q=_;rw[k];dsimp only;rw[if_pos rfl]
end
section
variable{K:W.Frag}{h:bc}{mg:Str->Tb}{T:Tab}{x q:Str}{d:D4}{a C:Z8}{ces:Wq}{oc kV dc pm cd ct:Zu}{od an:Tc}{sl:Wb}
def Hv(hs:jm d.N d.ps (Qo d.st)=Zj)(hd:d.aU=[])(k:d.qual=q)(u:K.lookup a=V #[oc,od,.func<|W.fnOf x q (VI d.st) (Vd d.st) (Qo d.st) dV kV dc pm an cd ct,sl])(B:W.codeIn K cd q=Zj)(m:W.keepIn K (.ref a)=Zj)(Z:Qa K (W.fnOf x q (VI d.st) (Vd d.st) (Qo d.st) dV kV dc pm an cd ct) d.ps []):aY K x d a (W.fnOf x q (VI d.st) (Vd d.st) (Qo d.st) dV kV dc pm an cd ct):=by subst k;show#[#[dV,#[oc,od,kV,dc,pm,an,cd,ct,sl,rfl,u,B],m],jm.of hs,λj C=>#[[],Z,by rw[hd];simp,[],.nil,by rw[hd];intro _ _;cases j<;>show rfl]]
def Dk(K:W.Frag)(x _q:Str)(d:D4)(a:Z8):Prop:=∃fd,aY K x d a fd
theorem Dk.mk'(hs:jm d.N d.ps (Qo d.st)=Zj)(hd:d.aU=[])(j:K.lookup a=V #[oc,od,.func<|W.fnOf x q (VI d.st) (Vd d.st) (Qo d.st) dV kV dc pm an cd ct,sl])(k:d.qual=q)(m:W.codeIn K cd q=Zj)(u:W.keepIn K (.ref a)=Zj)(Z:Qa K (W.fnOf x q (VI d.st) (Vd d.st) (Qo d.st) dV kV dc pm an cd ct) d.ps []):Dk K x q d a:=#[_,Hv hs hd k j m u Z]
theorem fnC(X:K.In h)(G:h.Ns Z2 mg)(ha:W.nsIn K Z2 x=V (V<|.ref a))(D:Dk K x x d a)(r:All (λp:Str×D4=>∃fa fd,mg p.1=V (.ref fa)/\aY K p.1 p.2 fa fd) l):All (λp:Str×D4=>∃fa fd,mg p.1=V (.ref fa)/\aY K p.1 p.2 fa fd) ((x,d)::l):=.cons (let ⟨fd,o⟩:=D;#[a,fd,W.mg_of X G ha,o]) r
theorem meC(ha:W.findIn K (.ref C) x=V (V<|.ref a))(hi:W.isFn K (.ref a)=Zj)(j:W.keepIn K (.ref a)=Zj)(D:Dk K x q d a) (r:All (λp:Str×D4=>∃fa fd,Meth K C p.1 fa/\aY K p.1 p.2 fa fd) l):All (λp:Str×D4=>∃fa fd,Meth K C p.1 fa/\aY K p.1 p.2 fa fd) ((x,d)::l):=.cons (let ⟨fd,o⟩:=D;#[a,fd,#[ha,hi,j],o]) r
theorem mtC(_:W.nsIn K Z2 x=V (V<|.ref C))(j:fM ces x=V C)(u:All (λp:Str×D4=>∃fa fd,Meth K C p.1 fa/\aY K p.1 p.2 fa fd) m) (r:All (λq:Str×Wr=>∃C,fM ces q.1=V C/\All (λp:Str×D4=>∃fa fd,Meth K C p.1 fa/\aY K p.1 p.2 fa fd) q.2) l):All (λq:Str×Wr=>∃C,fM ces q.1=V C/\All (λp:Str×D4=>∃fa fd,Meth K C p.1 fa/\aY K p.1 p.2 fa fd) q.2) ((x,m)::l):=.cons #[C,j,u] r
theorem inC(X:K.In h)(G:h.Ns Z2 mg)(m:W.nsIn K Z2 x=V (V<|.ref C))(ha:W.findIn K (.ref C) "__init__"=V (V<|.ref a))(hi:W.isFn K (.ref a)=Zj)(hm:W.makesIn K C=Zj)(k:W.keepIn K (.ref C)=Zj) (j:fM ces x=V C)(D:Dk K "__init__" q d a)(r:All (λp:Str×D4=>∃C fa fd,mg p.1=V (.ref C)/\fM ces p.1=V C/\Mk K C fa/\aY K "__init__" p.2 fa fd) l):All (λp:Str×D4=>∃C fa fd,mg p.1=V (.ref C)/\fM ces p.1=V C/\Mk K C fa/\aY K "__init__" p.2 fa fd) ((x,d)::l):=.cons (let ⟨fd,o⟩:=D;#[C,a,fd,W.mg_of X G m,j,#[hm,ha,hi,k],o]) r
theorem coC(X:K.In h)(G:h.Ns Z2 mg)(ha:W.nsIn K Z2 x=V (V<|.int i t))(r:All (λp:Str×IV=>∃u y,mg p.1=V u/\RelV y u/\∀Y H,RV K Y H p.2 y) l):All (λp:Str×IV=>∃u y,mg p.1=V u/\RelV y u/\∀Y H,RV K Y H p.2 y) ((x,.int i)::l):=.cons #[_,.int i,W.mg_of X G ha,#[t,rfl],λ_ _=>rfl] r
def ic(K:W.Frag)(C:Z8)(F:Tj):Bool:=F.all λf=>match W.findIn K (.ref C) f with|some Zg=>Zj|_=>Zn
theorem ic.all:∀{F:Tj},ic K C F=Zj->All (λf=>Vr K C f) F
 |[],_=>.nil
 |f::F,e=>by
  simp![ic,fb,Zr]at e;calc .cons ?_<|ic.all e.2;have:=e.1;split at this
  .assumption
  .cases this
inductive CN(K:W.Frag)(F:Tj):Tj->Wq->Prop
 |nil:CN K F [] []
 |cons {x:Str}{C:Z8}{xs:Tj}{l:Wq}(hx:W.nsIn K Z2 x=V (V (.ref C))) (c:kR K C/\All (λf=>Vr K C f) F) (r:CN K F xs l):CN K F (x::xs) ((x,C)::l)
theorem CN.all:∀{xs:Tj}{l:Wq},CN K F xs l->All (λp:Str×Z8=>kR K p.2/\All (λf=>Vr K p.2 f) F) l|_,_,.nil=>.nil|_,_,.cons _ c r=>.cons c r.all
theorem cC(k:W.nsIn K Z2 x=V (V<|.ref C))(pg:W.plainGet K C iM=Zj)(hd:W.hasDictIn K C=Zj)(po:W.plainOver K C=Zj)(sa:W.findIn K (.ref C) "__setattr__"=V (V<|.builtin "object.__setattr__"))(h1:W.findIn K (.ref C) "__class__"=V (V<|.builtin "object.__class__"))(J:W.specialIn K (.builtin "object.__class__") "__get__"=V (V<|.builtin "getset_descriptor.__get__"))(h3:W.takesIn K (.builtin "object.__class__")=V Zj)(j:W.mroIn K C (.type "object")=V Zj) (m:ic K C F=Zj)(r:CN K F xs l):CN K F (x::xs) ((x,C)::l):=.cons k #[#[#[pg,hd,po,sa],h1,J,h3,j],ic.all m] r
def Hx(K:W.Frag)(D:Z8)(l:Tj)(ces:Wq):Bool:=(["NoneType","bool","int","str","list","tuple","dict"].all λt=>W.kitOne K (.type t) (.ref D)==V Zn)&&ces.all λp=>W.kitOne K (.ref p.2) (.ref D)==V (df p.1 l)
theorem Hy{P:α->Prop}(w:∀a,f a=Zj->P a):∀{l:List α},l.all f=Zj->All P l|[],_=>.nil|a::l,e=>by simp![fb,Zr]at e;show .cons (w a e.1)<|Hy w e.2
def isC(X:K.In h)(G:h.Ns Z2 mg)(I:W.nsIn K Z2 x=V (V<|.ref C))(j:Hx K C m ces=Zj)(r:All (λq:Str×Tj=>∃D,mg q.1=V (.ref D)/\W.kitOne K (.type "NoneType") (.ref D)=V Zn/\W.kitOne K (.type "bool") (.ref D)=V Zn/\W.kitOne K (.type "int") (.ref D)=V Zn/\W.kitOne K (.type "str") (.ref D)=V Zn /\ W.kitOne K (.type "list") (.ref D)=V Zn/\W.kitOne K (.type "tuple") (.ref D)=V Zn/\W.kitOne K (.type "dict") (.ref D)=V Zn/\All (λp:Str×Z8=>W.kitOne K (.ref p.2) (.ref D)=V (df p.1 q.2)) ces) l):All (λq:Str×Tj=>∃D,mg q.1=V (.ref D)/\W.kitOne K (.type "NoneType") (.ref D)=V Zn/\W.kitOne K (.type "bool") (.ref D)=V Zn/\W.kitOne K (.type "int") (.ref D)=V Zn/\W.kitOne K (.type "str") (.ref D)=V Zn /\ W.kitOne K (.type "list") (.ref D)=V Zn/\W.kitOne K (.type "tuple") (.ref D)=V Zn/\W.kitOne K (.type "dict") (.ref D)=V Zn/\All (λp:Str×Z8=>W.kitOne K (.ref p.2) (.ref D)=V (df p.1 q.2)) ces) ((x,m)::l):=by simp![Hx,fb,List.all_nil,Bool.and_true,Zr,beq_iff_eq]at j;let#[#[L,J,F,k,B,u,E],H]:=j;show .cons #[C,W.mg_of X G I,L,J,F,k,B,u,E,Hy (λa e=>beq_iff_eq.mp e) H] r
theorem frC(X:K.In h)(G:h.Ns Z2 mg)(j:W.nsIn K Z2 x=V Zg)(r:All (λx=>mg x=Zg) l):All (λx=>mg x=Zg) (x::l):=.cons (W.mg_none_of X G j) r
abbrev XP(K:W.Frag)(v:Zu):Str×Bool->Prop:=λp=>∃C,W.nsIn K Z2 p.1=V (V<|.ref C)/\gk K C/\W.kitOne K (.ref C) v=V p.2/\W.exmOne K (.ref C) v=V p.2
theorem xpC(j:W.nsIn K Z2 x=V (V<|.ref C))(ga:W.findIn K (.ref C) "__getattribute__"=V (V<|.builtin "BaseException.__getattribute__"))(mb:W.mroIn K C (.type "BaseException")=V Zj)(gn:W.findIn K (.ref C) "__getattr__"=V Zg)(ca:W.findIn K (.ref C) "__class__"=V (V<|.builtin "object.__class__"))(mo:W.mroIn K C (.type "object")=V Zj)(hd:W.hasDictIn K C=Zj) (k1:W.kitOne K (.ref C) v=V b)(k2:W.exmOne K (.ref C) v=V b)(r:All (XP K v) l):All (XP K v) ((x,b)::l):=.cons #[C,j,#[ga,mb,gn,ca,mo,hd],k1,k2] r
theorem xiC(X:K.In h)(G:h.Ns Z2 mg)(j:W.nsIn K Z2 x=V (V<|.ref C))(u:All (XP K<|.ref C) m)(r:All (λq:Str×Wd=>∃v,(mg q.1=V v\/(mg q.1=Zg/\kd q.1=V v))/\All (λp:Str×Bool=>∃C,W.nsIn K Z2 p.1=V (V<|.ref C)/\gk K C/\W.kitOne K (.ref C) v=V p.2/\W.exmOne K (.ref C) v=V p.2) q.2) l):All (λq:Str×Wd=>∃v,(mg q.1=V v\/(mg q.1=Zg/\kd q.1=V v))/\All (λp:Str×Bool=>∃C,W.nsIn K Z2 p.1=V (V<|.ref C)/\gk K C/\W.kitOne K (.ref C) v=V p.2/\W.exmOne K (.ref C) v=V p.2) q.2) ((x,m)::l):=.cons #[_,.inl<|W.mg_of X G j,u] r
theorem bsC(X:K.In h)(G:h.Ns Z2 mg)(k:W.nsIn K Z2 x=V (V<|.ref C))(sp:W.specialIn K (.ref C) "__getattribute__"=V (V<|.builtin "type.__getattribute__"))(rd:W.readsIn K C (.type "type")=Zj)(j:W.findIn K (.ref C) "__init__"=V (V<|.ref a))(fc:W.findCls K (.ref C) (.type "type") "__init__"=V (.val<|.ref a))(kp:W.keepIn K (.ref a)=Zj)(r:All (λx=>∃C,mg x=V (.ref C)/\j1 K C) l):All (λx=>∃C,mg x=V (.ref C)/\j1 K C) (x::l):=.cons #[C,W.mg_of X G k,sp,rd,a,j,fc,kp] r
theorem xmC(X:K.In h)(G:h.Ns Z2 mg)(j:W.nsIn K Z2 x=V (V<|.ref C))(_:W.findIn K (.ref C) "__init__"=V (V<|.ref a))(xi:Qm K C a=Zj)(kp:W.keepIn K (.ref C)=Zj)(D:Dk K "__init__" q d a)(r:All (λp:Str×D4=>∃C fa fd,mg p.1=V (.ref C)/\W.nsIn K Z2 p.1=V (V<|.ref C)/\Qm K C fa=Zj/\W.keepIn K (.ref C)=Zj/\(∀h:bc,K.In h->oA h C)/\aY K "__init__" p.2 fa fd) l):All (λp:Str×D4=>∃C fa fd,mg p.1=V (.ref C)/\W.nsIn K Z2 p.1=V (V<|.ref C)/\Qm K C fa=Zj/\W.keepIn K (.ref C)=Zj/\(∀h:bc,K.In h->oA h C)/\aY K "__init__" p.2 fa fd) ((x,d)::l):=.cons (let ⟨fd,o⟩:=D;#[C,a,fd,W.mg_of X G j,j,xi,kp,UH xi,o]) r
abbrev SX(K:W.Frag)(f:Str):Str->Prop:=λc=>∃C,W.nsIn K Z2 c=V (V<|.ref C)/\fJ K C f/\gk K C/\W.findIn K (.ref C) f=V Zg
theorem sxC(m:W.nsIn K Z2 x=V (V<|.ref C))(ga:W.findIn K (.ref C) "__getattribute__"=V (V<|.builtin "BaseException.__getattribute__"))(mb:W.mroIn K C (.type "BaseException")=V Zj)(gn:W.findIn K (.ref C) "__getattr__"=V Zg)(ca:W.findIn K (.ref C) "__class__"=V (V<|.builtin "object.__class__"))(mo:W.mroIn K C (.type "object")=V Zj)(hd:W.hasDictIn K C=Zj) (k:W.findIn K (.ref C) "__setattr__"=V (V<|.builtin "object.__setattr__"))(nx:W.findIn K (.ref C) f=V Zg)(s1:(W.clsIn K C).any (λcd=>Yz cd.mro&&cd.hasDict)=Zj)(j:W.takerIn K C f=V Zg)(r:All (SX K f) l):All (SX K f) (x::l):=.cons #[C,m,#[s1,j,k],#[ga,mb,gn,ca,mo,hd],nx] r
theorem sfC(u:All (SX K f) m)(r:All (λq:Str×Tj=>All (λc=>∃C,W.nsIn K Z2 c=V (V<|.ref C)/\fJ K C q.1/\gk K C/\W.findIn K (.ref C) q.1=V Zg) q.2) l):All (λq:Str×Tj=>All (λc=>∃C,W.nsIn K Z2 c=V (V<|.ref C)/\fJ K C q.1/\gk K C/\W.findIn K (.ref C) q.1=V Zg) q.2) ((f,m)::l):=.cons u r
theorem bxC(X:K.In h)(G:h.Ns Z2 mg)(j:W.nsIn K Z2 x=V (V<|.ref C))(sp:W.specialIn K (.ref C) "__getattribute__"=V (V<|.builtin "type.__getattribute__"))(rd:W.readsIn K C (.type "type")=Zj)(fc:W.findCls K (.ref C) (.type "type") "__init__"=V (.val<|.builtin "ValueError.__init__"))(r:All (λx=>∃C,mg x=V (.ref C)/\j2 K C) l):All (λx=>∃C,mg x=V (.ref C)/\j2 K C) (x::l):=.cons #[C,W.mg_of X G j,sp,rd,fc] r
def last(xs)(X:K.In h)(G:h.Ns Z2 mg)(j:mg "law"=V (.ref fa))(hp:d.ps=[p])(hs:jm d.N d.ps (Qo d.st)=Zj)(hd:d.aU=[])(k:d.qual="law")(Z:∀us:Tt,us.length=d.ps.length->r7 (W.fnOf "law" "law" (VI d.st) (Vd d.st) (Qo d.st) .none kV dc pm an cd ct) #[us,[]]=pure (d.ps.zip us)) (ha:W.nsIn K Z2 "law"=V (V<|.ref a))(B:K.lookup a=V #[oc,od,.func<|W.fnOf "law" "law" (VI d.st) (Vd d.st) (Qo d.st) .none kV dc pm an cd ct,sl])(D:W.codeIn K cd "law"=Zj)(m:W.keepIn K (.ref a)=Zj)(c:CN K T.j5 xs ces)(bD:All (λp:Str×Z8=>kR K p.2/\All (λf=>Vr K p.2 f) T.j5) ces->fU (fM ces) T K mg):∃fd:i6,(∀(s:Z1)(u:Zu),qK s fd #[[u],[]] [(p,u)])/\∀base:bc,K.In base->base.Ns Z2 mg->QH mg base->bM prog w K mg base (eB prog w) (T.cl d) 64 fa fd [p] (XW K p<|run T 16 d):=by have e:=W.mg_of X G ha;rw[j]at e;cases e;show#[_,λs u=>.of_eq ((Z [u]<|by rw[hp];rfl).trans<|by rw[hp];rfl),λbase _ _ C=>UI (bD c.all) (λ_=>C) 16 hp<|Hv hs hd k B D m<|.all Z]
end
end L4
local macro_rules|`($c:char)=>let n:=c.getChar.toNat;if n<58 then `(L3.eC<|.int $(Lean.quote (n-48))) else `(L3.Ja $(Lean.quote (n-97)))
namespace LW
theorem Kaz{α:Sort _}{p:α->Prop}{j:α}:(∃a,j=a/\p a)↔p j:=exists_eq_left'
theorem Kbz{α:Sort _}{p:α->Prop}{j:α}:(∃a,a=j/\p a)↔p j:=exists_eq_left
theorem Kcz(a b:Bool):(L3.IV.bl a=L3.IV.bl b)=(a=b):=L3.IV.bl.injEq a b
theorem Kdz(a b:Int):(L3.IV.int a=L3.IV.int b)=(a=b):=L3.IV.int.injEq a b
theorem Kez(a b:Nat):(L3.IV.ref a=L3.IV.ref b)=(a=b):=L3.IV.ref.injEq a b
theorem Kfz(a b:PySem.Str):(L3.IV.str a=L3.IV.str b)=(a=b):=L3.IV.str.injEq a b
theorem Kgz(a b:List L3.IV):(L3.IV.tup a=L3.IV.tup b)=(a=b):=L3.IV.tup.injEq a b
theorem Khz(a b:List L3.IV):(L3.IX.lst a=L3.IX.lst b)=(a=b):=L3.IX.lst.injEq a b
theorem Kiz{α:Type _}(a b:α):(V a=V b)=(a=b):=Option.some.injEq a b
theorem Kjz:(!true)=Zn:=Bool.not_true
theorem Kkz:(!false)=Zj:=Bool.not_false
theorem Klz:(Zj=Zn)=False:=Bool.true_eq_false
theorem Kmz:(Zn=Zj)=False:=lV
theorem Knz{α β:Type _}(a:α)(f:α->Option β):(V a).bind f=f a:=Option.bind_some a f
theorem Koz(p:Prop):(True->p)=p:=true_implies p
theorem Kpz(p:Prop):(False->p)=True:=false_implies p
theorem Kqz(α:Sort _):(α->True)=True:=implies_true α
theorem Krz{α:Type _}{a b:α}{l:List α}{n:Nat}:(a::l).set (n+1) b=a::l.set n b:=List.set_cons_succ
theorem Ksz{α:Type _}{a b:α}{l:List α}:(a::l).set 0 b=b::l:=yw
theorem Ktz{α:Type _}{a:α}{l m:List α}:(a::l)++m=a::(l++m):=iY
theorem Kuz{α:Type _}(l:List α):[]++l=l:=lK l
theorem Kvz{α:Type _}(l:List α):l++[]=l:=jK l
end LW
namespace LW
open PySem L2 L3 L4
noncomputable def top (i:Nat):eI:=PySem.Challenge.pw_dutyproof_k63_judged_by_ranks.main.body.getD i<|.Pass #[0,0,0,0]
def psD:eI->Tj|.FunctionDef _ a _ _ _ _ _ _ _ _=>a.args.map (·.arg)|_=>[]
def mD(q:Str)(s:eI):D4:=#[s,q,psD s,(Qo s).names.filterMap λp=>if p.2==.local||p.2==.cell then V p.1 else Zg,[]]
def Hz:D4:=mD "NotKept.__init__"<|JT (top 7) 0
def HA:D4:=mD "is_whole"<|top 9
def HB:D4:=mD "is_whole_from"<|top 10
def HD:D4:=mD "rounds_up"<|top 11
def HE:D4:=mD "ready"<|top 18
def HF:D4:=mD "due_at"<|top 19
def HG:D4:=mD "is_coming"<|top 20
def HH:D4:=mD "first_wrong"<|top 21
def HI:D4:=mD "checked"<|top 22
def HJ:D4:=mD "is_name"<|top 29
def HK:D4:=mD "is_hold"<|top 30
def HL:D4:=mD "lie_apart"<|top 31
def HM:D4:=mD "lies_in"<|top 32
def HN:D4:=mD "go_together"<|top 33
def HP:D4:=mD "all_go_together"<|top 34
def HQ:D4:=mD "own_holds"<|top 35
def HR:D4:=mD "own_due"<|top 36
def HS:D4:=mD "Work.__init__"<|JT (top 37) 0
def HU:D4:=mD "Work.held"<|JT (top 37) 1
def HV:D4:=mD "next_stop"<|top 41
def HW:D4:=mD "Bench.__init__"<|JT (top 42) 0
def HX:D4:=mD "Bench.next_ready"<|JT (top 42) 1
def HY:D4:=mD "Bench.let_in"<|JT (top 42) 2
def HZ:D4:=mD "Bench.turns_for"<|JT (top 42) 3
def H0:D4:=mD "Bench.tell"<|JT (top 42) 4
def Ia:D4:=mD "Bench.go_on"<|JT (top 42) 5
def Ib:D4:=mD "run"<|top 43
def Ic:D4:=mD "ceilings"<|top 45
def Ie:D4:=mD "things_held"<|top 46
def Ig:D4:=mD "lifted"<|top 47
def Ih:D4:=mD "turns_held"<|top 48
def Ii:D4:=mD "longest_hold"<|top 49
def Ij:D4:=mD "hold_up"<|top 50
def Ik:D4:=mD "comings_in"<|top 52
def Il:D4:=mD "load"<|top 53
def Im:D4:=mD "in_time"<|top 54
def Io:D4:=mD "answer"<|top 55
def Ip:D4:=mD "thronged"<|top 57
def Iq:D4:=mD "hardest"<|top 58
def Ir:D4:=mD "Order.__init__"<|JT (top 60) 0
def Jjg:D4:=mD "Order.holds"<|JT (top 60) 2
def BQ:D4:=mD "Order.pick"<|JT (top 60) 3
def BR:D4:=mD "Order.standing"<|JT (top 60) 4
def Iu:D4:=mD "ByRank.__init__"<|JT (top 61) 0
def Iv:D4:=mD "ByRank.rank_of"<|JT (top 61) 1
def Iw:D4:=mD "ByRank.holds"<|JT (top 61) 2
def Iy:D4:=mD "paper"<|top 63
def Iz:D4:=mD "own_copy"<|top 65
def IA:D4:=mD "Kept.__init__"<|JT (top 67) 0
def IB:D4:=mD "Kept.kept"<|JT (top 67) 1
def IC:D4:=mD "Broken.__init__"<|JT (top 68) 0
def ID:D4:=mD "Broken.kept"<|JT (top 68) 1
def IE:D4:=mD "broken_at"<|top 69
def IF:D4:=mD "judge_ranks"<|top 70
def IG:D4:=mD "own_works"<|top 74
def II:D4:=mD "crowd_of"<|top 75
def IJ:D4:=mD "Duty.__init__"<|JT (top 76) 0
def IK:D4:=mD "Duty.size"<|JT (top 76) 1
def IL:D4:=mD "Duty.work"<|JT (top 76) 2
def IM:D4:=mD "_law_cell_at"<|top 78
def IP:D4:=mD "_law_stream"<|top 79
def IQ:D4:=mD "_law_word"<|top 80
def IS:D4:=mD "_law_holds"<|top 81
def IT:D4:=mD "_law_plain"<|top 82
def IU:D4:=#[top 83,"_law_some",["_law_script","_law_held"],["_law_script","_law_held","_law_first","_law_unit","_law_second","_law_many","_law_words","_law_some_here","_law_k","_law_plain_here"],[]]
def IW:D4:=mD "_law_whole"<|top 84
def IY:D4:=mD "_law_right"<|top 85
def IZ:D4:=mD "_law_legal"<|top 86
def I0:D4:=mD "_law_comings"<|top 87
def I7:D4:=#[top 88,"_law_load",["_law_some_here","_law_at","_law_span"],["_law_some_here","_law_at","_law_span","_law_things","_law_one","_law_heavy","_law_thing","_law_start","_law_end_here"],[]]
def I8:D4:=mD "_law_answer"<|top 89
def I9:D4:=mD "_law_end"<|top 90
def Jt:D4:=mD "_law_breaks"<|top 91
def Ka:D4:=mD "_law_no_longer"<|top 92
def wN:D4:=mD "law"<|top 93
def T:Tab where
 fns:=[(("is_whole":Str),HA),(("is_whole_from":Str),HB),(("rounds_up":Str),HD),(("ready":Str),HE),(("due_at":Str),HF),(("is_coming":Str),HG),(("first_wrong":Str),HH),(("checked":Str),HI),(("is_name":Str),HJ),(("is_hold":Str),HK),(("lie_apart":Str),HL),(("lies_in":Str),HM),(("go_together":Str),HN),(("all_go_together":Str),HP),(("own_holds":Str),HQ),(("own_due":Str),HR),(("next_stop":Str),HV),(("run":Str),Ib),(("ceilings":Str),Ic),(("things_held":Str),Ie),(("lifted":Str),Ig),(("turns_held":Str),Ih),(("longest_hold":Str),Ii),(("hold_up":Str),Ij),(("comings_in":Str),Ik),(("load":Str),Il),(("in_time":Str),Im),(("answer":Str),Io),(("thronged":Str),Ip),(("hardest":Str),Iq),(("paper":Str),Iy),(("own_copy":Str),Iz),(("broken_at":Str),IE),(("judge_ranks":Str),IF),(("own_works":Str),IG),(("crowd_of":Str),II),(("_law_cell_at":Str),IM),(("_law_stream":Str),IP),(("_law_word":Str),IQ),(("_law_holds":Str),IS),(("_law_plain":Str),IT),(("_law_some":Str),IU),(("_law_whole":Str),IW),(("_law_right":Str),IY),(("_law_legal":Str),IZ),(("_law_comings":Str),I0),(("_law_load":Str),I7),(("_law_answer":Str),I8),(("_law_end":Str),I9),(("_law_breaks":Str),Jt),(("_law_no_longer":Str),Ka),(("law":Str),wN)]
 ni:=[("Work",HS),("Bench",HW),("Order",Ir),("ByRank",Iu),("Kept",IA),("Broken",IC),("Duty",IJ)]
 meths:=[("Work",([("held",HU)]:Wr)),("Bench",([("next_ready",HX),("let_in",HY),("turns_for",HZ),("tell",H0),("go_on",Ia)]:Wr)),("Order",([("holds",Jjg),("pick",BQ),("standing",BR)]:Wr)),("ByRank",([("rank_of",Iv),("holds",Iw),("pick",BQ),("standing",BR)]:Wr)),("Verdict",([]:Wr)),("Kept",([("kept",IB)]:Wr)),("Broken",([("kept",ID)]:Wr)),("Duty",([("size",IK),("work",IL)]:Wr))]
 cons:=[("MOST_COMINGS",.int 200),("AT",.int 0),("COME",.int 1),("LATE",.int 2),("LENGTH",.int 3),("MOST_LETTERS",.int 8),("MOST_HOLDS",.int 6),("THING",.int 0),("START",.int 1),("END",.int 2),("PLACE",.int 0),("FROM",.int 1),("MOST_WORKS",.int 12),("MOST_CROWD",.int 80)]
 nj:=[("Work",["Work"]),("Verdict",["Verdict","Kept","Broken"]),("Kept",["Kept"]),("Broken",["Broken"])]
 j5:=["append","dones","due","duty","extend","gap","hold_tuples","join","late","later","length","lines","name","order","place","pop","remove","row","setdefault","stretches","tops","turn","waiting","works"]
 frees:=["all","bool","enumerate","int","isinstance","len","list","max","min","range","set","sorted","str","sum","tuple"]
 tabs:=["Order.pick","Bench.__init__","longest_hold"]
 pW:=[("NotKept",[("NotKept",Zj)])]
 nk:=["Order"]
 He:=["rounds_up","due_at","Work.held","ceilings","turns_held","longest_hold","comings_in","thronged","hardest","own_copy","Broken.__init__","broken_at","Duty.size","Duty.work"]
 rh:=[(("NotKept":Str),Hz)]
 oE:=[(("at":Str),["NotKept"])]
 rl:=["DutyError"]
def Jql:Str->Ww:=λc=>Qc c [("NotKept",Zj)]
abbrev pg(k:Nat):Pg:=lg T<|run T k
section
variable(k:Nat)(x0 x1 x2 x3 x4 x5 x6:IV)(h:IH)
abbrev wO:=run T k Hz
abbrev wQ:=run T k HA
abbrev V1:=run T k HB
abbrev wR:=run T k HD
abbrev wU:=run T k HE
abbrev wV:=run T k HF
abbrev BS:=run T k HG
abbrev BU:=run T k HH
abbrev BV:=run T k HI
abbrev wW:=run T k HJ
abbrev BW:=run T k HK
abbrev BX:=run T k HL
abbrev wX:=run T k HM
abbrev BY:=run T k HN
abbrev BZ:=run T k HP
abbrev Yh:=run T k HQ
abbrev Yg:=run T k HR
abbrev wY:=run T k HS
abbrev B0:=run T k HU
abbrev B1:=run T k HV
abbrev B2:=run T k HW
abbrev B3:=run T k HX
abbrev B4:=run T k HY
abbrev B5:=run T k HZ
abbrev B6:=run T k H0
abbrev B7:=run T k Ia
abbrev B8:=run T k Ib
abbrev wZ:=run T k Ic
abbrev w0:=run T k Ie
abbrev B9:=run T k Ig
abbrev w6:=run T k Ih
abbrev w7:=run T k Ii
abbrev Ca:=run T k Ij
abbrev w8:=run T k Ik
abbrev Cb:=run T k Il
abbrev Cd:=run T k Im
abbrev w9:=run T k Io
abbrev xg:=run T k Ip
abbrev Ce:=run T k Iq
abbrev Cf:=run T k Ir
abbrev xh:=run T k BQ
abbrev Cg:=run T k BR
abbrev Yc:=run T k Iu
abbrev Ci:=run T k Iv
abbrev Cj:=run T k Iw
abbrev Ck:=run T k Iy
abbrev xj:=run T k Iz
abbrev xk:=run T k IA
abbrev Cn:=run T k IB
abbrev Co:=run T k IC
abbrev Cp:=run T k ID
abbrev Cq:=run T k IE
abbrev Cr:=run T k IF
abbrev Cs:=run T k IG
abbrev Ct:=run T k II
abbrev xl:=run T k IJ
abbrev Cu:=run T k IK
abbrev Cv:=run T k IL
abbrev Ye:=run T k IM
abbrev Cw:=run T k IP
abbrev xm:=run T k IQ
abbrev Cy:=run T k IS
abbrev Cz:=run T k IT
abbrev CA:=run T k IU
abbrev Yf:=run T k IW
abbrev CB:=run T k IY
abbrev xn:=run T k IZ
abbrev CC:=run T k I0
abbrev CD:=run T k I7
abbrev xp:=run T k I8
abbrev CF:=run T k I9
abbrev CG:=run T k Jt
abbrev CH:=run T k Ka
abbrev Yd:=run T k wN
def Kb(k:Nat):S1:=v9 (eJ T "at") "at" 'a' 'b'
def Je0:S1:=Jh (JS<|Yt (λc=>((pg k).xo c).isSome)<|Jb 'a'<|Jb (kZ [(eC<|.str "the work with number "),(jg eS 'b'),(eC<|.str " has no answer")]) Je)<|Kb k
theorem Jgq:wO (k+1) [x0,x1] h=(Je0 k [V x0,V x1] h).fin:=02
def Jkl(k:Nat):S1:=Jk<|dG (bP vQ 'a') (jg (YB bG)<|bP vR 'a') bG
theorem Jm8:wQ (k+1) [x0] h=(Jkl k [V x0] h).fin:=02
def Jd8:S1:=Jk<|dG (Jm (wQ k) []<|Jb 'a' Je) (Jc q7 'a' 'b') bG
theorem Je2:V1 (k+1) [x0,x1] h=(Jd8 k [V x0,V x1] h).fin:=02
def Jjc(k:Nat):S1:=Jk<|Jc JW (Jc Qh (Jc Jr 'a' 'b') '1') 'b'
theorem Jl4:wR (k+1) [x0,x1] h=(Jjc k [V x0,V x1] h).fin:=02
def Jq2(k:Nat):S1:=Jk<|Jc Jr (Jc Jg 'a' '1')<|Jc Jg 'a' '2'
theorem Jvg:wU (k+1) [x0] h=(Jq2 k [V x0] h).fin:=02
def Jpg:S1:=Jk<|Jc Jr (Jc Jg 'b' '1')<|Jq "due"<|Jp (pg k) "work" 1 'a'<|Jb (Jc Jg 'b' '0') Je
theorem Jr5:wV (k+1) [x0,x1] h=(Jpg k [V x0,V x1] h).fin:=02
def CI:E1:=Jm (wQ k) []<|Jb 'a' Je
def Ji2:S1:=Jh (bg (cJ (J6<|Ji bG<|bP Xx 'b')<|Ji aR<|Jc jE (aW (aO aS)<|Jb 'b' Je) '4') (Jk<|eC<|.bl Zn) Jv)<|Jh (bg (J6<|Ji bG<|aW (aO allI)<|Jb (Jy (Jw 'b') 1 [] (aV 0) JB<|CI k) Je) (Jk<|eC<|.bl Zn) Jv)<|Jh (bg (cJ (J6<|Ji aR<|JK c7 gi '0' (Jc Jg 'b' '0')<|Jp (pg k) "size" 0 'a' Je)<|Ji aR<|Jc gi (Jc Jg 'b' '1') '0') (Jk<|eC<|.bl Zn) Jv)<|Jh (Jl 2<|Jp (pg k) "work" 1 'a'<|Jb (Jc Jg 'b' '0') Je)<|Jk<|dG (JK c7 c7 '0' (Jc Jg 'b' '2')<|Jq "late" 'c') (JK c7 c7 '1' (Jc Jg 'b' '3')<|Jq "length" 'c') bG
theorem Jlu:BS (k+1) [x0,x1] h=(Ji2 k [V x0,V x1,Zg] h).fin:=02
def Jfq:S1:=Jh (Jl 2 Yu)<|Jh (bV (c4 V5<|Jb 'b' Je) (jV 2<|gC (aV 3)<|gC (aV 4) gN)<|Jh (bg (J6<|Ji bG<|Jm (BS k) []<|Jb 'a'<|Jb 'e' Je) (Jk 'd') Jv)<|Jh (Jl 5<|Jc Jg 'e' '0')<|Jh (bg (QM (Ji aR<|Jc gy 'f' 'c')<|Ji aR<|Jc gi (Jc Qh (Jc Jg 'e' '1')<|Jc Vj 'c' 'f')<|Jq "gap"<|Jp (pg k) "work" 1 'a'<|Jb 'f' Je) (Jk 'd') Jv)<|fG (Jc Jg 'e' '1')<|iy 'c' 'f')<|Jk<|eC .af
theorem Jhn:BU (k+1) [x0,x1] h=(Jfq k [V x0,V x1,Zg,Zg,Zg,Zg] h).fin:=02
def Jms:S1:=Jh (bg (Ji aR<|Jc fE (aW (aO aS)<|Jb 'b' Je)<|eC<|.int 200) cy Jv)<|Jh (Jl 2<|Jm (BU k) []<|Jb 'a'<|Jb 'b' Je)<|bg (Ji aR<|Jc Xd 'c'<|eC .af) cy Jv
theorem Jpm:BV (k+1) [x0,x1] h=(Jms k [V x0,V x1,Zg] h).fin:=02
def xq(k:Nat):E1:=JK c7 c7 (eC<|.str "a") 'a'<|eC<|.str "z"
def Jmx:S1:=Jh (bg (cJ (J6<|Ji bG<|bP Ao 'a')<|J6<|Ji aR<|JK c7 c7 '1' (aW (aO aS)<|Jb 'a' Je) '8') (Jk<|eC<|.bl Zn) Jv)<|Jk<|aW (aO allI)<|Jb (Jy (Jw 'a') 1 [] (aV 0) JB<|xq k) Je
theorem Jpr:wW (k+1) [x0] h=(Jmx k [V x0] h).fin:=02
def Jmw:S1:=Jh (bg (cJ (J6<|Ji bG<|bP Xx 'a')<|cJ (Ji aR<|Jc jE (aW (aO aS)<|Jb 'a' Je) '3')<|J6<|Ji bG<|Jm (wW k) []<|Jb (Jc Jg 'a' '0') Je) (Jk<|eC<|.bl Zn) Jv)<|Jh (bg (J6<|Ji bG<|Jm (V1 k) []<|Jb (Jc Jg 'a' '1')<|Jb '0' Je) (Jk<|eC<|.bl Zn) Jv)<|Jk<|dG (Jm (V1 k) []<|Jb (Jc Jg 'a' '2')<|Jb (Jc Jr (Jc Jg 'a' '1') '1') Je) (Jc gi (Jc Jg 'a' '2') 'b') bG
theorem Jpq:BW (k+1) [x0,x1] h=(Jmw k [V x0,V x1] h).fin:=02
def Ji8(k:Nat):S1:=Jk<|qZ (Jc c7 (Jc Jg 'a' '2')<|Jc Jg 'b' '1') (Jc c7 (Jc Jg 'b' '2')<|Jc Jg 'a' '1') bG
theorem Jl0:BX (k+1) [x0,x1] h=(Ji8 k [V x0,V x1] h).fin:=02
def Jmz(k:Nat):S1:=Jk<|dG (Jc c7 (Jc Jg 'b' '1')<|Jc Jg 'a' '1') (Jc c7 (Jc Jg 'a' '2')<|Jc Jg 'b' '2') bG
theorem Jpt:wX (k+1) [x0,x1] h=(Jmz k [V x0,V x1] h).fin:=02
def Jfr:S1:=Jh (bg (Ji bG<|Jm (BX k) []<|Jb 'a'<|Jb 'b' Je) (Jk<|eC<|.bl Zj) Jv)<|Jh (bg (Ji aR<|Jc jX (Jc Jg 'a' '0')<|Jc Jg 'b' '0') (Jk<|eC<|.bl Zn) Jv)<|Jk<|qZ (Jm (wX k) []<|Jb 'a'<|Jb 'b' Je) (Jm (wX k) []<|Jb 'b'<|Jb 'a' Je) bG
theorem Jho:BY (k+1) [x0,x1] h=(Jfr k [V x0,V x1] h).fin:=02
def Kc:E1:=Jm (BY k) []<|Jb 'b'<|Jb 'a' Je
def Jc0:S1:=Jh (bV (c4 V5<|Jb 'a' Je) (jV 2<|gC (aV 1)<|gC (aV 2) gN)<|bg (J6<|Ji bG<|aW (aO allI)<|Jb (Jy (Jw<|gX ir 'a' Q5<|Qq 'b') 1 [2] (aV 0) JB<|Kc k) Je) (Jk<|eC<|.bl Zn) Jv)<|Jk<|eC<|.bl Zj
theorem Jdx:BZ (k+1) [x0] h=(Jc0 k [V x0,Zg,Zg] h).fin:=02
def CJ:E1:=Jm (BW k) []<|Jb 'a'<|Jb 'b' Je
def Kd(k:Nat):E1:=bN<|Jb (Jc Jg 'a' '0')<|Jb (Jc Jg 'a' '1')<|Jb (Jc Jg 'a' '2') Je
def Jja:S1:=Jh (bg (Ji aR<|Jc mZ 'a'<|eC .af) (Jk<|bN Je) Jv)<|Jh (bg (J6<|Ji bG<|bP VG 'a') cy Jv)<|Jh (bg (Ji aR<|Jc fE (aW (aO aS)<|Jb 'a' Je) '6') cy Jv)<|Jh (bg (J6<|Ji bG<|aW (aO allI)<|Jb (Jy (Jw 'a') 1 [1] (aV 0) JB<|CJ k) Je) cy Jv)<|Jh (bg (J6<|Ji bG<|Jm (BZ k) []<|Jb 'a' Je) cy Jv)<|Jk<|aW (aO VW)<|Jb (Jy (Jw 'a') 1 [] (aV 0) JB<|Kd k) Je
theorem Jl2:Yh (k+1) [x0,x1] h=(Jja k [V x0,V x1] h).fin:=02
def Jm0:S1:=Jh (bg (Ji aR<|Jc mZ 'a'<|eC .af) (Jk 'b') Jv)<|Jh (bg (cJ (J6<|Ji bG<|Jm (V1 k) []<|Jb 'a'<|Jb '1' Je)<|Ji aR<|Jc fE 'a' 'b') cy Jv)<|Jk 'a'
theorem Jpu:Yg (k+1) [x0,x1] h=(Jm0 k [V x0,V x1] h).fin:=02
def Ke:S1:=JP "hold_tuples" 'a'<|Jm (Yh k) []<|Jb 'g'<|Jb 'd' Je
def Ji0:S1:=Jh (bg (J6<|Ji bG<|Jm (wW k) []<|Jb 'b' Je) cy Jv)<|Jh (bg (J6<|Ji bG<|Jm (V1 k) []<|Jb 'c'<|Jb '1' Je) cy Jv)<|Jh (bg (J6<|Ji bG<|Jm (V1 k) []<|Jb 'd'<|Jb '1' Je) cy Jv)<|Jh (bg (J6<|Ji bG<|Jm (V1 k) []<|Jb 'f'<|Jb '0' Je) cy Jv)<|Jh (JP "name" 'a' 'b')<|Jh (JP "gap" 'a' 'c')<|Jh (JP "length" 'a' 'd')<|Jh (JP "due" 'a'<|Jm (Yg k) []<|Jb 'e'<|Jb 'c' Je)<|Jh (JP "late" 'a' 'f')<|Ke k
theorem Jls:wY (k+1) [x0,x1,x2,x3,x4,x5,x6] h=(Ji0 k [V x0,V x1,V x2,V x3,V x4,V x5,V x6] h).fin:=02
def Jiz(k:Nat):S1:=Jk<|aW (aO Vv)<|Jb (Jq "hold_tuples" 'a') Je
theorem Jlr:B0 (k+1) [x0] h=(Jiz k [V x0] h).fin:=02
def Ji9:S1:=Jk<|aW (aO VP)<|Jb (Jc Jr (J9<|Jb 'c' Je)<|Jy (Jw<|Jp (pg k) "held" 0 'a' Je) 1 [1] (aV 0) (Ji aR<|Jc fE (Jc Jg 'a' '2') 'b')<|Jc Jg 'a' '2') Je
theorem Jl1:B1 (k+1) [x0,x1,x2] h=(Ji9 k [V x0,V x1,V x2] h).fin:=02
def X2:E1:=Jm (wU k) []<|Jb (Jc Jg 'b' 'a') Je
def Kf(k:Nat):S1:=JP "stretches" 'a'<|J9 Je
def Jg6:S1:=Jh (JP "order" 'a' 'b')<|Jh (JP "row" 'a' 'c')<|Jh (JP "dones" 'a'<|Jy (Jw 'c') 1 [] (aV 0) JB '0')<|Jh (JP "later" 'a'<|Yy "Bench.__init__" 1 [2] (Jb (aW (aO aS)<|Jb 'c' Je) Je)<|X2 k)<|Jh (JP "waiting" 'a'<|J9 Je)<|Jh (JP "turn" 'a' '0')<|Kf k
theorem Jjk:B2 (k+1) [x0,x1,x2] h=(Jg6 k [V x0,V x1,V x2] h).fin:=02
def Jcb:S1:=Jk<|Jm (wU k) []<|Jb (Jc Jg (Jq "row" 'a')<|Jc Jg (Jq "later" 'a')<|jg vG '1') Je
theorem Jc3:B3 (k+1) [x0] h=(Jcb k [V x0] h).fin:=02
def Kg:S1:=VR (QM (Ji aR<|Jc fE (aW (aO aS)<|Jb (Jq "later" 'a') Je) '0')<|Ji aR<|Jc c7 (Jp (pg k) "next_ready" 0 'a' Je)<|Jq "turn" 'a')<|JS<|Jp (pg k) "append" 1 (Jq "waiting" 'a')<|Jb (Jp (pg k) "pop" 0 (Jq "later" 'a') Je) Je
def Jey:S1:=Jh (bg (Ji aR<|Jc jX (aW (aO aS)<|Jb (Jq "waiting" 'a') Je) '0') (JP "turn" 'a'<|aW (kQ jj)<|Jb (Jq "turn" 'a')<|Jb (Jp (pg k) "next_ready" 0 'a' Je) Je) Jv)<|Kg k
theorem Jgo:B4 (k+1) [x0] h=(Jey k [V x0] h).fin:=02
def Jcz:S1:=Jh (Jl 2<|Jc Jg (Jq "row" 'a') 'b')<|Jh (Jl 3<|Jc Jg (Jq "dones" 'a') 'b')<|Jh (Jl 4<|Jc Qh (Jm (B1 k) []<|Jb (Jp (pg k) "work" 1 (Jq "duty"<|Jq "order" 'a')<|Jb (Jc Jg 'c' '0') Je)<|Jb 'd'<|Jb (Jc Jg 'c' '3') Je) 'd')<|Jh (bg (Ji aR<|Jc fE (aW (aO aS)<|Jb (Jq "later" 'a') Je) '0') (Jl 4<|aW (kQ m6)<|Jb 'e'<|Jb (Jc Qh (Jp (pg k) "next_ready" 0 'a' Je)<|Jq "turn" 'a') Je) Jv)<|Jk 'e'
theorem Jdw:B5 (k+1) [x0,x1] h=(Jcz k [V x0,V x1,Zg,Zg,Zg] h).fin:=02
def Kh:S1:=JS<|Jp (pg k) "append" 1 (Jq "stretches" 'a')<|Jb (bN<|Jb 'b'<|Jb 'd'<|Jb 'c' Je) Je
def Jg7:S1:=Jh (Jl 3<|Jq "turn" 'a')<|Jh (bg (QM (Ji aR<|Jc fE (aW (aO aS)<|Jb (Jq "stretches" 'a') Je) '0')<|Ji aR<|Jc jX (Jc Jg (Jc Jg (Jq "stretches" 'a')<|jg vG '1') '0') 'b') (Jl 3<|Jc Jg (Jp (pg k) "pop" 0 (Jq "stretches" 'a') Je) '1') Jv)<|Kh k
theorem Jjl:B6 (k+1) [x0,x1,x2] h=(Jg7 k [V x0,V x1,V x2,Zg] h).fin:=02
def Jfm:S1:=Jh (JS<|Jp (pg k) "let_in" 0 'a' Je)<|Jh (Jl 1<|Jp (pg k) "pick" 3 (Jq "order" 'a')<|Jb (Jq "row" 'a')<|Jb (Jq "waiting" 'a')<|Jb (Jq "dones" 'a') Je)<|Jh (Jl 2<|Jp (pg k) "turns_for" 1 'a'<|Jb 'b' Je)<|Jh (JS<|Jp (pg k) "tell" 2 'a'<|Jb 'b'<|Jb (Jc Jr (Jq "turn" 'a') 'c') Je)<|Jh (XR .Add "turn" 'a' 'c')<|Jh (XS .Add (Jq "dones" 'a') 'b' 'c')<|bg (Ji aR<|Jc jX (Jc Jg (Jq "dones" 'a') 'b')<|Jc Jg (Jc Jg (Jq "row" 'a') 'b') '3') (JS<|Jp (pg k) "remove" 1 (Jq "waiting" 'a')<|Jb 'b' Je) Jv
theorem Jhj:B7 (k+1) [x0] h=(Jfm k [V x0,Zg,Zg] h).fin:=02
def Jzf:S1:=Jh (JS<|Jm (BV k) []<|Jb (Jq "duty" 'a')<|Jb 'b' Je)<|Jh (Jl 2<|Q0 "Bench" (B2 k) []<|Jb 'a'<|Jb 'b' Je)<|Jh (VR (Ji aR<|Jc fE (Jc Jr (aW (aO aS)<|Jb (Jq "later" 'c') Je)<|aW (aO aS)<|Jb (Jq "waiting" 'c') Je) '0')<|JS<|Jp (pg k) "go_on" 0 'c' Je)<|Jk<|Jq "stretches" 'c'
theorem J3l:B8 (k+1) [x0,x1] h=(Jzf k [V x0,V x1,Zg] h).fin:=02
def Jkj:S1:=Jh (Jl 1 Yu)<|Jh (bV (c4 Qd<|Jb (Jp (pg k) "size" 0 'a' Je) Je) (aV 2)<|bV (Jw<|Jp (pg k) "held" 0 (Jp (pg k) "work" 1 'a'<|Jb 'c' Je) Je) (aV 3)<|JS<|Jp (pg k) "setdefault" 2 'b'<|Jb (Jc Jg 'd' '0')<|Jb 'c' Je)<|Jk 'b'
theorem Jm6:wZ (k+1) [x0] h=(Jkj k [V x0,Zg,Zg,Zg] h).fin:=02
def Jfv:S1:=Jk<|Jy (Jw<|Jp (pg k) "held" 0 'a' Je) 1 [1] (aV 0) (Ji aR<|JK gi gi (Jc Jg 'a' '1') 'b'<|Jc Jg 'a' '2')<|Jc Jg 'a' '0'
theorem Jhs:w0 (k+1) [x0,x1] h=(Jfv k [V x0,V x1] h).fin:=02
def Ki(k:Nat):E1:=Jc Vj 'b' 'a'
def Jph:S1:=Jk<|aW (aO VP)<|Jb (Jc Jr (J9<|Jb 'a' Je)<|Jy (Jw 'b') 1 [2] (aV 0) JB<|Ki k) Je
theorem Jr6:B9 (k+1) [x0,x1,x2] h=(Jph k [V x0,V x1,V x2] h).fin:=02
def Jhe(k:Nat):S1:=Jk<|Jc Qh (Jc Qh (Jc Jg 'a' '2')<|Jc Jg 'a' '1') '1'
theorem Jjs:w6 (k+1) [x0] h=(Jhe k [V x0] h).fin:=02
def Kj(k:Nat):E1:=bN<|Jb 'd'<|Jb 'a' Je
def CK(k:Nat):T1:=Ji aR<|Jc c7 (Jc Vj 'c'<|Jc Jg 'a' '0') 'b'
def Je1:S1:=Jh (Jl 2<|Jm (wZ k) []<|Jb 'a' Je)<|Jh (Jl 3<|J9 Je)<|Jh (bV (c4 VN<|Jb (Jc Jr 'b' '1')<|Jb (Jp (pg k) "size" 0 'a' Je) Je) (aV 4)<|JS<|Jp (pg k) "extend" 1 'd'<|Jb (Jy (Jw<|Jp (pg k) "held" 0 (Jp (pg k) "work" 1 'a'<|Jb 'e' Je) Je) 1 [1,2,4] (aV 0) (CK k)<|Kj k) Je)<|Jk<|Yx m8 "longest_hold" 2 [] (Jb 'd' Je) (Jm (w6 k) []<|Jb (Jc Jg 'a' '1') Je)<|eC .af
theorem Jgr:w7 (k+1) [x0,x1] h=(Je1 k [V x0,V x1,Zg,Zg,Zg] h).fin:=02
def Jmu:S1:=Jh (Jl 2<|Jm (w7 k) []<|Jb 'a'<|Jb 'b' Je)<|Jk<|kM (Ji aR<|Jc mZ 'c'<|eC .af) '0'<|Jm (w6 k) []<|Jb (Jc Jg 'c' '1') Je
theorem Jpo:Ca (k+1) [x0,x1] h=(Jmu k [V x0,V x1,Zg] h).fin:=02
def Jha:S1:=Jk<|kM (Ji aR<|Jc q7 'b' '1') (Jm (wR k) []<|Jb (Jc Jr 'b'<|Jq "late" 'a')<|Jb (Jq "gap" 'a') Je) '0'
theorem Jjo:w8 (k+1) [x0,x1] h=(Jha k [V x0,V x1] h).fin:=02
def Kk:E1:=Jp (pg k) "work" 1 'b'<|Jb 'a' Je
def Kl:E1:=Jc Q6 (Jm (w8 k) []<|Jb 'a'<|Jb 'b' Je)<|Jq "length" 'a'
def Juv:S1:=Jh (Jl 3<|Jy (c4 Qd<|Jb 'b' Je) 1 [0] (aV 0) JB<|Kk k)<|Jh (Jl 4<|aW (aO gu)<|Jb (Jy (Jw 'd') 1 [2] (aV 0) JB<|Kl k) Je)<|Jk<|Jc Jr (Jc Jr (Jm (Ca k) []<|Jb 'a'<|Jb 'b' Je)<|Jq "length"<|Jp (pg k) "work" 1 'a'<|Jb 'b' Je) 'e'
theorem Jzz:Cb (k+1) [x0,x1,x2] h=(Juv k [V x0,V x1,V x2,Zg,Zg] h).fin:=02
def Jmv(k:Nat):S1:=Jk<|Jc c7 (Jc Jr 'b'<|Jq "late" 'a')<|Jq "due" 'a'
theorem Jpp:Cd (k+1) [x0,x1] h=(Jmv k [V x0,V x1] h).fin:=02
def Jpf:S1:=Jh (Jl 2 '1')<|Jh (VR (Ji bG<|Jm (Cd k) []<|Jb (Jp (pg k) "work" 1 'a'<|Jb 'b' Je)<|Jb 'c' Je)<|Jh (Jl 3<|Jm (Cb k) []<|Jb 'a'<|Jb 'b'<|Jb 'c' Je)<|Jh (bg (Ji aR<|Jc c7 'd' 'c') (Jk 'c') Jv)<|Jl 2 'd')<|Jk<|eC .af
theorem Jr4:w9 (k+1) [x0,x1] h=(Jpf k [V x0,V x1,Zg,Zg] h).fin:=02
def CL(k:Nat):E1:=Jc Jr (Jc Qh 'b'<|Jq "late" 'c')<|Jc Q6 'a'<|Jq "gap" 'c'
def Km(k:Nat):E1:=bN<|Jb 'b'<|Jb 'a'<|Jb (aW (kQ jj)<|Jb '0'<|Jb (Jc Qh 'c' 'a') Je)<|Jb (Jq "length" 'd') Je
def Jks:S1:=Jh (Jl 4<|Jp (pg k) "work" 1 'a'<|Jb 'b' Je)<|Jh (Jl 5<|Jy (c4 Qd<|Jb 'd' Je) 1 [2,4] (aV 0) JB<|CL k)<|Jk<|Jy (Jw 'f') 1 [1,2,4] (aV 0) JB<|Km k
theorem Jnd:xg (k+1) [x0,x1,x2,x3] h=(Jks k [V x0,V x1,V x2,V x3,Zg,Zg] h).fin:=02
def CM(k:Nat):E1:=Jq "late" 'a'
def CO:S1:=Jh (Jl 6<|Jc Qh (Jq "due"<|Jp (pg k) "work" 1 'a'<|Jb 'b' Je)<|Jq "late"<|Jp (pg k) "work" 1 'a'<|Jb 'b' Je)<|Jh (bV (c4 Qd<|Jb 'b' Je) (aV 7)<|JS<|Jp (pg k) "extend" 1 'f'<|Jb (Jm (xg k) []<|Jb 'a'<|Jb 'h'<|Jb 'e'<|Jb (Jm (w8 k) []<|Jb (Jp (pg k) "work" 1 'a'<|Jb 'h' Je)<|Jb 'g' Je) Je) Je)<|Jh (JS<|Jp (pg k) "extend" 1 'f'<|Jb (Jm (xg k) []<|Jb 'a'<|Jb 'b'<|Jb 'e'<|Jb '1' Je) Je)<|Jk<|bN<|Jb 'f'<|Jb (Jc Qh (aW (aO aS)<|Jb 'f' Je) '1') Je
def Jmt:S1:=Jh (Jl 2<|Jm (w7 k) []<|Jb 'a'<|Jb 'b' Je)<|Jh (Jl 3<|kM (Ji aR<|Jc mZ 'c'<|eC .af) '0'<|Jc Jr (Jc Jg (Jc Jg 'c' '1') '1') '1')<|Jh (Jl 4<|aW (aO Vh)<|Jb (Jc Jr (Jy (Jw<|gX ir (Jq "works" 'a') Q5<|Qq<|Jc Jr 'b' '1') 1 [] (aV 0) JB<|CM k)<|J9<|Jb 'd' Je) Je)<|Jh (Jl 5<|J9 Je)<|Jh (bg (Ji aR<|Jc Xd 'c'<|eC .af) (JS<|Jp (pg k) "append" 1 'f'<|Jb (bN<|Jb (Jc Jg 'c' '0')<|Jb (Jc Qh 'e' 'd')<|Jb '0'<|Jb (Jq "length"<|Jp (pg k) "work" 1 'a'<|Jb (Jc Jg 'c' '0') Je) Je) Je) Jv)<|CO k
theorem Jpn:Ce (k+1) [x0,x1] h=(Jmt k [V x0,V x1,Zg,Zg,Zg,Zg,Zg,Zg] h).fin:=02
def Jg8(k:Nat):S1:=JP "duty" 'a' 'b'
theorem Jjm:Cf (k+1) [x0,x1] h=(Jg8 k [V x0,V x1] h).fin:=02
def Jg9:S1:=Jk<|X7 jG "Order.pick" 0 [3,1,0] (Jb 'c' Je)<|Jc Jr (Jp (pg k) "standing" 2 'd'<|Jb (Jc Jg 'c' 'a')<|Jb (Jc Jg 'b' 'a') Je)<|bN<|Jb 'a' Je
theorem Jjn:xh (k+1) [x0,x1,x2,x3] h=(Jg9 k [V x0,V x1,V x2,V x3] h).fin:=02
def Jdb:S1:=Jk<|bN<|Jb (Jp (pg k) "rank_of" 2 'a'<|Jb 'b'<|Jb 'c' Je)<|Jb (kM (Ji bG<|Jp (pg k) "holds" 2 'a'<|Jb 'b'<|Jb 'c' Je) '0' '1') Je
theorem Jee:Cg (k+1) [x0,x1,x2] h=(Jdb k [V x0,V x1,V x2] h).fin:=02
def Jfp:S1:=Jh (JS<|Jm (Cf k) []<|Jb 'a'<|Jb 'b' Je)<|JP "tops" 'a'<|Jm (wZ k) []<|Jb 'b' Je
theorem Jhm:Yc (k+1) [x0,x1] h=(Jfp k [V x0,V x1] h).fin:=02
def Jda:S1:=Jk<|Jm (B9 k) []<|Jb (Jc Jg 'b' '0')<|Jb (Jm (w0 k) []<|Jb (Jp (pg k) "work" 1 (Jq "duty" 'a')<|Jb (Jc Jg 'b' '0') Je)<|Jb 'c' Je)<|Jb (Jq "tops" 'a') Je
theorem Jed:Ci (k+1) [x0,x1,x2] h=(Jda k [V x0,V x1,V x2] h).fin:=02
def Jez:S1:=Jk<|Jc fE (aW (aO aS)<|Jb (Jm (w0 k) []<|Jb (Jp (pg k) "work" 1 (Jq "duty" 'a')<|Jb (Jc Jg 'b' '0') Je)<|Jb 'c' Je) Je) '0'
theorem Jgp:Cj (k+1) [x0,x1,x2] h=(Jez k [V x0,V x1,V x2] h).fin:=02
def Kn:S1:=Jh (Jl 3<|Jm (w9 k) []<|Jb 'a'<|Jb 'c' Je)<|Jh (bg (Ji aR<|Jc mZ 'd'<|eC .af) (YH (λc=>c=="NotKept")<|v8 "NotKept" (wO k) []<|Jb 'c' Je) Jv)<|JS<|Jp (pg k) "append" 1 'b'<|Jb 'd' Je
def Ko:S1:=Jh (bV (c4 Qd<|Jb (Jp (pg k) "size" 0 'a' Je) Je) (aV 2)<|Kn k)<|Jk 'b'
def Kq:S1:=Jh (Jl 1<|J9 Je)<|Ko k
theorem Jvf:Ck (k+1) [x0] h=(Kq k [V x0,Zg,Zg,Zg] h).fin:=02
def Jkp(k:Nat):S1:=Jk<|kM (Ji bG<|bP VG 'a') (aW (aO Vv)<|Jb 'a' Je) 'a'
theorem Jnc:xj (k+1) [x0] h=(Jkp k [V x0] h).fin:=02
def Jix:S1:=JP "lines" 'a'<|Jm (xj k) []<|Jb 'b' Je
theorem Jlp:xk (k+1) [x0,x1] h=(Jix k [V x0,V x1] h).fin:=02
def Jiy(k:Nat):S1:=Jk<|eC<|.bl Zj
theorem Jlq:Cn (k+1) [x0] h=(Jiy k [V x0] h).fin:=02
def Jfn:S1:=Jh (JP "row" 'a'<|Jm (xj k) []<|Jb 'b' Je)<|Jh (JP "place" 'a' 'c')<|JP "turn" 'a' 'd'
theorem Jhk:Co (k+1) [x0,x1,x2,x3] h=(Jfn k [V x0,V x1,V x2,V x3] h).fin:=02
def Jfo(k:Nat):S1:=Jk<|eC<|.bl Zn
theorem Jhl:Cp (k+1) [x0] h=(Jfo k [V x0] h).fin:=02
def Ji1:S1:=Jk<|Q0 "Broken" (Co k) []<|Jb 'b'<|Jb 'c'<|Jb (Jm (wV k) []<|Jb 'a'<|Jb (Jc Jg 'b' 'c') Je) Je
theorem Jlt:Cq (k+1) [x0,x1,x2] h=(Ji1 k [V x0,V x1,V x2] h).fin:=02
def Jfs:S1:=jZ (Jk<|Q0 "Kept" (xk k) []<|Jb (Jm (Ck k) []<|Jb 'a' Je) Je) [(Jql,V 1,(Xo 1<|Jh (Jl 2<|Jm (Ce k) []<|Jb 'a'<|Jb (Yv (eJ T "at") "at" 'b') Je)<|Jk<|Jm (Cq k) []<|Jb 'a'<|Jb (Jc Jg 'c' '0')<|Jb (Jc Jg 'c' '1') Je))]
theorem Jhp:Cr (k+1) [x0] h=(Jfs k [V x0,Zg,Zg] h).fin:=02
def Kr(k:Nat):E1:=bP (Qz ["Work"]) 'a'
def Ks(k:Nat):E1:=Jq "name" 'a'
def Jjb:S1:=Jh (bg (J6<|Ji bG<|bP VG 'a') cy Jv)<|Jh (bg (J6<|Ji bG<|aW (aO allI)<|Jb (Jy (Jw 'a') 1 [] (aV 0) JB<|Kr k) Je) cy Jv)<|Jh (bg (Ji aR<|Jc jE (Yw<|Jb (Jy (Jw 'a') 1 [] (aV 0) JB<|Ks k) Je)<|aW (aO aS)<|Jb 'a' Je) cy Jv)<|Jk<|aW (aO VW)<|Jb 'a' Je
theorem Jl3:Cs (k+1) [x0] h=(Jjb k [V x0] h).fin:=02
def CP(k:Nat):E1:=Jq "due" 'a'
def Kt:E1:=Jm (wR k) []<|Jb (Jc Jr 'b'<|Jq "late" 'a')<|Jb (Jq "gap" 'a') Je
def Jkk:S1:=Jh (Jl 1<|X6 (Jb (Jy (Jw 'a') 1 [] (aV 0) JB<|CP k) Je) '0')<|Jk<|aW (aO gu)<|Jb (Jy (Jw 'a') 1 [1] (aV 0) JB<|Kt k) Je
theorem Jm7:Ct (k+1) [x0] h=(Jkk k [V x0,Zg] h).fin:=02
def Jiu:S1:=Jh (JP "works" 'a'<|Jm (Cs k) []<|Jb 'b' Je)<|Jh (bg (Ji aR<|Jc fE (aW (aO aS)<|Jb (Jq "works" 'a') Je)<|eC<|.int 12) cy Jv)<|bg (Ji aR<|Jc fE (Jm (Ct k) []<|Jb (Jq "works" 'a') Je)<|eC<|.int 80) cy Jv
theorem Jlm:xl (k+1) [x0,x1] h=(Jiu k [V x0,V x1] h).fin:=02
def Jiv(k:Nat):S1:=Jk<|aW (aO aS)<|Jb (Jq "works" 'a') Je
theorem Jln:Cu (k+1) [x0] h=(Jiv k [V x0] h).fin:=02
def Jiw(k:Nat):S1:=Jk<|Jc Jg (Jq "works" 'a') 'b'
theorem Jlo:Cv (k+1) [x0,x1] h=(Jiw k [V x0,V x1] h).fin:=02
def Jft(k:Nat):S1:=Jh (bg (Ji aR<|Jc gi 'b'<|aW (aO aS)<|Jb 'a' Je) (Jk<|Jc Jg 'a' 'b') Jv)<|Jk '0'
theorem Jhq:Ye (k+1) [x0,x1] h=(Jft k [V x0,V x1] h).fin:=02
def Jhd:S1:=Jh (Jl 2<|J9 Je)<|Jh (bg (Ji aR<|Jc q7 'a'<|Jc JQ (eC<|.int 10)<|eC<|.int 30) (Jh (Jl 3<|Jc Qh 'a'<|Jc JQ (eC<|.int 10)<|eC<|.int 30)<|Jh (bV (c4 Qd<|Jb 'b' Je) (aV 4)<|Jh (JS<|Jp (pg k) "append" 1 'c'<|Jb (Jc JC 'd'<|Jc JQ (eC<|.int 10)<|eC<|.int 45) Je)<|Jl 3<|Jc JW 'd'<|Jc JQ (eC<|.int 10)<|eC<|.int 45)<|Jk 'c') Jv)<|Jh (Jl 5<|Jc Jr (Jc JC 'a'<|Jc Jr (Jc JQ (eC<|.int 10)<|eC<|.int 18) '9')<|eC<|.int 48271)<|Jh (bV (c4 Qd<|Jb (Jc Jr 'b' '2') Je) (aV 4)<|Jh (Jl 5<|Jc JC (Jc Jr (Jc Jr (Jc Q6 'f' 'f')<|Jc Q6 (eC<|.int 48271) 'f') 'e')<|Jc Jr (Jc JQ (eC<|.int 10)<|eC<|.int 18) '9')<|JS<|Jp (pg k) "append" 1 'c'<|Jb 'f' Je)<|Jk<|gX ir 'c' (Qq '2') Q5
theorem Jjr:Cw (k+1) [x0,x1] h=(Jhd k [V x0,V x1,Zg,Zg,Zg,Zg] h).fin:=02
def Ku(k:Nat):E1:=Jc Jg 'c'<|Jc JC (Jc JW 'b'<|Jc Jr (eC<|.int 11)<|Jc Q6 'a' 'a')<|eC<|.int 26
def Jko:S1:=Jh (Jl 2<|eC<|.str "abcdefghijklmnopqrstuvwxyz")<|Jh (Jl 3<|Jc Jr '1'<|Jc JC 'a' '8')<|Jh (Jl 4<|Jp (pg k) "join" 1 (eC<|.str "")<|Jb (Jy (c4 Qd<|Jb 'd' Je) 1 [0,2] (aV 0) JB<|Ku k) Je)<|Jh (Jl 5<|Jc JC (Jc JW 'a' '8') 'd')<|Jk<|Jc Jr (Jc Jr (gX oz 'e' Q5<|Qq 'f')<|Jc Jg 'c'<|Jc JC (Jc Jr (Jc JW 'a'<|eC<|.int 64) 'b')<|eC<|.int 26)<|gX oz 'e' (Qq<|Jc Jr 'f' '1') Q5
theorem Jnb:xm (k+1) [x0,x1] h=(Jko k [V x0,V x1,Zg,Zg,Zg,Zg] h).fin:=02
def Kv(k:Nat):E1:=Jc JC 'a' 'b'
def Kw(k:Nat):S1:=Jk<|Jy (Jw<|Jc Jg 'g'<|Jc JC (Jc Jg 'a' '6') '6') 1 [] (aV 0) (Ji aR<|Jc gi (Jc Jg 'a' '1')<|Jc Jg 'a' '2') 'a'
def Kx:S1:=Jh (Jl 6<|Jc Jr 'g'<|J9<|Jb (J9<|Jb (bN<|Jb 'e'<|Jb (Jc Jg 'd' '0')<|Jb (Jc Jg 'd' '1') Je)<|Jb (bN<|Jb 'f'<|Jb (Jc Jg 'd' '2')<|Jb (Jc Jg 'd' '3') Je) Je)<|Jb (J9<|Jb (bN<|Jb 'e'<|Jb (Jc Jg 'd' '2')<|Jb (Jc Jg 'd' '3') Je)<|Jb (bN<|Jb 'e'<|Jb (Jc Jg 'd' '0')<|Jb (Jc Jg 'd' '1') Je) Je) Je)<|Kw k
def Ky:S1:=Jh (Jl 6<|J9<|Jb (J9 Je)<|Jb (J9<|Jb (bN<|Jb 'e'<|Jb (Jc Jg 'd' '0')<|Jb (Jc Jg 'd' '3') Je) Je)<|Jb (J9<|Jb (bN<|Jb 'e'<|Jb (Jc Jg 'd' '0')<|Jb (Jc Jg 'd' '3') Je)<|Jb (bN<|Jb 'f'<|Jb (Jc Jg 'd' '1')<|Jb (Jc Jg 'd' '2') Je) Je)<|Jb (J9<|Jb (bN<|Jb 'f'<|Jb (Jc Jg 'd' '1')<|Jb (Jc Jg 'd' '2') Je)<|Jb (bN<|Jb 'e'<|Jb (Jc Jg 'd' '0')<|Jb (Jc Jg 'd' '3') Je) Je) Je)<|Kx k
def Ji3:S1:=Jh (Jl 3<|aW (aO XU)<|Jb (Jy (Jw<|gX ir 'a' Q5<|Qq '4') 1 [1] (aV 0) JB<|Kv k) Je)<|Jh (Jl 4<|Jc Jg 'c'<|Jc JC (Jc Jg 'a' '4') '3')<|Jh (Jl 5<|Jc Jg 'c'<|Jc JC (Jc Jr (Jc Jr (Jc Jg 'a' '4') '1')<|Jc JC (Jc Jg 'a' '5') '2') '3')<|Ky k
theorem Jlv:Cy (k+1) [x0,x1,x2] h=(Ji3 k [V x0,V x1,V x2,Zg,Zg,Zg,Zg] h).fin:=02
def Ji5:S1:=Jh (Jl 4<|Jm (Cw k) []<|Jb 'a'<|Jb (eC<|.int 15) Je)<|Jh (Jl 5<|Jc Jr (Jc Q6 'b'<|Jc Jr '1'<|Jc JC (Jc Jg 'e' '0')<|Jc Jg (J9<|Jb '7'<|Jb '2' Je)<|aW (aO Y2)<|Jb (Jc fE 'd' '5') Je)<|Jc JC (Jc Jg 'e' '1')<|Jc Jr '1'<|Jc JW 'b' '2')<|Jh (Jl 6<|Jc Qh 'f'<|Jc Jg (J9<|Jb '0'<|Jb (Jc JC (Jc Jg 'e' '2') 'f') Je)<|Jc JC (Jc Jg 'e' '3') '2')<|Jh (Jl 7<|Jc Jg (J9<|Jb '0'<|Jb '0'<|Jb (Jc JC (Jc Jg 'e' '4')<|Jc Jr '1'<|Jc JW 'f' '3')<|Jb (Jc JC (Jc Jg 'e' '4')<|Jc Jr '1'<|Jc JW (Jc Q6 '3' 'f') '2') Je)<|Jc JC (Jc Jg 'e' '5') '4')<|Jh (Jl 8<|Jc Jr '1'<|Jc JC (Jc Jg 'e' '6')<|aW (kQ jj)<|Jb '1'<|Jb (Jc JW 'f'<|Jc Jg (J9<|Jb '1'<|Jb '2'<|Jb '4'<|Jb '9'<|Jb (eC<|.int 25) Je)<|Jc JC (Jc Jg 'e' '7')<|Jc Jg (J9<|Jb '4'<|Jb '5' Je)<|aW (aO Y2)<|Jb (Jc fE 'd' '5') Je) Je)<|Jh (Jl 9<|J9 Je)<|Jh (bg (Ji aR<|Jc jE 'c'<|J9 Je) (Jl 9<|Jm (Cy k) []<|Jb (gX ir 'e' (Qq '8') Q5)<|Jb 'i'<|Jb 'c' Je) Jv)<|Jk<|bN<|Jb 'f'<|Jb 'i'<|Jb 'g'<|Jb 'h'<|Jb 'j' Je
theorem Jlx:Cz (k+1) [x0,x1,x2,x3] h=(Ji5 k [V x0,V x1,V x2,V x3,Zg,Zg,Zg,Zg,Zg,Zg] h).fin:=02
def Kz:E1:=Jm (xm k) []<|Jb (Jc JW 'b' '5')<|Jb 'a' Je
def KA:S1:=Jh (Jl 7<|J9 Je)<|Jh (bV (c4 Qd<|Jb 'f' Je) (aV 8)<|Jh (Jl 9<|Jm (Cz k) []<|Jb (Jc Jr (Jm (Ye k) []<|Jb 'a'<|Jb (Jc Jr '2'<|Jc JC 'i' '5') Je)<|Jc Q6 '7' 'i')<|Jb 'd'<|Jb 'g'<|Jb 'f' Je)<|JS<|Jp (pg k) "append" 1 'h'<|Jb (Jc Jr (bN<|Jb (Jm (xm k) []<|Jb (Jc JW 'e' '7')<|Jb 'i' Je) Je) 'j') Je)<|Jk 'h'
def KC:S1:=Jh (Jl 6<|J9 Je)<|Jh (bg (Ji bG 'b') (Jl 6<|Jy (c4 Qd<|Jb '3' Je) 1 [4] (aV 0) JB<|Kz k) Jv)<|KA k
def Jkn:S1:=Jh (Jl 2<|Jm (Ye k) []<|Jb 'a'<|Jb '0' Je)<|Jh (Jl 3<|Jc Jr '1'<|Jc JC (Jc JW 'c' '4')<|Jc Jg (J9<|Jb '4'<|Jb (Jc JQ (eC<|.int 10)<|eC<|.int 15)<|Jb (Jc JQ (eC<|.int 10)<|eC<|.int 15)<|Jb (Jc JQ (eC<|.int 10)<|eC<|.int 40) Je)<|Jc JC 'c' '4')<|Jh (Jl 4<|Jm (Ye k) []<|Jb 'a'<|Jb '1' Je)<|Jh (Jl 5<|Jc JC 'e' '6')<|Jh (bg (Ji aR<|Jc jX (Jc JC (Jc JW 'e' '6') '8') '5') (Jl 5<|Jc Jr '6'<|Jc JC (Jc JW 'e'<|eC<|.int 48) '7') Jv)<|KC k
theorem Jna:CA (k+1) [x0,x1] h=(Jkn k [V x0,V x1,Zg,Zg,Zg,Zg,Zg,Zg,Zg,Zg] h).fin:=02
def Ji7(k:Nat):S1:=Jk<|dG (bP vQ 'a') (jg (YB bG)<|bP vR 'a') bG
theorem Jlz:Yf (k+1) [x0] h=(Ji7 k [V x0] h).fin:=02
def KD:E1:=Jm (Yf k) []<|Jb 'a' Je
def Ji6:S1:=Jh (bg (cJ (J6<|Ji bG<|bP Xx 'a')<|Ji aR<|Jc jE (aW (aO aS)<|Jb 'a' Je) '4') (Jk<|eC<|.bl Zn) Jv)<|Jh (bg (J6<|Ji bG<|aW (aO allI)<|Jb (Jy (Jw 'a') 1 [] (aV 0) JB<|KD k) Je) (Jk<|eC<|.bl Zn) Jv)<|Jh (fG 'a'<|jV 4<|gC (aV 2)<|gC (aV 3)<|gC (aV 4)<|gC (aV 5) gN)<|Jh (bg (cJ (J6<|Ji aR<|JK c7 gi '0' 'c'<|aW (aO aS)<|Jb 'b' Je)<|Ji aR<|Jc gi 'd' '0') (Jk<|eC<|.bl Zn) Jv)<|Jk<|dG (JK c7 c7 '0' 'e'<|Jc Jg (Jc Jg 'b' 'c') '4') (JK c7 c7 '1' 'f'<|Jc Jg (Jc Jg 'b' 'c') '2') bG
theorem Jly:CB (k+1) [x0,x1] h=(Ji6 k [V x0,V x1,Zg,Zg,Zg,Zg] h).fin:=02
def Ji4:S1:=Jh (bg (J6<|Ji bG<|bP VG 'a') (Jk<|eC<|.bl Zn) Jv)<|Jh (Jl 2 Yu)<|Jh (bV (Jw 'a') (aV 3)<|Jh (bg (J6<|Ji bG<|Jm (CB k) []<|Jb 'd'<|Jb 'b' Je) (Jk<|eC<|.bl Zn) Jv)<|Jh (bg (QM (Ji aR<|Jc gy (Jc Jg 'd' '0') 'c')<|Ji aR<|Jc gi (Jc Jg 'd' '1')<|Jc Jr (Jc Vj 'c'<|Jc Jg 'd' '0')<|Jc Jg (Jc Jg 'b'<|Jc Jg 'd' '0') '1') (Jk<|eC<|.bl Zn) Jv)<|fG (Jc Jg 'd' '1')<|iy 'c'<|Jc Jg 'd' '0')<|Jk<|eC<|.bl Zj
theorem Jlw:xn (k+1) [x0,x1] h=(Ji4 k [V x0,V x1,Zg,Zg] h).fin:=02
def Jfu(k:Nat):S1:=Jk<|Jc JW (Jc Qh (Jc Jr (Jc Jr 'b'<|Jc Jg 'a' '4')<|Jc Jg 'a' '1') '1')<|Jc Jg 'a' '1'
theorem Jhr:CC (k+1) [x0,x1] h=(Jfu k [V x0,V x1] h).fin:=02
def KG(k:Nat):E1:=Ja 0
def CQ:E1:=Jc Q6 (Jm (CC k) []<|Jb 'a'<|Jb 'b' Je)<|Jc Jg 'a' '2'
def Jkm:S1:=Jh (Jl 3<|J9 Je)<|Jh (bV (Jw<|gX ir 'a' Q5<|Qq<|Jc Jr 'b' '1') (aV 4)<|Jl 3<|Jc Jr 'd'<|Jy (Jw<|Jc Jg 'e' '5') 3 [] (jV 3<|gC (aV 0)<|gC (aV 1)<|gC (aV 2) gN) JB<|KG k)<|Jh (Jl 5 '0')<|Jh (bV (Jw<|gX ir 'a' (Qq<|Jc Jr 'b' '1') Q5) (aV 4)<|bV (Jw<|Jc Jg 'e' '5') (jV 3<|gC (aV 6)<|gC (aV 7)<|gC (aV 8) gN)<|bg (Ji aR<|Jc ot 'g' 'd') (Jl 5<|aW (kQ jj)<|Jb 'f'<|Jb (Jc Qh (Jc Qh 'i' 'h') '1') Je) Jv)<|Jk<|Jc Jr (Jc Jr 'f'<|Jc Jg (Jc Jg 'a' 'b') '2')<|aW (aO gu)<|Jb (Jy (Jw<|gX ir 'a' Q5<|Qq 'b') 1 [2] (aV 0) JB<|CQ k) Je
theorem Jm9:CD (k+1) [x0,x1,x2] h=(Jkm k [V x0,V x1,V x2,Zg,Zg,Zg,Zg,Zg,Zg] h).fin:=02
def Jhb:S1:=Jh (Jl 2 '1')<|Jh (VR (Ji aR<|Jc c7 (Jc Jr 'c'<|Jc Jg (Jc Jg 'a' 'b') '4')<|Jc Jg (Jc Jg 'a' 'b') '3')<|Jh (Jl 3<|Jm (CD k) []<|Jb 'a'<|Jb 'b'<|Jb 'c' Je)<|Jh (bg (Ji aR<|Jc c7 'd' 'c') (Jk 'c') Jv)<|Jl 2 'd')<|Jk<|eC .af
theorem Jjp:xp (k+1) [x0,x1] h=(Jhb k [V x0,V x1,Zg,Zg] h).fin:=02
def Jmy(k:Nat):S1:=Jh (Jl 2 '0')<|Jh (bV (Jw 'a') (jV 3<|gC (aV 3)<|gC (aV 4)<|gC (aV 5) gN)<|bg (Ji aR<|Jc jX 'd' 'b') (Jl 2 'f') Jv)<|Jk 'c'
theorem Jps:CF (k+1) [x0,x1] h=(Jmy k [V x0,V x1,Zg,Zg,Zg,Zg] h).fin:=02
def Jhc:S1:=Jh (Jl 3<|Jq "row" 'a')<|Jh (Jl 4<|Jq "place" 'a')<|Jh (bg (cJ (J6<|Ji bG<|Jm (xn k) []<|Jb 'd'<|Jb 'b' Je)<|J6<|Ji bG<|Jm (CH k) []<|Jb 'd'<|Jb 'b' Je) (Jk<|eC<|.bl Zn) Jv)<|Jh (bg (cJ (J6<|Ji bG<|Jm (xn k) []<|Jb 'd'<|Jb 'b' Je)<|cJ (Ji aR<|Jc fE (aW (aO aS)<|Jb 'd' Je)<|eC<|.int 100)<|cJ (J6<|Ji bG<|Jm (Yf k) []<|Jb 'e' Je)<|J6<|Ji bG<|Jm (Yf k) []<|Jb (Jq "turn" 'a') Je) (Jk<|eC<|.bl Zn) Jv)<|Jh (bg (cJ (J6<|Ji aR<|JK c7 gi '0' 'e'<|aW (aO aS)<|Jb 'd' Je)<|Ji aR<|Jc jE (Jq "turn" 'a')<|Jc Jr (Jc Jg (Jc Jg 'd' 'e') '1')<|Jc Jg (Jc Jg 'b'<|Jc Jg (Jc Jg 'd' 'e') '0') '3') (Jk<|eC<|.bl Zn) Jv)<|Jk<|Jc fE (Jm (CF k) []<|Jb (Jm (B8 k) []<|Jb (Q0 "ByRank" (Yc k) []<|Jb 'c' Je)<|Jb (aW (aO Vv)<|Jb 'd' Je) Je)<|Jb 'e' Je)<|Jq "turn" 'a'
theorem Jjq:CG (k+1) [x0,x1,x2] h=(Jhc k [V x0,V x1,V x2,Zg,Zg] h).fin:=02
def Jd9(k:Nat):S1:=Jh (Jl 2 '1')<|Jh (bV (Jw 'b') (jV 6<|gC (aV 3)<|gC (aV 4)<|gC (aV 5)<|gC (aV 6)<|gC (aV 7)<|gC (aV 8) gN)<|Jl 2<|aW Y6<|Jb 'c'<|Jb 'e'<|Jb 'f'<|Jb 'h' Je)<|Jh (bV (Jw 'a') (aV 9)<|bg (Ji aR<|Jc fE (aW (aO aS)<|Jb (aW (aO iw)<|Jb (aW (aO Vh)<|Jb 'j' Je) Je) Je)<|Jc Jr (aW (aO aS)<|Jb (aW (aO iw)<|Jb 'c' Je) Je) '6') (Jk<|eC<|.bl Zn) Jv)<|Jk<|eC<|.bl Zj
theorem Je3:CH (k+1) [x0,x1] h=(Jd9 k [V x0,V x1,Zg,Zg,Zg,Zg,Zg,Zg,Zg,Zg] h).fin:=02
def xr:E1:=Q0 "Work" (wY k) []<|Jb (Jc Jg 'a' '0')<|Jb (Jc Jg 'a' '1')<|Jb (Jc Jg 'a' '2')<|Jb (Jc Jg 'a' '3')<|Jb (Jc Jg 'a' '4')<|Jb (aW (aO Vv)<|Jb (Jc Jg 'a' '5') Je) Je
def KH:E1:=Jm (xp k) []<|Jb 'b'<|Jb 'a' Je
def Jze:S1:=Jh (Jl 1<|Jm (CA k) []<|Jb 'a'<|Jb (eC<|.bl Zj) Je)<|Jh (Jl 2<|Q0 "Duty" (xl k) []<|Jb (Jy (Jw 'b') 1 [] (aV 0) JB<|xr k) Je)<|Jh (Jl 3<|Jy (c4 Qd<|Jb (aW (aO aS)<|Jb 'b' Je) Je) 1 [1] (aV 0) JB<|KH k)<|Jh (Jl 4<|Jm (Cr k) []<|Jb 'c' Je)<|Jh (bg (J6<|Ji bG<|bP (Qz ["Verdict","Kept","Broken"]) 'e') (Jk<|eC<|.bl Zn) Jv)<|Jh (bg (Ji aR<|Jc X1 (eC .af) 'd') (Jh (bg (cJ (J6<|Ji bG<|bP (Qz ["Kept"]) 'e')<|cJ (Ji bG<|bP (Qz ["Broken"]) 'e')<|Ji aR<|Jc Xd (Jp (pg k) "kept" 0 'e' Je)<|eC<|.bl Zj) (Jk<|eC<|.bl Zn) Jv)<|Jk<|dG (bP VG<|Jq "lines" 'e') (Jc jX (Jq "lines" 'e') 'd') bG) Jv)<|Jh (bg (cJ (J6<|Ji bG<|bP (Qz ["Broken"]) 'e')<|cJ (Ji bG<|bP (Qz ["Kept"]) 'e')<|Ji aR<|Jc Xd (Jp (pg k) "kept" 0 'e' Je)<|eC<|.bl Zn) (Jk<|eC<|.bl Zn) Jv)<|Jk<|Jm (CG k) []<|Jb 'e'<|Jb 'b'<|Jb 'c' Je
theorem J3k:Yd (k+1) [x0] h=(Jze k [V x0,Zg,Zg,Zg,Zg] h).fin:=02
end
theorem xw(k):Qb (pg k) "held" 0 "Work"=V (B0 k,[]):=02
theorem Jc2(k):Qb (pg k) "next_ready" 0 "Bench"=V (B3 k,[]):=02
theorem Jgj(k):Qb (pg k) "let_in" 0 "Bench"=V (B4 k,[]):=02
theorem Jds(k):Qb (pg k) "turns_for" 1 "Bench"=V (B5 k,[]):=02
theorem Jji(k):Qb (pg k) "tell" 2 "Bench"=V (B6 k,[]):=02
theorem Jhg(k):Qb (pg k) "go_on" 0 "Bench"=V (B7 k,[]):=02
theorem Jec(k):Qb (pg k) "rank_of" 2 "ByRank"=V (Ci k,[]):=02
theorem Jgk(k):Qb (pg k) "holds" 2 "ByRank"=V (Cj k,[]):=02
theorem Jhi(k):Qb (pg k) "pick" 3 "ByRank"=V (xh k,[]):=02
theorem Jdt(k):Qb (pg k) "standing" 2 "ByRank"=V (Cg k,[]):=02
theorem Jli(k):Qb (pg k) "kept" 0 "Kept"=V (Cn k,[]):=02
theorem Jhh(k):Qb (pg k) "kept" 0 "Broken"=V (Cp k,[]):=02
theorem xx(k):Qb (pg k) "size" 0 "Duty"=V (Cu k,[]):=02
theorem CS(k):Qb (pg k) "work" 1 "Duty"=V (Cv k,[]):=02
end LW
section
open PySem L2 L3 L4
namespace LW
open PySem L2 L3 L4
section
variable{k:Nat}{h:IH}
theorem J4:1000000<sizeLine:=01
theorem VS(o o'):List.set (h++[o]) h.length o'=h++[o']:=03
theorem Xq(o o')(g):List.set (h++o::g) h.length o'=h++o'::g:=03
end
section
seal L4.run
section
variable{α β:Type}{U:aI}{h h1:IH}{N:aI->IH->Prop}{R P:IV->IH->Prop}
theorem xb(x:WR r λa h=>WR (f a h) Q):WR (r.bind f) Q:=(JD ..).mpr x
theorem ae(x:WS (a U h) (λj h1=>WS (b j h1) N R) R):WS (Jh a b U h) N R:=(UM ..).mpr x
theorem aq(x:WS r (λ_ h=>P .af h) P):WR r.fin P:=(UK ..).mpr x
theorem aj(x:WR (e U h) λv h1=>N (U.set i<|V v) h1):WS (Jl i e U h) N R:=(UN ..).mpr x
theorem ax(x:WR (e U h) R):WS (Jk e U h) N R:=(UP ..).mpr x
theorem Ql(x:WR (e U h) λ_ h1=>N U h1):WS (JS e U h) N R:=(UQ ..).mpr x
theorem tE(x:WR (t U h) λc h1=>(c=Zj->WS (a U h1) N R)/\(c=Zn->WS (b U h1) N R)):WS (bg t a b U h) N R:=(UO ..).mpr x
theorem jn(x:WR (t U h) λc h1=>(c=Zj->WR (a U h1) P)/\(c=Zn->WR (b U h1) P)):WR (kM t a b U h) P:=(UR ..).mpr x
theorem KI(x:WR (a U h) λc h1=>(c=Zj->WR (b U h1) Q)/\(c=Zn->Q Zn h1)):WR (QM a b U h) Q:=(US ..).mpr x
theorem iA[Decidable p](x:p->a)(y:¬p->b):(decide p=Zj->a)/\(decide p=Zn->b):=05
theorem aE(x:N U h):WS (Jv U h) N R:=x
theorem nq(x:WR (a U h) λxs h1=>xs.length<=sizeLine/\P (.tup xs) h1):WR (bN a U h) P:=(UU ..).mpr x
theorem nr(x:WR (a U h) λxs h1=>xs.length<=sizeLine/\P (.ref h1.length) (h1++[.lst xs])):WR (J9 a U h) P:=(UW ..).mpr x
theorem CT(g:h[i]?=V (.lst xs))(e:a7 xs n=V x)(q:P x h):WR (Jg (.ref i) (.int n) h) P:=(WI ..).mpr #[_,g,_,e,q]
theorem tF(e:a7 xs n=V x)(q:P x h):WR (Jg (.tup xs) (.int n) h) P:=(WG ..).mpr #[_,e,q]
theorem J84(g:h[i]?=V (.lst xs))(q:P (.int xs.length) h):WR (aS (.ref i) h) P:=(WJ ..).mpr #[_,g,q]
theorem CU(l:0<j)(q:P (.int<|i%j) h):WR (JC (.int i) (.int j) h) P:=(WA ..).mpr #[l,q]
theorem J82(l:0<j/\j.natAbs.log2<9000)(q:P (.int<|i/j) h):WR (JW (.int i) (.int j) h) P:=(U0 ..).mpr #[l,q]
theorem CV(l:Vq i j)(q:P (.int<|i*j) h):WR (Q6 (.int i) (.int j) h) P:=(UZ ..).mpr #[l,q]
def au(ho:o U h=.ok (.ref i) h1)(g:h1[i]?=V (.ins c fs))(l:fs.lookup f=V x):Jq f o U h=.ok x h1:=by calc Ju ?_;rw[UY,ho];show#[x,(QB g).trans l,rfl,rfl]
def aG(j:a U h=.ok x h1)(k:b U h1=.ok y J):Jc f a b U h=f x y J:=by unfold Jc;rw[j];dsimp only[Res.bind];rw[k]
def ak(j:a U h=.ok x h1):Jb a Je U h=.ok [x] h1:=by unfold Jb;rw[j];rfl
def ar(j:a U h=.ok x h1)(k:b U h1=.ok y J):Jb a (Jb b Je) U h=.ok [x,y] J:=by unfold Jb;rw[j];dsimp only[Res.bind];rw[k];rfl
def eE(j:a U h=.ok xs h1):aW f a U h=f xs h1:=by unfold aW;rw[j];rfl
def Jx(j:a U h=.ok xs h1)(k:f (xs++d) h1=.ok v J):Jm f d a U h=.ok v J:=by unfold Jm;rw[j];show k
def br(j:a U h=.ok (.bl c) h1):Ji aR a U h=.ok c h1:=by unfold Ji;rw[j];rfl
def dh(j:a U h=.ok (.ref i) h1)(g:h1[i]?=V (.lst xs)):aW (aO aS) (Jb a Je) U h=.ok (.int xs.length) h1:=by rw[eE<|ak j];show Ju<|J84 g #[rfl,rfl]
def aT(j:a U h=.ok (.ref i) h1)(k:b U h1=.ok (.int n) J)(g:J[i]?=V (.lst xs))(e:a7 xs n=V x):Jc Jg a b U h=.ok x J:=by rw[aG j k];show Ju<|CT g e #[rfl,rfl]
def ai(j:a U h=.ok (.tup xs) h1)(k:b U h1=.ok (.int n) J)(e:a7 xs n=V x):Jc Jg a b U h=.ok x J:=by rw[aG j k];show Ju<|tF e #[rfl,rfl]
theorem km(k:a U h=.ok (.int i) h1)(m:b U h1=.ok (.int j) J):Ji aR (Jc fE a b) U h=.ok (decide (j<i)) J:=br<|aG k m
theorem xy(k:a U h=.ok (.int i) h1)(m:b U h1=.ok (.int j) J):Ji aR (Jc c7 a b) U h=.ok (decide (i<=j)) J:=br<|aG k m
theorem ki(k:a U h=.ok (.int i) h1)(m:b U h1=.ok (.int j) J):Ji aR (Jc gi a b) U h=.ok (decide (i<j)) J:=br<|aG k m
theorem KJ(k:a U h=.ok (.int i) h1)(m:b U h1=.ok (.int j) J):Ji aR (Jc q7 a b) U h=.ok (decide (j<=i)) J:=br<|aG k m
theorem rm(k:a U h=.ok (.int i) h1)(m:b U h1=.ok (.int j) J):Ji aR (Jc jX a b) U h=.ok (decide (i=j)) J:=br<|aG k m
theorem aN(k:a U h=.ok (.int i) h1)(m:b U h1=.ok (.int j) J):Jc Jr a b U h=.ok (.int<|i+j) J:=aG k m
theorem dB(k:a U h=.ok (.int i) h1)(m:b U h1=.ok (.int j) J):Jc Qh a b U h=.ok (.int<|i-j) J:=aG k m
def iB(k:a U h=.ok x h1)(j:b U h1=.ok y J)(m:c U J=.ok z h3):Jb a (Jb b<|Jb c Je) U h=.ok [x,y,z] h3:=by rw[show Jb a (Jb b<|Jb c Je) U h=(a U h).bind λx h1=>(Jb b (Jb c Je) U h1).bind λxs J=>.ok (x::xs) J from rfl,k];change(Jb b (Jb c Je) U h1).bind _=_;rw[ar j m];rfl
def gF(j:a U h=.ok x h1)(B:b U h1=.ok y J)(k:c U J=.ok z h3)(m:d U h3=.ok u h4):Jb a (Jb b<|Jb c<|Jb d Je) U h=.ok [x,y,z,u] h4:=by rw[show Jb a (Jb b<|Jb c<|Jb d Je) U h=(a U h).bind λx h1=>(Jb b (Jb c<|Jb d Je) U h1).bind λxs J=>.ok (x::xs) J from rfl,j];change(Jb b (Jb c<|Jb d Je) U h1).bind _=_;rw[iB B k m];rfl
theorem bW(k:a U h=.ok (.int i) h1)(m:b U h1=.ok (.int j) J)(l:0<j):Jc JC a b U h=.ok (.int<|i%j) J:=(aG k m).trans<|Ju<|CU l #[rfl,rfl]
theorem Q2(k:a U h=.ok (.int i) h1)(m:b U h1=.ok (.int j) J)(l:0<j)(z:j.natAbs.log2<9000):Jc JW a b U h=.ok (.int<|i/j) J:=(aG k m).trans<|Ju<|J82 #[l,z] #[rfl,rfl]
theorem gG(k:a U h=.ok (.int i) h1)(m:b U h1=.ok (.int j) J)(l:Vq i j):Jc Q6 a b U h=.ok (.int<|i*j) J:=(aG k m).trans<|Ju<|CV l #[rfl,rfl]
theorem cO(j:a U h=.ok xs h1)(l:Nat.ble xs.length 1000=Zj):J9 a U h=.ok (.ref h1.length) (h1++[.lst xs]):=Ju<|nr<|Jf j #[Zb (Ea l)<|Zb 01<|Z3 J4,rfl,rfl]
theorem iC(j:a U h=.ok xs h1)(l:Nat.ble xs.length 1000=Zj):bN a U h=.ok (.tup xs) h1:=Ju<|nq<|Jf j #[Zb (Ea l)<|Zb 01<|Z3 J4,rfl,rfl]
theorem tG(j:a U h=.ok xs h1)(l:Nat.ble xs.length 1000=Zj)(k:b U (h1++[.lst xs])=.ok (.int n) (h1++[.lst xs]))(e:a7 xs n=V x):Jc Jg (J9 a) b U h=.ok x (h1++[.lst xs]):=aT (cO j l) k Jo e
theorem nt(k:a U h=.ok (.int i) h1)(m:b U h1=.ok (.int j) J):aW (kQ jj) (Jb a<|Jb b Je) U h=.ok (.int (if j>i then j else i)) J:=eE<|ar k m
theorem CW(k:a U h=.ok (.int i) h1)(m:b U h1=.ok (.int j) J):aW (kQ m6) (Jb a<|Jb b Je) U h=.ok (.int (if j<i then j else i)) J:=eE<|ar k m
def dO{Pg:Pg}(e:o U h=.ok (.ref i) h1)(hi:h1[i]?=V (.ins c fs))(j:fs.lookup m=Zg)(hd:Qb Pg m n c=V (f,d))(ha:a U h1=.ok xs J)(k:f (.ref i::(xs++d)) J=.ok v h3):Jp Pg m n o a U h=.ok v h3:=by calc Ju<|(Ho e hi j hd).mpr<|Jf ha<|Jf k #[rfl,rfl]
theorem jo[Decidable p](e:t U h=.ok (decide p) h1)(x:p->WS (a U h1) N R)(y:¬p->WS (b U h1) N R):WS (bg t a b U h) N R:=tE<|Jf e<|iA x y
theorem aL(e:t U h=.ok Zn h1)(x:WS (b U h1) N R):WS (bg t a b U h) N R:=tE (Jf e #[(λz=>by cases z),λ_=>x])
theorem jq(e:t U h=.ok Zj h1)(x:WS (a U h1) N R):WS (bg t a b U h) N R:=tE (Jf e #[λ_=>x,λz=>by cases z])
def gH(e:r=.next U1 h1)(x:N U1 h1):WS r N R:=by rw[e];show x
theorem eW(x:WR (it U h) λbB h1=>WS (JZ bB.ba g b bB.xs U h1) N R):WS (bV it g b U h) N R:=(Hg ..).mpr x
theorem dq{r:Res α}(e:r=.ok c h)(q:c=d):r=.ok d h:=q▸e
theorem eX(j:a U h=.ok v h1)(t:(gp v h1).bind dH=V b):bP dH a U h=.ok (.bl b) h1:=Ju<|(UX ..).mpr<|Jf j #[b,t,rfl,rfl]
def bF(e:a U h=.ok c h1):J6 a U h=.ok (!c) h1:=by unfold J6;rw[e];rfl
def bh(e:a U h=.ok (.bl c) h1):Ji bG a U h=.ok c h1:=by unfold Ji;rw[e];rfl
def iS(e:a U h=.ok Zn h1)(j:b U h1=r):cJ a b U h=r:=by unfold cJ;rw[e];show j
def tH(e:a U h=.ok Zj h1)(j:b U h1=r):QM a b U h=r:=by unfold QM;rw[e];show j
def tI(e:a U h=.ok Zn h1):QM a b U h=.ok Zn h1:=by unfold QM;rw[e];rfl
def X8(e:a U h=.ok (.bl Zj) h1)(j:b U h1=r):dG a b bG U h=r:=by unfold dG;rw[e];show j
theorem CY(k:a U h=.ok (.int i) h1)(m:b U h1=.ok (.int j) J)(l:i<j):Jc gi a b U h=.ok (.bl Zj) J:=(aG k m).trans (by change Res.ok (IV.bl<|decide (i<j)) J=_;rw[decide_eq_true l])
def CZ(m:a U h=.ok (.int i) h1)(k:b U h1=.ok (.int j) J)(u:c U J=.ok (.int l) h3)(t1:i<=j)(t2:j<l):JK c7 gi a b c U h=.ok (.bl Zj) h3:=by unfold JK;rw[m];dsimp only[Res.bind];rw[k];change(match IV.bl (decide (i<=j))with|.bl Zj=>_|.bl Zn=>_|_=>_)=_;rw[decide_eq_true t1];rw[u];change Res.ok (IV.bl<|decide (j<l)) h3=_;rw[decide_eq_true t2]
def lh{n:Nat}(j:e U h=.ok (.int (n:Int)) h1)(l:n<1000000)(x:WS (JZ (λ_=>True) g b (aX 0 (n:Int)) U h1) N R):WS (bV (c4 Qd<|Jb e Je) g b U h) N R:=by rw[Hg,Vz];calc Jf (ak j) ?_;rw[Xs];show#[05,x]
def C0(j:a U h=.ok (.ref i) h1)(g:h1[i]?=V (.lst xs)):aW (aO Vv) (Jb a Je) U h=.ok (.ref h1.length) (h1++[.lst xs]):=by rw[eE<|ak j];show Ju<|(WN ..).mpr #[_,g,rfl,rfl]
def Qs(ev:e U h=.ok v h1)(j:o U h1=.ok (.ref i) h1)(g:h1[i]?=V (.ins c fs))(l:fs.length<1000)(q:N U<|h1.set i<|.ins c<|bz f v fs):WS (JP f o e U h) N R:=by rw[YU];show Jf ev<|Jf j #[i,c,fs,rfl,g,l,q]
def J8y(k:o U h=.ok (.ref i) h1)(g:h1[i]?=V (.ins c fs))(l:fs.lookup f=V (.int a))(j:e U h1=.ok (.int b) J)(g2:J[i]?=V (.ins c gs))(z:gs.length<1000)(q:N U<|J.set i<|.ins c<|bz f (.int<|a+b) gs):WS (XR .Add f o e U h) N R:=by unfold XR;rw[k];simp![rS,g,l,j,L4.mz,g2,z];show q
def J8z(C:o U h=.ok (.ref i) h1)(F:k U h1=.ok (.int n) J)(g:J[i]?=V (.lst xs))(D:a7 xs n=V (.int a))(u:0<=n)(E:e U J=.ok (.int b) h3)(B:h3[i]?=V (.lst ys))(m:jS ys.length n=V j)(q:N U<|h3.set i<|.lst<|ys.set j<|.int<|a+b):WS (XS .Add o k e U h) N R:=by unfold XS;rw[C];simp![rS,F,wx,g,D,u,if_true,E,L4.mz,m5,B,m];show q
theorem VZ{Pg:Pg}(e:o U h=.ok (.ref i) h1)(hi:h1[i]?=V (.ins c fs))(j:fs.lookup m=Zg)(hd:Qb Pg m n c=V (f,d))(x:WR (a U h1) λvs J=>WR (f (.ref i::(vs++d)) J) P):WR (Jp Pg m n o a U h) P:=(Ho e hi j hd).mpr x
theorem QO{Pg:Pg}(e:o U h=.ok (.ref i) h1)(k:h1[i]?=V (.lst xs))(j:dA "list" m n=V g)(x:WR (a U h1) λvs J=>WR (g (.ref i) vs J) P):WR (Jp Pg m n o a U h) P:=(WL e k j).mpr x
theorem jr(g:h[i]?=V (.lst xs))(l:xs.length<sizeLine)(q:P .af<|h.set i<|.lst<|xs++[y]):WR (Xa (.ref i) [y] h) P:=(WM ..).mpr #[_,g,l,q]
def tJ(g:h[i]?=V (.lst xs))(l:xs[xs.length-1]?=V y)(q:P y<|h.set i<|.lst xs.dropLast):WR (XM (.ref i) [] h) P:=by
 have e:VO (.ref i) h=V (i,xs):=by unfold VO;simp![g]
 unfold XM;rw[e];dsimp only;rw[l];show q
def C1{ns:To}(g:h[i]?=V (.lst<|ns.map .int))(l:ns.findIdx? (· ==k)=V j)(q:P .af<|h.set i<|.lst<|(ns.map IV.int).eraseIdx j):WR (XN (.ref i) [.int k] h) P:=by
 have e:VO (.ref i) h=V (i,ns.map .int):=by unfold VO;simp![g]
 unfold XN;rw[e];dsimp only;rw[Vf];dsimp only;rw[l];show q
theorem KL:dA "list" "pop" 0=V XM:=02
theorem Jq6:dA "list" "remove" 1=V XN:=02
end
end
section
variable{k:Nat}{h:IH}
theorem C2(ns:To)(n)(hn:0<=n):Ye (k+1) [.cG<|ns.map .int,.int n] h=.ok (.int<|ns.getD n.toNat 0) h:=Ju (by
 rw[Jhq];refine aq<|ae<|jo (ki rfl ((eE<|ak rfl).trans rfl)) (λq=>?_) λq=>aE<|ax<|Jf rfl #[?_,rfl]
 .rw[Zm]at q;have l:n.toNat<ns.length:=(Int.toNat_lt hn).mpr q;show ax (Jf ((aG rfl rfl).trans<|Ju<|(WH ..).mpr #[.int ns[n.toNat],Bz hn 03,rfl,rfl]) #[by rw[Zq,Zd l];rfl,rfl])
 .rw[Zm]at q;rw[Zq,um 05];rfl)
end
section
seal L4.run L4.WS
section
variable{k:Nat}{h:IH}
def chV{q:Int->Int->Bool}(m:∀x y h,f (.int x) (.int y) h=.ok (.bl<|q x y) h)(u:a U h=.ok (.int i) h)(k:b U h=.ok (.int j) h)(B:c U h=.ok (.int l) h):JK c7 f a b c U h=.ok (.bl<|decide (i<=j)&&q j l) h:=by unfold JK;rw[u];dsimp only[Res.bind];rw[k];change(match IV.bl (decide (i<=j))with|.bl Zj=>_|.bl Zn=>_|_=>_)=_;cases decide (i<=j)with|false=>rfl|true=>rw[B];show m _ _ _
def KN(i):wQ (k+1) [.int i] h=.ok (.bl Zj) h:=by rw[Jm8];rfl
def xD(i j):V1 (k+2) [.int i,.int j] h=.ok (.bl<|decide (j<=i)) h:=by show Ju<|by rw[Je2];show aq<|ax<|Jf (X8 (Jx (ak rfl)<|KN i)<|(aG rfl rfl).trans rfl) #[rfl,rfl]
def cE(x:Str):Prop:=1<=x.length/\x.length<=8/\∀c∈x.cps.toList,97<=c/\c<=122
def J6r:(ZP "a").cps.toList=[97]:=by decide +kernel
def J85:(ZP "z").cps.toList=[122]:=by decide +kernel
def J1k(j:97<=c/\c<=122):xq k [V<|.str ⟨#[c]⟩] h=.ok (.bl Zj) h:=by
 calc Ju ?_;have m:¬([c]<[97]):=λq=>by cases q with|rel q=>show uf (Zc j.1 1) q|cons q=>cases q
 have J:¬([122]<[c]):=λq=>by cases q with|rel q=>show uf (Zc j.2 1) q|cons q=>cases q
 simp![xq,UT,VD,Ru,Xr,WC,J6r,J85,m,J,decide_false,Bool.not_false,false_implies,true_and,Bool.true_eq_false,IV.bl.injEq,exists_eq_left',implies_true]
def KO(D:cE x):WR (wW (k+1) [.str x] h) λv h'=>v=.bl Zj/\Ex h h':=by let#[H,J,B]:=D;have Z:=J4;have j:x.length<=sizeLine:=Zb (Zk _ 999993)<|Zb (Zc J 999993) Z;have F:(1:Int)<=x.length:=lY.mpr 06;have G:(x.length:Int)<=8:=lY.mpr 06;have u:aO aS [IV.str x] h=.ok (.int x.length) h:=Ju<|(Hi x).mpr #[j,rfl,rfl];rw[Jpr];calc aq<|ae<|aL (iS (bF<|bh<|eX (b:=Zj) rfl rfl)<|dq (bF<|br<|chV (λ_ _ _=>rfl) rfl ((eE<|ak rfl).trans u) rfl) 05)<|aE<|ax ?_;let#[_,_,C,rfl,g,rfl]:=(Qg (it:=Jw 'a') (e:=xq k) (js:=[]) (U:=[V<|.str x]) (f:=λ_=>.bl Zj) #[rfl,rfl,rfl] (by rw[show(VU x).length=x.length by simp[VU,sj]];show Zb (Zk _ 999992)<|Zb (Zc (Zc J 1) 999992) Z) (λ_ _=>trivial) (by intro v m J _;let#[c,E,rfl]:=Z9.mp m;show Jf (J1k<|B c E) #[rfl,.refl _])).eq;show Jf ((eE<|ak C).trans<|all_map J1) #[by rw[mG.mpr λ_ _=>rfl],.cons ..]
abbrev Hd:=Str×Int×Int
abbrev _root_.Wg:=Option<|Nat×Hd
abbrev _root_.Wm:=List<|List Hd
abbrev _root_.Tw:=List Hd
noncomputable def ao (a:Hd):IV:=.tup [.str a.1,.int a.2.1,.int a.2.2]
def m9(len:Int)(a:Hd):Prop:=cE a.1/\0<=a.2.1/\a.2.1<a.2.2/\a.2.2<len
def xF(a b:Hd):Prop:=a.2.2<=b.2.1\/b.2.2<=a.2.1\/(a.1≠b.1/\((b.2.1<=a.2.1/\a.2.2<=b.2.2)\/(a.2.1<=b.2.1/\b.2.2<=a.2.2)))
def Jp1(ha:m9 len a):WR (BW (k+3) [ao a,.int len] h) λv h'=>v=.bl Zj/\Ex h h':=by let#[u,J,m,j]:=ha;let#[_,h',e,rfl,x]:=(KO u).eq;rw[Jpq];show aq (ae<|aL (iS (bF<|bh<|eX (b:=Zj) rfl rfl)<|iS (br<|(aG ((eE<|ak rfl).trans rfl) rfl).trans rfl)<|bF<|bh<|Jx (ak<|ai rfl rfl JU) e)<|aE<|ae<|aL (dq (bF<|bh<|Jx (ar (ai rfl rfl JI) rfl)<|xD a.2.1 0)<|by simp_all)<|aE<|ax<|Jf (X8 (dq (Jx (ar (ai rfl rfl Qj)<|aN (ai rfl rfl JI) rfl)<|xD a.2.2<|a.2.1+1)<|congrArg IV.bl<|decide_eq_true m)<|CY (ai rfl rfl Qj) rfl j) #[rfl,x])
def KP(j:a U h=.ok (.bl x) h)(k:b U h=.ok (.bl y) h):qZ a b bG U h=.ok (.bl<|x||y) h:=by
 unfold qZ;rw[j];cases x
 .show k
 .rfl
def C3(j:a U h=.ok (.bl x) h)(k:b U h=.ok (.bl y) h):dG a b bG U h=.ok (.bl<|x&&y) h:=by
 unfold dG;rw[j];cases x
 .rfl
 .show k
theorem Jl7(a b):BX (k+1) [ao a,ao b] h=.ok (.bl<|decide (a.2.2<=b.2.1)||decide (b.2.2<=a.2.1)) h:=Ju (by rw[Jl0];show aq<|ax<|Jf (KP ((aG (ai rfl rfl Qj)<|ai rfl rfl JI).trans rfl)<|(aG (ai rfl rfl Qj)<|ai rfl rfl JI).trans rfl) #[rfl,rfl])
theorem KQ(a b):wX (k+1) [ao a,ao b] h=.ok (.bl<|decide (b.2.1<=a.2.1)&&decide (a.2.2<=b.2.2)) h:=Ju (by rw[Jpt];show aq<|ax<|Jf (C3 ((aG (ai rfl rfl JI)<|ai rfl rfl JI).trans rfl)<|(aG (ai rfl rfl Qj)<|ai rfl rfl Qj).trans rfl) #[rfl,rfl])
theorem Jht{a b:Hd}(t:xF a b):BY (k+2) [ao a,ao b] h=.ok (.bl Zj) h:=Ju (by
 have A:=Jl7 (k:=k) (h:=h) a b;rw[Jho];cases q:(decide (a.2.2<=b.2.1)||decide (b.2.2<=a.2.1))with|true=>rw[q]at A;show aq<|ae<|jq (bh<|Jx (ar rfl rfl) A)<|ax<|Jf rfl #[rfl,rfl]|false=>
  rw[q]at A;rw[Bool.or_eq_false_iff,decide_eq_false_iff_not,decide_eq_false_iff_not]at q;let#[ne,t]:=(t.resolve_left q.1).resolve_left q.2;calc aq<|ae<|aL (bh<|Jx (ar rfl rfl) A)<|aE<|ae<|aL (dq (br<|(aG (ai rfl rfl JU)<|ai rfl rfl JU).trans rfl)<|decide_eq_false ne)<|aE<|ax<|Jf (KP (Jx (ar rfl rfl)<|KQ a b)<|Jx (ar rfl rfl)<|KQ b a) #[congrArg IV.bl ?_,rfl];rcases t with t|t
  .lia
  .rw[decide_eq_true t.1,decide_eq_true t.2,Bool.or_comm];rfl)
def Jnw{hs:Tw}(hi:h[i]?=V (.lst<|hs.map ao))(G:hs.length<=6)(F:∀m n (hm:m<n)(hn:n<hs.length),xF hs[n] hs[m]):
  WR (BZ (k+3) [.ref i] h) λv h'=>v=.bl Zj/\Ex h h':=by
 have Z:=J4;rw[Jdx];calc aq<|ae<|eW ?_;rw[Vz];calc Jf (ak rfl)<|(Hl _).mpr #[_,hi,?_];refine Qx (λn U h'=>(∃a b,U=[V<|.ref i,a,b])/\Ex h h') (λn U h' ⟨_,x⟩=>x.get hi) ?_ ?_ #[#[_,_,rfl],.refl h]
 .rintro n hn _ h' ⟨⟨a,b,rfl⟩,x⟩;have u:n<hs.length:=by rw[Xf,Zm]at hn;show hn
  rw[Hm,ZO];have E:gX ir 'a' Q5 (Qq 'b') [V<|.ref i,V<|.int n,V<|ao hs[n]] h'=.ok (.ref h'.length) (h'++[.lst<|(hs.map ao).take n]):=Ju ((VE ..).mpr<|Jf rfl (Jf rfl (Jf rfl ((Xt ..).mpr #[_,x.get hi,rfl,by rw[Yq]]))));let#[_,_,H,rfl,g,rfl]:=(Qg (e:=Kc<|k+2) (js:=[2]) (f:=λ_=>.bl Zj)
   (by rw[JN];show Jf E<|(JR _).mpr #[_,Jo,rfl,rfl,rfl]) (by rw[e9,Zm];show Zb (Zk _ 999994)<|Zb (Zc (Zb (Zc (jI _ _) 1)<|Zc G 1) 999994) Z) (λJ q=>q _ _ Jo) (by intro v D J q;let#[j,C,rfl]:=ZX.mp D;rw[e9,Zm]at C;have B:j<n:=Zb C<|gL _ _;rw[nK,ZO];show Jf (Jx (ar rfl rfl)<|Jht<|F j n B u) #[rfl,.refl _])).eq
  show gH rfl (aL (dq (bF<|bh<|(eE<|ak H).trans<|all_map J1)<|by simp_all)<|aE #[#[_,_,rfl],x.trans<|(Ex.one _ _).trans<|.cons ..])
 .rintro _ h' ⟨⟨a,b,rfl⟩,x⟩;show ax<|Jf rfl #[rfl,x]
structure fN(len:Int)(hs:Tw):Prop where
 cq:hs.length<=6
 each:∀a∈hs,m9 len a
 tK:∀m n (hm:m<n)(hn:n<hs.length),xF hs[n] hs[m]
def Jmb(hi:h[i]?=V (.lst<|hs.map ao))(ok:fN len hs):WR (Yh (k+4) [.ref i,.int len] h) λv h'=>v=.tup (hs.map ao)/\Ex h h':=by have Z:=J4;have B:=ok.cq;let#[_,_,m,rfl,g,rfl]:=(Qg (it:=Jw 'a') (e:=CJ<|k+3) (js:=[1]) (U:=[V<|.ref i,V<|.int len]) (f:=λ_=>.bl Zj) (by rw[JN];show Jf rfl ((JR _).mpr #[_,hi,rfl,rfl,rfl])) (by rw[Zm];show Zb (Zk _ 999994)<|Zb (Zc (Zc B 1) 999994) Z) (λJ q=>q _ _ hi) (by intro v u J q;let#[a,ha,rfl]:=Z9.mp u;unfold CJ;show xb<|Jf (ar rfl rfl)<|Jp1<|ok.each a ha)).eq;rw[Jl2];calc aq (ae<|aL (br<|(aG rfl rfl).trans rfl)<|aE<|ae<|aL (bF (c:=Zj)<|bh<|eX rfl (by rw[YO hi];rfl))<|aE<|ae<|aL (dq (km (dh rfl hi) rfl)<|decide_eq_false<|by rw[Zm];lia)<|aE<|ae<|aL (dq (bF<|bh<|(eE<|ak m).trans<|all_map J1)<|by simp_all)<|aE ?_);have C:Ex h (h++IX.lst (List.map (λ_=>IV.bl Zj)<|hs.map ao)::g):=.cons ..;let#[_,J,E,rfl,D]:=(Jnw (C.get hi) B ok.tK).eq;have j:=D.get<|C.get hi;let#[_,_,m,rfl,G,rfl]:=(Qg (it:=Jw 'a') (e:=Kd<|k+3) (U:=[V<|.ref i,V<|.int len]) (f:=λx=>x) (by rw[JN];show Jf rfl ((JR _).mpr #[_,j,rfl,rfl,rfl])) (by rw[Zm];show Zb (Zk _ 999994)<|Zb (Zc (Zc B 1) 999994) Z) (λJ q=>q _ _ j) (by intro v u F q;let#[a,ha,rfl]:=Z9.mp u;show Jf (iC (iB (ai rfl rfl JU) (ai rfl rfl JI)<|ai rfl rfl Qj) rfl) #[rfl,.refl _])).eq;rw[List.map_id']at m;show ae<|aL (bF<|bh<|Jx (ak rfl) E)<|aE<|ax<|Jf ((eE<|ak m).trans<|Ju<|(Hr ..).mpr #[_,J1,rfl,rfl]) #[rfl,C.trans<|D.trans<|.cons ..]
theorem Jp9(h1:1<=bK)(J:bK<=gap):Yg (k+3) [.int bK,.int gap] h=.ok (.int bK) h:=Ju (by rw[Jpu];show aq<|ae<|aL (br<|(aG rfl rfl).trans rfl)<|aE<|ae<|aL (iS (dq (bF<|bh<|Jx (ar rfl rfl)<|xD bK 1) 05)<|dq (km rfl rfl)<|decide_eq_false<|cT.mpr J)<|aE<|ax<|Jf rfl #[rfl,rfl])
noncomputable def gZ (name:Str)(gap len bK ag:Int)(hs:Tu):Wo:=[("name",.str name),("gap",.int gap),("length",.int len),("due",.int bK),("late",.int ag),("hold_tuples",.tup hs)]
section
variable(a b c d e f:IV)
theorem C4:bz "name" a ([]:Wo)=([("name",a)]:Wo):=02
theorem C5:bz "gap" b ([("name",a)]:Wo)=([("name",a),("gap",b)]:Wo):=02
theorem put2:bz "length" c ([("name",a),("gap",b)]:Wo)=([("name",a),("gap",b),("length",c)]:Wo):=02
theorem put3:bz "due" d ([("name",a),("gap",b),("length",c)]:Wo)=([("name",a),("gap",b),("length",c),("due",d)]:Wo):=02
theorem C6:bz "late" e ([("name",a),("gap",b),("length",c),("due",d)]:Wo)=([("name",a),("gap",b),("length",c),("due",d),("late",e)]:Wo):=02
theorem C7:bz "hold_tuples" f ([("name",a),("gap",b),("length",c),("due",d),("late",e)]:Wo)=([("name",a),("gap",b),("length",c),("due",d),("late",e),("hold_tuples",f)]:Wo):=02
variable{name:Str}{gap len bK ag:Int}{hs:Tu}
theorem C8:(gZ name gap len bK ag hs).lookup ("name":Str)=V (.str name):=02
theorem pX:(gZ name gap len bK ag hs).lookup ("gap":Str)=V (.int gap):=02
theorem oy:(gZ name gap len bK ag hs).lookup ("length":Str)=V (.int len):=02
theorem rn:(gZ name gap len bK ag hs).lookup ("due":Str)=V (.int bK):=02
theorem kn:(gZ name gap len bK ag hs).lookup ("late":Str)=V (.int ag):=02
theorem fl5:(gZ name gap len bK ag hs).lookup ("hold_tuples":Str)=V (.tup hs):=02
theorem xG:(gZ name gap len bK ag hs).lookup ("held":Str)=Zg:=02
end
def Jug(E:h[w]?=V (.ins "Work" []))(hn:cE name)(I:1<=gap)(M:1<=len)(L:0<=ag) (hd:∀h1,Yg (k+4) [dv,.int gap] h1=.ok (.int bK) h1)(u:∀h1:IH,(∀(j:Nat)(o:IX),j≠w->h[j]?=V o->h1[j]?=V o)->WR (Yh (k+4) [hv,.int len] h1) λv J=>v=.tup hs/\Ex h1 J):WR (wY (k+5) [.ref w,.str name,.int gap,.int len,dv,.int ag,hv] h) λv h'=>v=.af/\∃g,h'=h.set w (.ins "Work"<|gZ name gap len bK ag hs)++g:=by
 rw[Jls];calc aq<|ae<|tE<|xb<|xb<|xb<|Jf (ak rfl)<|WR.mono (KO hn) ?_;rintro v h1 ⟨rfl,g1,rfl⟩;have C:=JJ E;have O:∀{o:IX},(h++g1).set w o=h.set w o++g1:=by intro o;rw[mE (h:=C)]
 have m:∀{o:IX},(h.set w o++g1)[w]?=V o:=by intro o;rw[ZV (by simp_all),iV C]
 have B:∀{o D:IX},(h.set w o++g1).set w D=h.set w D++g1:=by intro o D;rw[mE (h:=by rw[oR];show C),uB]
 have ok:∀{U:aI}{F G:E1}{a b:Int}{u:IH},F U u=.ok (.int a) u->G U u=.ok (.int b) u->b<=a->J6 (Ji bG<|Jm (V1<|k+4) []<|Jb F<|Jb G Je) U u=.ok Zn u:=λh1 J l=>dq (bF<|bh<|Jx (ar h1 J)<|xD _ _)<|by simp_all
 calc Jf rfl (Jf rfl #[(λz=>by cases z),λ_=>aE<|ae<|aL (ok rfl rfl I)<|aE<|ae<|aL (ok rfl rfl M)<|aE<|ae<|aL (ok rfl rfl L)<|aE<|ae<|Qs rfl rfl (grow E) 01 ?_]);rw[O,C4];calc ae (Qs rfl rfl m (by simp_all) ?_);rw[B,C5];calc ae (Qs rfl rfl m (by simp_all) ?_);rw[B,put2];calc ae (Qs (Jx (ar rfl rfl)<|hd _) rfl m (by simp_all) ?_);rw[B,put3];calc ae (Qs rfl rfl m (by simp_all) ?_);rw[B,C6];unfold Ke;rw[YU];refine xb<|Jf (ar rfl rfl)<|WR.mono (u _ λj o H e=>?_) ?_
 .calc grow ?_;rw[hL<|bI H];show e
 .rintro v J ⟨rfl,g2,rfl⟩;calc Jf rfl #[w,_,_,rfl,grow m,by change(5:Nat)<1000;decide,rfl,g1++g2,?_];rw[mE (h:=JJ m),B,C7,iW];rfl
def J0t(hn:cE name)(u:1<=gap)(C:1<=len)(B:0<=ag) (hd:∀h1,Yg (k+4) [dv,.int gap] h1=.ok (.int bK) h1)(m:∀h1:IH,(∀(j:Nat)(o:IX),h[j]?=V o->h1[j]?=V o)->WR (Yh (k+4) [hv,.int len] h1) λv J=>v=.tup hs/\Ex h1 J):WR (wY (k+5) [.ref h.length,.str name,.int gap,.int len,dv,.int ag,hv]<|h++[.ins "Work" []]) λv h'=>v=.af/\∃g,h'=h++.ins "Work" (gZ name gap len bK ag hs)::g:=by calc WR.mono (Jug Jo hn u C B hd λh1 q=>m h1 λj o e=>q j o (by have:=JJ e;show Zv this)<|grow e) ?_;rintro v h' ⟨rfl,g,rfl⟩;show#[rfl,g,by rw[VS];simp]
end
end
section
seal L4.run L4.WS
section
variable{k:Nat}{h:IH}
def xH(j:h[w]?=V (.ins "Work"<|gZ name gap len bK ag hs)):B0 (k+1) [.ref w] h=.ok (.ref h.length) (h++[.lst hs]):=by show Ju<|by rw[Jlr];show aq<|ax<|Jf ((eE<|ak<|au rfl j fl5).trans rfl) #[rfl,rfl]
end
end
structure WD where
 name:Str
 gap:Int
 len:Int
 bK:Int
 ag:Int
def tL(h:IH)(v:IV)(d:WD):Prop:=∃i hs,v=.ref i/\h[i]?=V (.ins "Work"<|gZ d.name d.gap d.len d.bK d.ag hs)
def tL.kp(k:Kp h h')(w:tL h v d):tL h' v d:=by let#[i,j,e,q]:=w;show#[i,j,e,k _ _ q]
structure eZ(h:IH)(vs:Tu)(ds:List WD):Prop where
 len:vs.length=ds.length
 at_:∀(i:Nat) v d,vs[i]?=V v->ds[i]?=V d->tL h v d
theorem eZ.kp(k:Kp h h')(w:eZ h vs ds):eZ h' vs ds:=#[w.len,λi v d a b=>(w.at_ i v d a b).kp k]
def eZ.of(w:eZ h vs ds)(m:v∈vs):∃d∈ds,tL h v d:=by
 let#[i,k,rfl]:=ZX.mp m;have j:i<ds.length:=by rw[<-w.len];show k
 show#[ds[i],Z4 j,w.at_ i _ _ (Zd k)<|Zd j]
def lj(f:Str)(h:IH)(v:IV):IV:=(Ve f v h).getD .af
def eZ.nu(w:eZ h vs ds)(u:∀(i:Nat) (d:WD) hs,h[i]?=V (.ins "Work"<|gZ d.name d.gap d.len d.bK d.ag hs)->F (.ref i)=g d):vs.map F=ds.map g:=by
 refine rL λi=>?_
 rw[ZK,ZK];by_cases m:i<vs.length
 .have k:i<ds.length:=by rw[<-w.len];show m
  rw[Zd m,Zd k];let#[j,hs,e,q]:=w.at_ i _ _ (Zd m)<|Zd k;simp;rw[e,u j _ hs q]
 .have k:¬i<ds.length:=by rw[<-w.len];show m
  rw[um<|ZI m,um<|ZI k];rfl
section
variable{k:Nat}{h:IH}
theorem Jwi:Qz ["Work"] (.ins "Work")=V Zj:=02
def Jmc(hi:h[i]?=V (.lst vs))(w:eZ h vs ds)(nd:(ds.map (·.name)).Nodup)(I:ds.length<=20):WR (Cs (k+1) [.ref i] h) λv h'=>v=.tup vs/\Ex h h':=by have Z:=J4;have L:=w.len;rw[Jl3];let#[_,_,u,rfl,g,rfl]:=(Qg (it:=Jw 'a') (e:=Kr k) (U:=[V<|.ref i]) (f:=λ_=>.bl Zj) (by rw[JN];show Jf rfl ((JR _).mpr #[_,hi,rfl,rfl,rfl])) 05 (λJ q=>q _ _ hi) (by intro v C J q;let#[d,_,j,G,rfl,e]:=w.of C;show Jf (eX rfl (by rw[show gp (.ref j) J=V (.ins "Work") by simp[gp,q _ _ e]];show Jwi)) #[rfl,.refl _])).eq;calc aq (ae<|aL (bF (c:=Zj)<|bh<|eX rfl (by rw[YO hi];rfl))<|aE<|ae<|aL (dq (bF<|bh<|(eE<|ak u).trans<|all_map J1) 03)<|aE<|ae ?_);have B:Ex h (h++IX.lst (vs.map λ_=>.bl Zj)::g):=.cons _ _ _;generalize h++IX.lst (vs.map λ_=>.bl Zj)::g=E at B;have F:=w.kp B.kp;have m:=B.get hi;let#[_,_,u,rfl,g2,rfl]:=(Qg (it:=Jw 'a') (e:=Ks k) (U:=[V<|.ref i]) (f:=lj "name" E) (by rw[JN];show Jf rfl ((JR _).mpr #[_,m,rfl,rfl,rfl])) 05 (λJ q=>q _ _ m) (by intro v C J q;let#[d,_,j,G,rfl,e]:=F.of C;show Jf (au rfl (q _ _ e) C8) #[by rw[lj,QB e,C8];rfl,.refl _])).eq;rw[F.nu (g:=λd=>.str d.name) λj d G e=>by rw[lj,QB e,C8];rfl,show ds.map (λd=>IV.str d.name)=(ds.map (·.name)).map IV.str by rw[eO];rfl]at u;have D:Ex E (E++IX.lst ((ds.map (·.name)).map IV.str)::g2):=.cons _ _ _;have H:=Ju (by rw[WW];calc Jf (ak u) #[_,rfl,_,J1,ds.map (·.name),BE _,by rw[Zm];unfold nU;show Zb (Zc I 2)<|Zk _ 4074,?_];rw[Hs nd _<|Zl _,Zm];show#[rfl,rfl]);calc aL (dq (br<|(aG H<|dh rfl (D.get m)).trans rfl)<|by rw[L];simp)<|aE<|ax<|Jf ((eE<|ak rfl).trans<|Ju ?_) #[rfl,B.trans D];change WR (VW (.ref i) _) _;rw[Hr];show#[_,D.get m,rfl,rfl]
noncomputable def iD (top bottom:Int):Int:=(top+bottom-1)/bottom
def fO(ds:List WD):Int:=if ds.map (·.bK)=[]then 0 else JM (λi=>(ds.map (·.bK)).getD i 0) (ds.map (·.bK)).length
def xI(ds:List WD):Int:=(ds.map λd=>iD (fO ds+d.ag) d.gap).sum
def C9(T:Int)(h:IH)(v:IV):IV:=match Ve "late" v h,Ve "gap" v h with|some (.int l),V (.int g)=>.int<|iD (T+l) g|_,_=>.af
section
seal L4.run L4.WS
theorem KR(Z:0<b)(j:b.natAbs.log2<9000):wR (k+1) [.int a,.int b] h=.ok (.int<|iD a b) h:=Ju (by rw[Jl4];show aq<|ax<|Jf (Q2 (dB (aN rfl rfl) rfl) rfl Z j) #[rfl,rfl])
def Juz(w:eZ h vs ds)(I:ds.length<=20)(E:∀d∈ds,0<d.gap/\d.gap.natAbs.log2<9000):WR (Ct (k+2) [.tup vs] h) λv h'=>v=.int (xI ds)/\Ex h h':=by have Z:=J4;have L:=w.len;let#[_,_,m,rfl,g,rfl]:=(Qg (it:=Jw 'a') (e:=CP<|k+1) (U:=[V<|.tup vs,Zg]) (f:=lj "due" h) #[rfl,rfl,rfl] 05 (λ_ _=>trivial) (by intro v u J q;let#[d,_,j,B,rfl,e]:=w.of u;show Jf (au rfl (q _ _ e) rn) #[by rw[lj,QB e,rn];rfl,.refl _])).eq;rw[w.nu (g:=λd=>.int d.bK) λj d B e=>by rw[lj,QB e,rn];rfl,show ds.map (λd=>IV.int d.bK)=(ds.map (·.bK)).map IV.int by rw[eO];rfl]at m;have C:Ex h (h++IX.lst ((ds.map (·.bK)).map IV.int)::g):=.cons _ _ _;have D:X6 (Jb (Jy (Jw 'a') 1 [] (aV 0) JB<|CP<|k+1) Je) '0' [V<|.tup vs,Zg] h=.ok (.int<|fO ds) (h++IX.lst ((ds.map (·.bK)).map IV.int)::g):=Ju (by rw[WV];calc Jf (ak m)<|Jf rfl #[_,rfl,_,J1,_,Vf _,?_,rfl];unfold maxD fO;split<;>rfl);generalize h++IX.lst ((ds.map (·.bK)).map IV.int)::g=H at C D;have F:=w.kp C.kp;let#[_,_,m,rfl,g2,rfl]:=(Qg (it:=Jw 'a') (e:=Kt<|k+1) (js:=[1]) (U:=[V<|.tup vs,V<|.int<|fO ds]) (f:=C9 (fO ds) H) #[rfl,rfl,rfl] 05 (λ_ _=>trivial) (by intro v u J q;let#[d,hd,j,B,rfl,e]:=F.of u;have G:=q _ _ e;show Jf (Jx (ar (aN rfl (au rfl G kn))<|au rfl G pX)<|KR (E d hd).1 (E d hd).2) #[by rw[C9,QB e,QB e,kn,pX],.refl _])).eq;rw[F.nu λj d B e=>by rw[C9,QB e,QB e,kn,pX],show ds.map (λd=>IV.int<|iD (fO ds+d.ag) d.gap)=(ds.map λd=>iD (fO ds+d.ag) d.gap).map IV.int by rw[eO];rfl]at m;rw[Jm7];calc aq<|ae<|aj<|Jf D<|ax ?_;rw[Hh];calc Jf (ak m) ?_;change WR (gu (.ref _) _) _;rw[BF];show#[_,J1,_,Vf _,rfl,C.trans<|.cons _ _ _]
abbrev pY(vs:Tu):Wo:=[("works",.tup vs)]
theorem dp0:bz "works" a ([]:Wo)=([("works",a)]:Wo):=02
theorem tM:(([("works",a)]:Wo)).lookup ("works":Str)=V a:=02
theorem Dc:(([("works",a)]:Wo)).lookup ("work":Str)=Zg:=02
def Jrr(hi:h[i]?=V (.lst vs))(w:eZ h vs ds)(nd:(ds.map (·.name)).Nodup)(C:ds.length<=12)(m:∀d∈ds,0<d.gap/\d.gap.natAbs.log2<9000)(j:xI ds<=80):WR (xl (k+3) [.ref h.length,.ref i]<|h++[.ins "Duty" []]) λv h'=>v=.af/\∃g,h'=h++.ins "Duty" (pY vs)::g:=by have D:=w.len;rw[Jlm];let#[_,_,u,rfl,g1,rfl]:=(Jmc (grow hi) (w.kp (Ex.one h<|IX.ins "Duty" []).kp) nd<|mB 06).eq;calc aq<|ae<|Qs (Jx (ak rfl) u) rfl (grow Jo) 01 ?_;rw[dp0,iW,iY,lK,Xq];let#[_,_,B,rfl,g2,rfl]:=(Juz (w.kp (Ex.cons h (IX.ins "Duty"<|pY vs) g1).kp) (mB 06) m).eq;show ae<|aL (dq (km ((eE<|ak<|au rfl J1 tM).trans rfl) rfl)<|decide_eq_false 05)<|aE<|aL (dq (km (Jx (ak<|au rfl J1 tM) B) rfl)<|decide_eq_false<|cT.mpr j)<|aE #[rfl,g1++g2,03]
def Dd(j:h[D]?=V (.ins "Duty"<|pY vs))(m:a7 vs n=V x):Cv (k+1) [.ref D,.int n] h=.ok x h:=by show Ju<|by rw[Jlo];show aq<|ax<|Jf (ai (au rfl j tM) rfl m) #[rfl,rfl]
end
end
def KS(Z:0<b)(h:a<=m*b):iD a b<=m:=by
 unfold iD;have:(a+b-1)/b<m+1:=by rw[Int.ediv_lt_iff_lt_mul Z,o7];lia
 show Int.le_of_lt_add_one this
theorem De(m):∀l:To,(∀x∈l,x<=m)->l.sum<=l.length*m
 |[],_=>03
 |x::l,q=>by
  have:=De m l λy j=>q y<|Zt _ j
  have:=q x<|ZD ..;rw[nL,jJ,yR,o7];simp
  (rw[mK];show sh 06 this)
def Df{a b K:Nat}(h:a<=b)(Z:b.log2<K):a.log2<K:=by
 by_cases ha:a=0
 .subst ha;show kr (ZW _) Z
 .have j:b≠0:=dC<|Zb (iH (ZW _)<|bI ha) h;rw[Nat.log2_lt ha];show kr h<|(Nat.log2_lt j).mp Z
abbrev RH:=WD×Tw
abbrev _root_.Tx:=List RH
noncomputable def rd:RH:=#[#[⟨#[]⟩,0,0,0,0],[]]
abbrev wo(r:RH):IX:=.ins "Work"<|gZ r.1.name r.1.gap r.1.len r.1.bK r.1.ag<|r.2.map ao
structure e8(h:IH)(vs:Tu)(rs:Tx):Prop where
 len:vs.length=rs.length
 at_:∀(i:Nat) v r,vs[i]?=V v->rs[i]?=V r->∃j,v=.ref j/\h[j]?=V (wo r)
theorem e8.kp(k:Kp h h')(w:e8 h vs rs):e8 h' vs rs:=#[w.len,λi v r a b=>let ⟨j,e,g⟩:=w.at_ i v r a b;#[j,e,k _ _ g]]
def e8.w(w:e8 h vs rs):eZ h vs (rs.map (·.1)):=by calc#[by rw[Zm];show w.len,λi v d a b=>?_];rw[ZK]at b;cases k:rs[i]? with|none=>rw[k]at b;cases b|some r=>rw[k]at b;cases b;let#[j,e,g]:=w.at_ i v r a k;show#[j,_,e,g]
def e8.get(w:e8 h vs rs){n:Nat}(e:rs[n]?=V r):∃j,vs[n]?=V (.ref j)/\h[j]?=V (wo r):=by
 have hn:n<vs.length:=by rw[w.len];show(Zs.mp e).1
 let#[j,k,g]:=w.at_ n _ r (Zd hn) e;show#[j,by rw[Zd hn,k],g]
structure F8(unit:Int)(r:RH):Prop where
 nm:cE r.1.name
 g1:unit<=r.1.gap
 g2:r.1.gap<9*unit
 l1:1<=r.1.len
 d1:1<=r.1.bK
 d2:r.1.bK<=r.1.gap
 t1:0<=r.1.ag
 t2:r.1.ag<2*r.1.gap
 ok:fN r.1.len r.2
structure Gd(unit:Int)(rs:Tx):Prop where
 u1:1<=unit
 u2:unit<=10^40
 cq:rs.length<=12
 sm:rs.length<=7\/∀r∈rs,r.1.gap<3*unit
 f:∀r∈rs,F8 unit r
 nd:(rs.map λr=>r.1.name).Nodup
def J25(G:Gd unit rs):xI (rs.map (·.1))<=80:=by
 have P:=G.u1;have m:=G.f;have L:=G.cq;have u:∀K T:Int,unit<=K->(∀r∈rs,r.1.gap<K)->(∀r∈rs,K+2*r.1.gap<=T*r.1.gap)->xI (rs.map (·.1))<=rs.length*T:=λK T O F H=>by
  have J:fO (rs.map (·.1))<=K:=by
   unfold fO;split
   .show ZE (ZG 06) 06
   .rename_i C;refine wK _ _ _ (by rw[Zm,Zm];cases rs with|nil=>show absurd rfl C|cons _ _=>simp) λj B=>?_
    rw[Zm,Zm]at B;have e:((rs.map (·.1)).map (·.bK)).getD j 0=(rs[j]).1.bK:=by rw[Zq,ZK,ZK,Zd B];rfl
    have E:=(m _<|Z4 B).d2;have D:=F _<|Z4 B;change((rs.map (·.1)).map (·.bK)).getD j 0<=_;rw[e];show ZG<|Zy E D
  have:=De T ((rs.map (·.1)).map λd=>iD (fO (rs.map (·.1))+d.ag) d.gap) λx I=>by let#[d,hd,rfl]:=Z9.mp I;let#[r,k,rfl]:=Z9.mp hd;have E:=(m r k).g1;have D:=(m r k).t2;have M:=H r k;show KS (ZF 06 06) 05
  rw[Zm,Zm]at this;show this
 rcases G.sm with h7|h3
 .have:=u (9*unit) 11 05 (λr k=>(m r k).g2) λr k=>by have:=(m r k).g1;lia
  lia
 .have:=u (3*unit) 5 05 h3 λr k=>by have:=(m r k).g1;lia
  lia
theorem Gd.gl(G:Gd unit rs):∀d∈rs.map (·.1),0<d.gap/\d.gap.natAbs.log2<9000:=λd hd=>by
 let#[r,j,rfl]:=Z9.mp hd;have f:=G.f r j;have k:=f.g1;have m:=f.g2;have u1:=G.u1;have u2:=G.u2;calc#[ZF 06 06,Df (b:=9*10^40) ?_<|by decide +kernel];have e:((10^40:Nat):Int)=10^40:=by decide +kernel
 clear G f;generalize (10^40:Int)=y at *;generalize (10^40:Nat)=z at *;lia
def bX(h:IH)(D:Nat)(rs:Tx):Prop:=∃vs,h[D]?=V (.ins "Duty"<|pY vs)/\e8 h vs rs
theorem bX.kp(k:Kp h h')(w:bX h D rs):bX h' D rs:=let ⟨j,a,b⟩:=w;#[j,k _ _ a,b.kp k]
section
variable{k:Nat}{h:IH}
def J62(hi:h[i]?=V (.lst vs))(w:e8 h vs rs)(G:Gd unit rs):WR (xl (k+3) [.ref h.length,.ref i]<|h++[.ins "Duty" []]) λv h'=>v=.af/\Ex h h'/\bX h' h.length rs:=by have j:=G.cq;calc WR.mono (Jrr hi w.w (by have:=G.nd;rwa [eO]) (by rw[Zm];omega) G.gl<|J25 G) ?_;rintro _ _ ⟨rfl,g,rfl⟩;show#[rfl,.cons _ _ _,vs,J1,w.kp (Ex.cons _ _ _).kp]
end
section
seal L4.run L4.WS
section
variable{k:Nat}{h:IH}
theorem e45(U)(h):Jc JQ (eC<|.int 10) (eC<|.int 45) U h=.ok (.int<|10^45) h:=Ju (by rw[YR,VD,VD,wI];show#[01,rfl,rfl])
theorem e30(U)(h):Jc JQ (eC<|.int 10) (eC<|.int 30) U h=.ok (.int<|10^30) h:=Ju (by rw[YR,VD,VD,wI];show#[01,rfl,rfl])
theorem e18(U)(h):Jc Jr (Jc JQ (eC<|.int 10)<|eC<|.int 18) '9' U h=.ok (.int 1000000000000000009) h:=Ju (by rw[YR,YR,VD,VD,wI];calc#[01,?_];show#[congrArg IV.int (by decide +kernel),rfl])
def Jt1(c)(m:Nat)(hm:m<=40):WR (Cw (k+1) [.int c,.int m] h) λv h'=>∃(i:Nat)(xs:To),v=.ref i/\h.length<=i/\h'[i]?=V (.lst<|xs.map .int)/\xs.length=m/\(∀x∈xs,(0:Int)<=x/\x<10^45)/\Ex h h':=by
 have Z:=J4;have L:(0:Int)<10^45:=by decide +kernel
 have le:(1000000000000000009:Int)<=10^45:=by decide +kernel
 obtain⟨T,M⟩:∃T:Int,∀U h,Jc JQ (eC<|.int 10) (eC<|.int 30) U h=.ok (.int T) h:=#[_,e30];obtain⟨G,Q,R⟩:∃G:Int,(∀U h,Jc Jr (Jc JQ (eC<|.int 10)<|eC<|.int 18) '9' U h=.ok (.int G) h)/\G=1000000000000000009:=#[_,e18,rfl];obtain⟨F,O,H,S,W⟩:∃F:Int,(∀U h,Jc JQ (eC<|.int 10) (eC<|.int 45) U h=.ok (.int F) h)/\0<F/\F.natAbs.log2<9000/\F=10^45:=#[_,e45,L,by decide +kernel,rfl];rw[<-W]at le ⊢;rw[Jjr];refine aq<|ae<|aj<|Jf (cO rfl rfl)<|ae<|jo (KJ rfl (M _ _)) (λ_=>ae<|aj<|Jf (dB rfl (M _ _))<|ae<|lh rfl (Zb (Zc hm 1)<|Zk _ 999959) ?_) λ_=>aE<|ae<|aj<|Jf (aN (bW rfl (Q _ _) 05) rfl)<|ae<|lh (dq (aN rfl rfl) rfl) 05 ?_
 .refine Qx (λn U h'=>∃xs B a b,h'=h++[.lst<|xs.map IV.int]/\U=[V<|.int c,V<|.int (m:Int),V<|.ref h.length,V<|.int B,a,b]/\xs.length=n/\∀x∈xs,(0:Int)<=x/\x<F) (λ_ _ _ _=>trivial) ?_ ?_ #[[],_,_,_,rfl,rfl,rfl,03]
  .rintro n hn _ _ ⟨xs,B,a,b,rfl,rfl,C,D⟩;rw[JH]at hn;have J:=fh B (b:=F)<|gQ H;have I:=gM B H;refine gH rfl (ae<|Ql<|QO rfl Jo Xc (Jf (ak<|bW rfl (O _ _) H)<|jr Jo (by rw[Zm];show Zb (Zk _ 999961)<|Zb (Zc (Zb (Zb (Zc (Zi C) 1) hn) hm) 999961) Z)<|aj<|Jf (Q2 rfl (O _ _) H S) #[xs++[B%F],_,_,_,?_,rfl,by simp[C],λx u=>?_]))
   .rw[VS];simp
   .rw[ZY,Z6]at u;rcases u with u|rfl
    .show D x u
    .show#[J,I]
  .rintro _ _ ⟨xs,B,a,b,rfl,rfl,C,D⟩;rw[JH]at C;show ax<|Jf rfl #[_,xs,rfl,Zl _,Jo,06,D,.one _ _]
 .have s0:=fh c (b:=G) 05;have P:=gM c (b:=G) 05;refine Qx (λn U h'=>∃xs j a b,h'=h++[.lst<|xs.map IV.int]/\U=[V<|.int c,V<|.int (m:Int),V<|.ref h.length,a,b,V<|.int j]/\(0<=j/\j<2000000000000000000)/\xs.length=n/\∀x∈xs,(0:Int)<=x/\x<G) (λ_ _ _ _=>trivial) ?_ ?_ #[[],_,_,_,rfl,rfl,05,rfl,03]
  .rintro n hn _ _ ⟨xs,j,a,b,rfl,rfl,E,C,D⟩;rw[Qw];rw[JH]at hn;have J:=fh (j*j+48271*j+(0+(n:Int))) (b:=G)<|gQ<|Zy s0 P;have I:=gM (j*j+48271*j+(0+(n:Int))) (b:=G)<|Zy s0 P;refine gH rfl (ae<|aj<|Jf (bW (aN (aN (gG rfl rfl (.inl 05))<|gG rfl rfl (.inl 01)) rfl) (Q _ _)<|Zy J I)<|Ql<|QO rfl Jo Xc (Jf (ak rfl)<|jr Jo (by rw[Zm];lia) #[xs++[(j*j+48271*j+(0+(n:Int)))%G],_,_,_,?_,rfl,00,by simp[C],λx u=>?_]))
   .rw[VS];simp
   .rw[ZY,Z6]at u;rcases u with u|rfl
    .show D x u
    .show#[J,I]
  .rintro _ _ ⟨xs,j,a,b,rfl,rfl,E,C,D⟩;rw[JH]at C;calc ax<|(VE ..).mpr<|Jf rfl (Jf rfl (Jf rfl ((Xt ..).mpr #[_,Jo,?_])));rw[show(V (2:Int))=V ((2:Nat):Int)from rfl,BC,<-List.map_drop];calc#[_,xs.drop 2,rfl,03,Jo,by simp;(rw[C];rfl),λx u=>?_,(Ex.one _ _).trans<|.one _ _];have:=D x<|List.mem_of_mem_drop u;show#[this.1,(ZF (ZF this.2<|ZA R) le)]
end
end
section
variable{k:Nat}{h:IH}
mutual
theorem KU:∀d:kD,d.canLay0=Zj->jy d d=Zj|.none,_=>by simp[jy]|.bool _,_=>by simp[jy]|.int _,_=>by simp[jy]|.str _,_=>by simp[jy]|.list xs,q=>by rw[jy];show Dg xs<|by rw[l4]at q;show q|.tuple xs,q=>by rw[jy];show Dg xs<|by rw[l4]at q;show q|.dict _,q=>by rw[l4]at q;cases q
theorem Dg:∀ds:List kD,jP ds=Zj->su ds ds=Zj|[],_=>by rw[su]|d::ds,q=>by rw[jP,Zr]at q;rw[su,KU d q.1,Dg ds q.2];rfl
end
def xJ(e:h[i]?=V (.lst xs)):toD h (n+1) (.ref i)=(xs.mapM<|toD h n).map sv:=by change(match h[i]? with|some (.lst xs)=>(xs.mapM<|toD h n).map sv|_=>Zg)=_;rw[e]
theorem xK:∀{xs:Tu},(∀x∈xs,f x=V (g x))->xs.mapM f=V (xs.map g)|[],_=>rfl|x::xs,q=>by rw[yD,q x<|ZD ..,xK λy j=>q y<|Zt _ j];rfl
theorem Dh:∀{xs:Tu},(∀x∈xs,(g x).canLay0=Zj)->jP (xs.map g)=Zj|[],_=>by rw[List.map_nil,jP]|x::xs,q=>by rw[ZN,jP,q x<|ZD ..,Dh λy j=>q y<|Zt _ j];rfl
end
section
seal L4.run
section
variable{k:Nat}{h:IH}
def Jni:(ZP "abcdefghijklmnopqrstuvwxyz").cps.toList=(ZM 26).map (97+ ·):=by decide +kernel
def Jnj:(ZP "abcdefghijklmnopqrstuvwxyz").length=26:=by decide +kernel
def Js4(h0:0<=n)(h1:n<26):WR (Jg (.str "abcdefghijklmnopqrstuvwxyz") (.int n) h) Q=Q (.str ⟨#[97+n.toNat]⟩) h:=by
 have Z:=J4;have e:a7 (ZP "abcdefghijklmnopqrstuvwxyz").cps.toList n=V (97+n.toNat):=by rw[Jni];calc Bz h0 ?_;rw[ZK,List.getElem?_range 05];rfl
 change WR (if (ZP "abcdefghijklmnopqrstuvwxyz").length<=sizeLine then(match a7 (ZP "abcdefghijklmnopqrstuvwxyz").cps.toList n with|some c=>Res.ok (IV.str ⟨#[c]⟩) h|none=>.stuck)else .stuck) Q=_;rw[if_pos (by rw[Jnj];show iI _ _),e];rfl
def J1t(l m:Tp):(⟨l.toArray⟩:Str)++(⟨m.toArray⟩:Str)=⟨(l++m).toArray⟩:=by change Str.append _ _=_;unfold Str.append;simp
def YL(l:Tp):(⟨l.toArray⟩:Str).length=l.length:=by simp[sj]
def Jrs:(ZP "")=(⟨([]:Tp).toArray⟩:Str):=by decide +kernel
noncomputable def j6 (c:Int):Int:=1+c%8
def iE(c:Int):Int:=c/8%j6 c
def wB(c:Int):Tp:=(ZM (j6 c).toNat).map λj:Nat=>97+(c/(11+(j:Int)*(j:Int))%26).toNat
def wL(c:Int)(q:Nat):Tp:=((wB c).take (iE c).toNat++[97+((c/64+(q:Int))%26).toNat])++(wB c).drop ((iE c).toNat+1)
def wd(c:Int)(q:Nat):Str:=⟨(wL c q).toArray⟩
def pZ(c):0<j6 c/\j6 c<=8/\0<=iE c/\iE c<j6 c:=by
 have j:0<j6 c/\j6 c<=8:=by unfold j6;(rw[mK];show#[(Zy (fh _<|gQ 01)<|jO _ 01),(gM _ 01)])
 show#[j.1,j.2,fh _<|gQ j.1,gM _ j.1]
def KW(c):(wB c).length=(j6 c).toNat:=by simp[wB]
def KY(c)(q):(wL c q).length=(j6 c).toNat:=by have:=pZ c;simp[wL,KW];show EJ<|(Int.toNat_lt_toNat this.1).mpr this.2.2.2
def KZ(c)(q):cE (wd c q):=by
 have u:=pZ c;refine#[?_,?_,?_]
 .rw[wd,YL,KY];omega
 .rw[wd,YL,KY];lia
 .intro x k;have k:x∈wL c q:=by simpa[wd]using k
  have m:∀x∈wB c,97<=x/\x<=122:=λx k=>by let#[j,_,rfl]:=Z9.mp k;lia
  have B:=fh (c/64+(q:Int)) (b:=26) 01;have J:=gM (c/64+(q:Int)) (b:=26) 01;simp![wL,ZY,Z6]at k;rcases k with(k|rfl)|k
  .show m x<|oQ k
  .lia
  .show m x<|List.mem_of_mem_drop k
def K0(hp:p<26)(k:q<26)(e:wd c p=wd c q):p=q:=by
 have j:wL c p=wL c q:=by have:(wL c p).toArray=(wL c q).toArray:=congrArg Str.cps e;simpa using this
 have m:(97+((c/64+(p:Int))%26).toNat)=97+((c/64+(q:Int))%26).toNat:=by have:=List.append_cancel_right j;have:=List.append_cancel_left this;simpa using this
 omega
noncomputable def Di (c:Int)(v:IV):IV:=match v with|.int j=>.str ⟨#[97+(c/(11+j*j)%26).toNat]⟩|_=>.af
def Jqf(l:Tp):QL (l.map λx=>IV.str ⟨#[x]⟩)=V (qT ⟨l.toArray⟩):=by have:=BE<|qT ⟨l.toArray⟩;rw[<-this];simp[qT];rfl
def J0k{l:Tp}(u:l.length<=8):JoinOk (ZP "") (qT ⟨l.toArray⟩)=Zj:=by
 have Z:=J4;have k:(ZP "").length=0:=by decide +kernel
 have:∀(m:Tp) (a:Nat),(m.map λx=>(⟨#[x]⟩:Str)).foldl (λn (x:Str)=>n+x.length+(ZP "").length) a=a+m.length:=by intro m;induction m with|nil=>intro a;rfl|cons x m j=>intro a;rw[ZN,List.foldl_cons,j,k];simp[sj];show oJ _ _ _
 have e:(qT ⟨l.toArray⟩).foldl (λn (x:Str)=>n+x.length+(ZP "").length) 0=0+l.length:=this l 0;unfold JoinOk Builtin.Str.tooLong;simp;lia
def letE(j:a U h=.ok (.str "abcdefghijklmnopqrstuvwxyz") h1)(k:b U h1=.ok (.int n) h1)(m:0<=n)(n1:n<26):Jc Jg a b U h=.ok (.str ⟨#[97+n.toNat]⟩) h1:=by rw[aG j k];show Ju<|by rw[Js4 m n1];show#[rfl,rfl]
def K5(k:a U h=.ok (.str x) h)(j:lo U h=.ok l h)(m:hi U h=.ok u h)(z:x.length<=8)(e:sA x l u=y):gX oz a lo hi U h=.ok (.str y) h:=by have Z:=J4;calc Ju<|(VE ..).mpr<|Jf k<|Jf j<|Jf m ?_;rw[J2h,e];show#[Zb (Zk _ 999993)<|Zb (Zc z 999993) Z,rfl,rfl]
def tN{x y:Tp}(j:a U h=.ok (.str ⟨x.toArray⟩) h)(k:b U h=.ok (.str ⟨y.toArray⟩) h)(z:x.length+y.length<=9):Jc Jr a b U h=.ok (.str ⟨(x++y).toArray⟩) h:=by have Z:=J4;rw[aG j k];calc Ju ?_;rw[WB,J1t,YL,YL];show#[Zb (Zk _ 999992)<|Zb (Zc z 999992) Z,rfl,rfl]
def K6(c)(q:Nat):WR (xm (k+1) [.int c,.int q] h) λv h'=>v=.str (wd c q)/\Ex h h':=by
 have Z:=J4;have m:=pZ c;have bl:=KW c;have B:(⟨(wB c).toArray⟩:Str).length=(wB c).length:=YL _;rw[Jnb];refine aq (ae<|aj<|Jf rfl (ae<|aj<|Jf (a:=.int<|j6 c) (aN rfl (bW rfl rfl 01))<|ae<|aj<|(WQ (x:=ZP "") (h1:=h) rfl WT).mpr<|xb<|WR.mono (Qg (h:=h) (xs:=aX 0<|j6 c) (ba:=λ_=>True) (f:=Di c) ?_ (by rw[JH];omega) (λ_ _=>trivial) ?_) ?_))
 .rw[Vz];calc Jf (ak rfl) ?_;rw[Xs];show#[00,rfl,rfl,rfl]
 .intro x I J O;let#[n,hn,rfl]:=ZX.mp I;rw[Qw,show(0+(n:Int))=(n:Int) by show mK _ _];rw[JH]at hn;have u:n<8:=00;have sq:=(by decide:∀n:Nat,n<8->(n:Int)*(n:Int)<=49/\0<=(n:Int)*(n:Int)) n u;unfold Ku;show Jf (letE rfl (bW (Q2 rfl (aN rfl (gG rfl rfl (.inl<|Zb u<|Zk _ 18446744073709551608))) (Zy sq.2<|qN _ 01) (Df (b:=60) 00 01)) rfl 01) (fh _ 01) (gM _ 01)) #[rfl,.refl _]
 .rintro _ _ ⟨rfl,g,rfl⟩;have E:(aX 0<|j6 c).map (Di c)=(wB c).map λx=>IV.str ⟨#[x]⟩:=by
   rw[wB,eO];refine mI (by rw[Zm,Zm,JH,nJ];lia) λi h1 J=>?_
   rw[ZO,Qw,ZO,rJ];simp[Di]
  rw[E];have D:Ex h (h++IX.lst ((wB c).map λx=>IV.str ⟨#[x]⟩)::g):=.cons _ _ _;have g1:(h++IX.lst ((wB c).map λx=>IV.str ⟨#[x]⟩)::g)[h.length]?=V (.lst<|(wB c).map λx=>IV.str ⟨#[x]⟩):=J1;generalize h++IX.lst ((wB c).map λx=>IV.str ⟨#[x]⟩)::g=h1 at D g1;have H:Txt.join (ZP "") (qT ⟨(wB c).toArray⟩)=⟨(wB c).toArray⟩:=by rw[Jrs];show(StrLaws.glued_eq_join _ _).trans<|PyProof.Rows.join_nil_signs _
  have G:sA ⟨(wB c).toArray⟩ Zg (V<|iE c)=⟨((wB c).take (iE c).toNat).toArray⟩:=by have:=beq_iff_eq.mp (PyProof.Rows.slice_closes_toL (x:=⟨(wB c).toArray⟩) (j:=iE c) m.2.2.1<|by rw[B,bl];show ZG<|ZF m.2.2.2<|o6 _);rw[this];simp
  have F:sA ⟨(wB c).toArray⟩ (V<|iE c+1) Zg=⟨((wB c).drop<|(iE c).toNat+1).toArray⟩:=by have:=beq_iff_eq.mp (PyProof.Rows.slice_closes_fromL (x:=⟨(wB c).toArray⟩) (i:=iE c+1) (ZG<|Zy m.2.2.1<|jO _ 01) (by rw[B,bl];show ZF m.2.2.2<|o6 _) rfl);rw[this];have L:(iE c+1).toNat=(iE c).toNat+1:=Int.toNat_add m.2.2.1 01;rw[L,mC (by rw[lJ];change _<=((⟨(wB c).toArray⟩:Str).length-(iE c+1)).toNat;rw[B];simp;omega)]
  have C:(⟨(wB c).toArray⟩:Str).length<=8:=05;have M:=List.length_take_le (iE c).toNat<|wB c;have P:((wB c).drop<|(iE c).toNat+1).length<=8-(iE c).toNat-1:=by rw[lJ];(rw[Nat.sub_sub];show Nat.sub_le_sub_right (Zb (Zi B.symm) C) _)
  calc Jf rfl (WU.mpr #[_,g1,_,Jqf _,J0k (show(wB c).length<=8 by assumption),?_]);rw[H];refine ae<|aj<|Jf (a:=.int<|iE c) (bW (Q2 rfl rfl 01 01) rfl m.1)<|ax<|Jf (tN (tN (K5 rfl rfl rfl C G) (letE rfl (bW (aN (Q2 rfl rfl 01 01) rfl) rfl 01) (fh _ 01) (gM _ 01)) ?_) (K5 rfl rfl rfl C F) ?_) #[rfl,D]
  .simp;show Zb (Zb (jI _ _)<|Zi B.symm) C
  .simp;(rw[bl,rE,nE 1,EJ<|(Int.toNat_lt_toNat m.1).mpr m.2.2.2];show oK<|Int.toNat_le.mpr m.2.1)
end
end
section
seal L4.run
theorem p5{xs:To}(hn:n<xs.length):∃x,a7 (xs.map IV.int) (n:Int)=V (.int x):=#[xs[n],JE 03]
def XC(E:cand.length<=2)(each:∀a∈cand,cE a.1/\0<=a.2.1/\a.2.2<len)(tK:∀a b,cand=[a,b]->xF b a):fN len (cand.filter λa=>decide (a.2.1<a.2.2)):=by
 refine#[Zb (nH _ _)<|mB 06,λa ha=>?_,λm n hm hn=>?_]
 .let#[F,J]:=j9.mp ha;let#[G,D,C]:=each a F;show#[G,D,by simpa using J,C]
 .have ln:=nH (λa:Hd=>decide (a.2.1<a.2.2)) cand;cases cand with|nil=>simp at hn|cons a t=>
   cases t with|nil=>simp at ln;omega|cons b t=>
    cases t with|cons _ _=>simp![jJ]at E;lia|nil=>
     have e:[a,b].filter (λa:Hd=>decide (a.2.1<a.2.2))=[a,b]:=by
      refine yt.mpr λx B=>?_
      by_cases u:a.2.1<a.2.2
      .by_cases j:b.2.1<b.2.2
       .simp at B;rcases B with rfl|rfl<;>simpa
       .simp[u,j]at hn;lia
      .by_cases j:b.2.1<b.2.2<;>simp[u,j]at hn<;>lia
     have k:m=0/\n=1:=by rw[e]at hn;lia
     let#[rfl,rfl]:=k;simp![e];show tK a b rfl
section
variable{k:Nat}{h:IH}
def Jw8(hi:h[i]?=V (.lst<|ms.map .int))(j:ms.length<64):XU (.ref i) h=.ok (.ref h.length) (h++[.lst<|(Vm ms).map .int]):=by dsimp only[XU];rw[hi];dsimp only;rw[if_pos<|by simp_all];unfold pL;rw[Vf]
def J8i(B:ms.length=4)(hm:∀x∈ms,0<=x/\x<len):∃p0 p1 p2 p3:Int,Vm ms=[p0,p1,p2,p3]/\0<=p0/\p0<=p1/\p1<=p2/\p2<=p3/\p3<len:=by
 have j:=Gq ms;have l:(Vm ms).length=4:=by rw[Vm,List.length_mergeSort];show B
 have mem:∀x∈Vm ms,0<=x/\x<len:=λx m=>hm x<|List.mem_mergeSort.mp m
 match Vm ms,l,j,mem with|[p0,p1,p2,p3],_,j,mem=>simp![rK,ZC,fu,or_false]at j;let#[a,b,c,_]:=j;have u:=mem p0 03;have k:=mem p3 03;show#[p0,p1,p2,p3,rfl,u.1,a p1<|.inl rfl,b p2<|.inl rfl,c p3 rfl,k.2]
noncomputable def K8 (v:IV):Bool:=match v with|.tup [_,.int s,.int e]=>decide (s<e)|_=>Zn
def Jr2(j:Tw):(j.map ao).filter K8=(j.filter λa=>decide (a.2.1<a.2.2)).map ao:=by rw[List.filter_map];rfl
noncomputable def b8 (one other:Str)(p0 p1 p2 p3:Int):Nat->Tw|0=>[]|1=>[(one,p0,p3)]|2=>[(one,p0,p3),(other,p1,p2)]|3=>[(other,p1,p2),(one,p0,p3)]|4=>[(one,p0,p1),(other,p2,p3)]|_=>[(one,p2,p3),(one,p0,p1)]
def J11(n)(h1:cE one)(J:cE other)(ne:one≠other)(j:0<=p0)(m:p0<=p1)(B:p1<=p2)(u:p2<=p3)(k:p3<len):fN len ((b8 one other p0 p1 p2 p3 n).filter λa=>decide (a.2.1<a.2.2)):=by
 match n with
 |0=>show XC (by simp[b8]) (by simp[b8])<|by simp[b8]
 |1=>
  refine XC (by simp[b8]) (λa ha=>?_)<|by simp[b8]
  simp![b8,ZC,fu,or_false]at ha;subst ha;show#[h1,j,k]
 |2=>
  refine XC (by simp[b8]) (λa ha=>?_) λa b e=>?_
  .simp only[b8,ZC,fu,or_false]at ha;rcases ha with rfl|rfl
   .show#[h1,j,k]
   .show#[J,by change 0<=p1;show ZE j m,by change p2<len;show Zy u k]
  .simp only[b8,vg,and_true]at e;let#[rfl,rfl]:=e;show .inr<|.inr #[bI ne,.inl #[m,u]]
 |3=>
  refine XC (by simp[b8]) (λa ha=>?_) λa b e=>?_
  .simp only[b8,ZC,fu,or_false]at ha;rcases ha with rfl|rfl
   .show#[J,by change 0<=p1;show ZE j m,by change p2<len;show Zy u k]
   .show#[h1,j,k]
  .simp only[b8,vg,and_true]at e;let#[rfl,rfl]:=e;show .inr<|.inr #[ne,.inr #[m,u]]
 |4=>
  refine XC (by simp[b8]) (λa ha=>?_) λa b e=>?_
  .simp only[b8,ZC,fu,or_false]at ha;rcases ha with rfl|rfl
   .show#[h1,j,by change p1<len;show Zy (ZE B u) k]
   .show#[J,by change 0<=p2;show ZE (ZE j m) B,k]
  .simp only[b8,vg,and_true]at e;let#[rfl,rfl]:=e;show .inr<|.inl B
 |n+5=>
  refine XC (by simp[b8]) (λa ha=>?_) λa b e=>?_
  .simp only[b8,ZC,fu,or_false]at ha;rcases ha with rfl|rfl
   .show#[h1,by change 0<=p2;show ZE (ZE j m) B,k]
   .show#[h1,j,by change p1<len;show Zy (ZE B u) k]
  .simp only[b8,vg,and_true]at e;let#[rfl,rfl]:=e;show .inl B
def Jz6{xs:To}(G:C[i0]?=V (.lst []))(P:C[i1]?=V (.lst [ao (one,p0,p3)]))(M:C[i2]?=V (.lst [ao (one,p0,p3),ao (other,p1,p2)]))(I:C[i3]?=V (.lst [ao (other,p1,p2),ao (one,p0,p3)])) (F:C[i4]?=V (.lst [ao (one,p0,p1),ao (other,p2,p3)]))(H:C[i5]?=V (.lst [ao (one,p2,p3),ao (one,p0,p1)]))(D:C[bD]?=V (.lst [.ref i0,.ref i1,.ref i2,.ref i3,.ref i4,.ref i5]))(L:C[X]?=V (.lst<|xs.map .int))(O:a7 (xs.map IV.int) 6=V (.int y6)):WS (Kw k [V<|.ref X,a1,a2,a3,a4,a5,V<|.ref bD] C) N λv h'=>∃q n,v=.ref q/\C.length<=q/\h'[q]?=V (.lst<|((b8 one other p0 p1 p2 p3 n).filter λa=>decide (a.2.1<a.2.2)).map ao)/\Ex C h':=by
 have Z:=J4;have j:∃(n m:Nat),a7 [IV.ref i0,IV.ref i1,IV.ref i2,IV.ref i3,IV.ref i4,IV.ref i5] (y6%6)=V (.ref m)/\C[m]?=V (.lst<|(b8 one other p0 p1 p2 p3 n).map ao):=by
  have:y6%6=0\/y6%6=1\/y6%6=2\/y6%6=3\/y6%6=4\/y6%6=5:=05;rcases this with e|e|e|e|e|e<;>rw[e]
  .show#[0,i0,JU,G]
  .show#[1,i1,JI,P]
  .show#[2,i2,Qj,M]
  .show#[3,i3,Xb,I]
  .show#[4,i4,Yk,F]
  .show#[5,i5,JE rfl,H]
 let#[n,m,E,B]:=j;have ln:(b8 one other p0 p1 p2 p3 n).length<=2:=by match n with|0|1|2|3|4|n+5=>simp[b8]
 refine ax (WR.mono (YS (xs:=(b8 one other p0 p1 p2 p3 n).map ao) (p:=K8) (f:=λv=>v) ?_ (by rw[Zm];show Zb (Zk _ 999998)<|Zb (Zc (Zc ln 1) 999998) Z) (λJ q=>q _ _ B) ?_ ?_) ?_)
 .rw[JN];show Jf (aT rfl (bW (aT rfl rfl L O) rfl 01) D E)<|(JR _).mpr #[_,B,rfl,rfl,rfl]
 .intro v u J q;let#[a,_,rfl]:=Z9.mp u;show Jf (ki (ai rfl rfl rfl)<|ai rfl rfl rfl) #[rfl,.refl _]
 .intro v u _ J q;show#[rfl,.refl _]
 .rintro _ _ ⟨rfl,g,rfl⟩;calc#[_,n,rfl,Zl _,?_,.cons _ _ _];rw[J1,List.map_id',Jr2]
def Dj(j:a U h=.ok x h1)(k:b U h1=.ok y J)(q:WR (f x y J) P):WR (Jc f a b U h) P:=by rw[aG j k];show q
theorem VC(j:C[Pp]?=V (.lst ps))(k:Ja 3 U C=.ok (.ref Pp) C)(m:Ja s U C=.ok (.str w) C)(B:a7 ps a=V (.int x))(u:a7 ps b=V (.int y)):bN (Jb (Ja s)<|Jb (Jc Jg 'd'<|eC<|.int a)<|Jb (Jc Jg 'd'<|eC<|.int b) Je) U C=.ok (ao (w,x,y)) C:=iC (iB m (aT k rfl j B)<|aT k rfl j u) rfl
def Jz5{xs:To}(D:C[i0]?=V (.lst []))(J:C[i1]?=V (.lst [ao (one,p0,p3)]))(H:C[i2]?=V (.lst [ao (one,p0,p3),ao (other,p1,p2)]))(E:C[i3]?=V (.lst [ao (other,p1,p2),ao (one,p0,p3)])) (u:C[bD]?=V (.lst [.ref i0,.ref i1,.ref i2,.ref i3]))(m:C[Pp]?=V (.lst [.int p0,.int p1,.int p2,.int p3]))(G:C[X]?=V (.lst<|xs.map .int))(I:a7 (xs.map IV.int) 6=V (.int y6)):WS (Kx k [V<|.ref X,a1,a2,V<|.ref Pp,V<|.str one,V<|.str other,V<|.ref bD] C) N λv h'=>∃q n,v=.ref q/\C.length<=q/\h'[q]?=V (.lst<|((b8 one other p0 p1 p2 p3 n).filter λa=>decide (a.2.1<a.2.2)).map ao)/\Ex C h':=by
 have Z:=J4;calc ae<|aj<|Dj rfl (cO (ar (cO (ar (VC m rfl rfl rfl rfl)<|VC m rfl rfl rfl rfl) rfl)<|cO (ar (VC (grow m) rfl rfl rfl rfl)<|VC (grow m) rfl rfl rfl rfl) rfl) rfl) ?_;calc(wJ ..).mpr #[_,grow<|grow<|grow u,_,Jo,by simp;show iI _ _,?_];have j:∀a b c d,Ex C (C++[a]++[b]++[c]++[d]):=λa b c d=>(Ex.one _ _).trans<|(Ex.one _ _).trans<|(Ex.one _ _).trans<|.one _ _
 calc WS.mono (Jz6 ((j _ _ _ _).get D) ((j _ _ _ _).get J) ((j _ _ _ _).get H) ((j _ _ _ _).get E) (grow<|grow<|grow Jo) (grow<|grow Jo) Jo ((j _ _ _ _).get G) I) (λ_ _ z=>z) ?_;rintro v h' ⟨q,n,rfl,F,B,L⟩;calc#[q,n,rfl,?_,B,(j _ _ _ _).trans L];simp at F;show Zb (Zk _ _) 06
def Jz4{xs:To}(j:C[Pp]?=V (.lst [.int p0,.int p1,.int p2,.int p3]))(D:C[X]?=V (.lst<|xs.map .int))(E:a7 (xs.map IV.int) 6=V (.int y6)):WS (Ky k [V<|.ref X,a1,a2,V<|.ref Pp,V<|.str one,V<|.str other,a6] C) N λv h'=>∃q n,v=.ref q/\C.length<=q/\h'[q]?=V (.lst<|((b8 one other p0 p1 p2 p3 n).filter λa=>decide (a.2.1<a.2.2)).map ao)/\Ex C h':=by
 have Z:=J4;calc ae<|aj<|Jf (cO (gF (cO rfl rfl) (cO (ak<|VC (grow j) rfl rfl rfl rfl) rfl) (cO (ar (VC (grow<|grow j) rfl rfl rfl rfl)<|VC (grow<|grow j) rfl rfl rfl rfl) rfl)<|cO (ar (VC (grow<|grow<|grow j) rfl rfl rfl rfl)<|VC (grow<|grow<|grow j) rfl rfl rfl rfl) rfl) rfl) ?_;have m:∀a b c d e,Ex C (C++[a]++[b]++[c]++[d]++[e]):=λa b c d e=>(Ex.one _ _).trans<|(Ex.one _ _).trans<|(Ex.one _ _).trans<|(Ex.one _ _).trans<|.one _ _
 calc WS.mono (Jz5 (grow<|grow<|grow<|grow Jo) (grow<|grow<|grow Jo) (grow<|grow Jo) (grow Jo) Jo ((m _ _ _ _ _).get j) ((m _ _ _ _ _).get D) E) (λ_ _ z=>z) ?_;rintro v h' ⟨q,n,rfl,B,u,F⟩;calc#[q,n,rfl,?_,u,(m _ _ _ _ _).trans F];simp at B;show Zb (Zk _ _) 06
def tP(len:Int)(v:IV):IV:=match v with|.int x=>.int (x%len)|_=>.af
def Jvk{xs:To}{ws:Tj}(R:h[X]?=V (.lst<|xs.map .int))(lx:7<=xs.length)(hW:h[W]?=V (.lst<|ws.map .str))(lw:ws.length=3)(M:∀x∈ws,cE x)(nd:ws.Nodup)(h1:1<=len):
  WR (Cy (k+1) [.ref X,.int len,.ref W] h) λv h'=>∃q hs,v=.ref q/\h.length<=q/\h'[q]?=V (.lst<|hs.map ao)/\fN len hs/\Ex h h':=by
 have Z:=J4;rw[Jlv];have Y:(xs.take 4).length=4:=by rw[e9];lia
 refine aq (ae<|aj<|xb<|xb<|WR.mono (Qg (xs:=(xs.take 4).map IV.int) (ba:=λh'=>h'[h.length]?=V (.lst<|(xs.take 4).map IV.int)) (f:=tP len) ?_ (by rw[Zm,Y];show iI _ _) (λJ q=>q _ _ Jo) ?_) ?_)
 .rw[JN];calc(VE ..).mpr<|Jf rfl (Jf rfl (Jf rfl ((Xt ..).mpr #[_,R,?_])));rw[show(V (4:Int))=V ((4:Nat):Int)from rfl,Yq,<-uA];show(JR _).mpr #[_,Jo,rfl,rfl,rfl]
 .intro v hv J q;let#[x,S,rfl]:=Z9.mp hv;unfold Kv;show Jf (bW rfl rfl 06) #[rfl,.refl _]
 .rintro _ _ ⟨rfl,g,rfl⟩;have em:((xs.take 4).map IV.int).map (tP len)=((xs.take 4).map (· %len)).map IV.int:=by rw[eO,eO];rfl
  rw[em];have O:((xs.take 4).map (· %len)).length=4:=by rw[Zm,Y]
  let#[p0,p1,p2,p3,es,a0,a1,a2,a3,a4]:=J8i (len:=len) O λx S=>by let#[y,_,rfl]:=Z9.mp S;show#[fh _<|gQ 06,gM _ 06]
  generalize H:h++[IX.lst<|(xs.take 4).map IV.int]=u;have xA:Ex h u:=by rw[<-H];show .one _ _
  calc Jf rfl (Jf ((Jw8 J1<|Zb (Zc (Zi O) 1)<|Zk _ 59).trans<|by rw[es]) ?_);have P:Ex u (u++IX.lst (((xs.take 4).map (· %len)).map IV.int)::g++[IX.lst<|[p0,p1,p2,p3].map IV.int]):=(Ex.cons _ _ _).trans<|.one _ _;have I:(u++IX.lst (((xs.take 4).map (· %len)).map IV.int)::g++[IX.lst<|[p0,p1,p2,p3].map IV.int])[(u++IX.lst (((xs.take 4).map (· %len)).map IV.int)::g).length]?=V (.lst [.int p0,.int p1,.int p2,.int p3]):=Jo;generalize (u++IX.lst (((xs.take 4).map (· %len)).map IV.int)::g).length=Pp at I ⊢;generalize u++IX.lst (((xs.take 4).map (· %len)).map IV.int)::g++[IX.lst<|[p0,p1,p2,p3].map IV.int]=hB at P I ⊢;have E:=xA.trans P;have m:=E.get R;have D:=E.get hW;let#[F,L]:=p5 (xs:=xs) (n:=4)<|kr (iI _ _) 06;let#[Q,e5]:=p5 (xs:=xs) (n:=5)<|lF 06;let#[y6,e6]:=p5 (xs:=xs) (n:=6)<|lx;obtain⟨i,hi⟩:∃i:Nat,F%3=i:=#[(F%3).toNat,i7 (o6 _)<|ZA<|sf<|fh _<|gQ 01];obtain⟨j,hj⟩:∃j:Nat,(F+1+Q%2)%3=j:=#[((F+1+Q%2)%3).toNat,i7 (o6 _)<|ZA<|sf<|fh _<|gQ 01];have B:i<ws.length:=05;have C:j<ws.length:=05;have G:i≠j:=05;have aw:∀n (hn:n<ws.length),a7 (ws.map IV.str) (n:Int)=V (.str ws[n]):=λn hn=>JE<|by simp_all
  have A1:=aw i B;have U:=aw j C;rw[<-hi]at A1;rw[<-hj]at U;have n1:=M _<|Z4 B;have n2:=M _<|Z4 C;have ne:ws[i]≠ws[j]:=λe=>G<|(ur nd).mp e
  calc ae<|aj<|Jf (aT rfl (bW (aT rfl rfl m L) rfl 01) D A1) ?_;calc ae<|aj<|Jf (aT rfl (bW (aN (aN (aT rfl rfl m L) rfl)<|bW (aT rfl rfl m e5) rfl 01) rfl 01) D U) ?_;calc WS.mono (Jz4 (k:=k) (p0:=p0) (p1:=p1) (p2:=p2) (p3:=p3) (N:=λ_ _=>False) I m e6) (λ_ _ z=>z.elim) ?_;rintro v h' ⟨q,n,rfl,lq,gq,x'⟩;have:=E.len;show#[q,_,rfl,Zb this lq,gq,J11 (len:=len) n n1 n2 ne a0 a1 a2 a3 a4,E.trans x']
end
end
section
seal L4.run
noncomputable abbrev xM (r:RH)(q:Nat):Tu:=[.int r.1.gap,.int r.1.len,.int r.1.bK,.int r.1.ag,.ref q]
structure F7(unit:Int)(r:RH):Prop where
 g1:unit<=r.1.gap
 g2:r.1.gap<8*unit
 l1:1<=r.1.len
 l2:r.1.len<=r.1.gap
 d1:1<=r.1.bK
 d2:r.1.bK<=r.1.gap
 t1:0<=r.1.ag
 t2:r.1.ag<=3*r.1.gap/2
 ok:fN r.1.len r.2
def J1n{ws:Tj}(j:∀x∈ws,cE x):jP (ws.map PyData.str)=Zj:=by
 induction ws with|nil=>rfl|cons x xs k=>
  have q:=j x<|ZD ..;have e:l4 (.str x)=Zj:=by simp![l4];unfold PyData.strOk;rw[<-Array.all_toList,mG];intro c u;have:=q.2.2 c u;simp![decide_eq_true_eq];show Zb (Zc this.2 1)<|Zk _ 1113989
  rw[ZN,jP,e,k λy m=>j y<|Zt _ m];rfl
section
variable{k:Nat}{h:IH}
def Jnt{ws:Tj}(D:h[W]?=V (.lst<|ws.map .str))(m:∀x∈ws,cE x)(k:h[j]?=V (.lst [])):jE (.ref W) (.ref j) h=.ok (.bl (!ws.isEmpty)) h:=by
 have F:toD h 6 (.ref W)=V (.list<|ws.map PyData.str):=by
  rw[xJ D,xK (g:=λv=>match v with|.str x=>.str x|_=>.none) λx B=>?_]
  .simp
  .let#[y,_,rfl]:=Z9.mp B;rfl
 have E:toD h 6 (.ref j)=V (.list []):=by rw[xJ k];rfl
 have C:Vu (.ref W) (.ref j) h=V ws.isEmpty:=by unfold Vu;rw[F,E];dsimp only;rw[if_pos #[by rw[l4];show J1n m,by rw[l4,jP]],jy];cases ws with|nil=>rw[List.map_nil,su];rfl|cons a G=>rw[ZN,su];rfl;all_goals intros;simp_all
 unfold jE;have u:Xp (.ref W) (.ref j)=Zg:=rfl;rw[u];dsimp only;rw[C]
def pk(xs:To)(hn:(xs.length:Int)=n)(h0:0<n):∃x∈xs,a7 (xs.map IV.int) (y%n)=V (.int x):=by have a:=fh y (b:=n)<|gQ h0;have b:=gM y h0;have l:(y%n).toNat<xs.length:=(Int.toNat_lt a).mpr<|ZF b<|ZA hn.symm;show#[xs[(y%n).toNat],Z4 l,Bz a<|by rw[ZK,Zd l];rfl]
def tQ(k:a U h=.ok (.int i) h1)(m:b U h1=.ok (.int j) J):aW (aO Y2) (Jb (Jc fE a b) Je) U h=.ok (.int (if j<i then 1 else 0)) J:=by rw[eE<|ak<|aG k m];change Res.ok (IV.int (if decide (j<i)=Zj then 1 else 0)) J=_;simp![decide_eq_true_eq]
def K9(x y)(m:Int):∃K,a7 [IV.int x,IV.int y] (if 5<m then 1 else 0)=V (.int K)/\((K=x/\¬5<m)\/(K=y/\5<m)):=by
 by_cases l:5<m
 .show#[y,by rw[if_pos l];rfl,.inr #[rfl,l]]
 .show#[x,by rw[if_neg l];rfl,.inl #[rfl,l]]
def Jwl{ws:Tj}(hu:1<=unit)(hu2:unit<=10^40)(hW:h[W]?=V (.lst<|ws.map .str))(hw:∀x∈ws,cE x)(nd:ws.Nodup)(lw:ws.length=3):WR (Cz (k+2) [.int c,.int unit,.ref W,.int m] h) λv h'=>Ex h h'/\∃r q,F7 unit r/\(5<m->r.1.gap<3*unit)/\v=.tup (xM r q)/\h.length<=q/\h'[q]?=V (.lst<|r.2.map ao):=by
 have Z:=J4;rw[Jlx];calc aq<|ae<|aj<|xb<|Jf (ar rfl rfl)<|WR.mono (Jt1 (k:=k) (h:=h) c 15 01) ?_;rintro _ G ⟨i,xs,rfl,_,E,lx,hx,Q⟩;have at_:∀n:Nat,n<15->∃x,0<=x/\a7 (xs.map IV.int) (n:Int)=V (.int x):=λn hn=>#[xs[n],(hx _<|Z4 _).1,JE<|by rw[ZK,Zd<|Zb hn<|Zi lx.symm];rfl]
 let#[L,z0,e0]:=at_ 0 01;let#[y1,z1,e1]:=at_ 1 01;let#[S,z2,e2]:=at_ 2 01;let#[y3,z3,e3]:=at_ 3 01;let#[B,z4,e4]:=at_ 4 01;let#[y5,z5,e5]:=at_ 5 01;let#[y6,z6,e6]:=at_ 6 01;let#[y7,z7,e7]:=at_ 7 01;clear at_ hx;let#[K,Y,hK]:=K9 7 2 m;have H:=fh L (b:=K) 05;have k1:=gM L (b:=K) 05;have b1:unit*1<=unit*(1+L%K):=uS (o4 H)<|ZG 06;have b2:unit*(1+L%K)<=unit*7:=uS 00<|ZG 06;have b5:5<m->unit*(1+L%K)<=unit*2:=λ_=>uS 05<|ZG 06
 have b3:=fh y1 (b:=1+unit/2) 05;have b4:=gM y1 (b:=1+unit/2) 05;calc ae<|aj<|Jf (aN (gG rfl (aN rfl (bW (aT rfl rfl E e0) (tG (ar rfl rfl) rfl (tQ rfl rfl) Y)<|Zy H k1)) (.inr<|.inl 00))<|bW (aT rfl rfl (grow E) e1) (aN rfl (Q2 rfl rfl 01 01))<|Zy b3 b4) ?_;obtain⟨g,eg,g1,g2,g3⟩:∃g,unit*(1+L%K)+y1%(1+unit/2)=g/\unit<=g/\g<8*unit/\(5<m->g<3*unit):=#[_,rfl,05,05,λl=>by have:=b5 l;lia];rw[eg];have x0:Ex G (G++[IX.lst [IV.int 7,IV.int 2]]):=.one _ _;generalize G++[IX.lst [IV.int 7,IV.int 2]]=h1' at x0;have E:=x0.get E;have Q:=Q.trans x0;clear x0;revert E Q;generalize h1'=G;intro E Q;clear b5 H k1 hK Y;clear eg b1 b2 b3 b4;have j:(0:Int)<g:=ZF 06 06;have d1:=fh S (b:=g)<|gQ j;have d2:=gM S j;let#[I,hd,ed]:=pk (n:=2) (y:=y3) [0,S%g] rfl 01;have hd:0<=I/\I<g:=by simp![ZC,fu,or_false]at hd;show hd.elim (λh'=>#[(ZA h'.symm),(Zy (ZA h') j)]) λh'=>#[(ZE d1<|ZA h'.symm),(Zy (ZA h') d2)]
 calc ae<|aj<|Jf (dB rfl (tG (ar rfl (bW (aT rfl rfl E e2) rfl j)) rfl (bW (aT rfl rfl (grow E) e3) rfl 01) ed)) ?_;have xA:Ex G (G++[IX.lst [IV.int 0,IV.int<|S%g]]):=.one _ _;generalize G++[IX.lst [IV.int 0,IV.int<|S%g]]=hA at xA ⊢;have u:=xA.get E;have t1:=fh B (b:=1+g/3)<|gQ<|Zy (sg (ZG j) 01)<|qN _ 01;have t2:=gM B (b:=1+g/3)<|Zy (sg (ZG j) 01)<|qN _ 01;have t3:=fh B (b:=1+3*g/2)<|gQ<|Zy (sg (ZG<|Int.mul_pos 01 j) 01)<|qN _ 01;have t4:=gM B (b:=1+3*g/2)<|Zy (sg (ZG<|Int.mul_pos 01 j) 01)<|qN _ 01;let#[lt,hl,el]:=pk (n:=4) (y:=y5) [0,0,B%(1+g/3),B%(1+3*g/2)] rfl 01;have hl:0<=lt/\lt<=3*g/2:=by simp![ZC,fu,or_false]at hl;lia
 calc ae<|aj<|Jf (tG (gF rfl rfl (bW (aT rfl rfl u e4) (aN rfl (Q2 rfl rfl 01 01))<|Zy t1 t2) (bW (aT rfl rfl u e4) (aN rfl (Q2 (gG rfl rfl (.inl 01)) rfl 01 01))<|Zy t3 t4)) rfl (bW (aT rfl rfl (grow u) e5) rfl 01) el) ?_;have X:Ex hA (hA++[IX.lst [IV.int 0,IV.int 0,IV.int<|B%(1+g/3),IV.int<|B%(1+3*g/2)]]):=.one _ _;generalize hA++[IX.lst [IV.int 0,IV.int 0,IV.int<|B%(1+g/3),IV.int<|B%(1+3*g/2)]]=R at X ⊢;have P:=X.get u;let#[K,Y,hK]:=K9 4 5 m;have H:=fh y7 (b:=K) 05;have k1:=gM y7 (b:=K) 05;let#[dv,hv,ev]:=pk (n:=5) (y:=y7%K) [1,2,4,9,25] rfl 01;rw[Int.emod_eq_of_lt H 00]at ev;have hv:0<dv/\dv<=25:=by simp![ZC,fu,or_false]at hv;lia
 obtain⟨M,eM,M1,M2⟩:∃M:Int,(if g/dv>1 then g/dv else 1)=M/\1<=M/\M<=g:=by
  have:g/dv<=g:=Int.ediv_le_self _<|ZG j;split
  .show#[_,rfl,ZG 06,this]
  .show#[_,rfl,ZJ _,06]
 have s1:=fh y6 (b:=M)<|gQ 06;have s2:=gM y6 (b:=M) 06;calc ae<|aj<|Jf (aN rfl (bW (aT rfl rfl P e6) (dq (nt rfl (Q2 rfl (aT (cO (show Jb _ _ _ R=.ok [IV.int 1,IV.int 2,IV.int 4,IV.int 9,IV.int 25] R from rfl) rfl) (bW (aT rfl rfl (grow P) e7) (tG (ar rfl rfl) rfl (tQ rfl rfl) Y)<|Zy H k1) (grow Jo) ev) hv.1 (Df (b:=25) 05 01)))<|congrArg IV.int eM) 06)) ?_;generalize F:1+y6%M=len;have xC:Ex R (R++[IX.lst [IV.int 1,IV.int 2,IV.int 4,IV.int 9,IV.int 25]]++[IX.lst [IV.int 4,IV.int 5]]):=(Ex.one _ _).trans<|.one _ _;generalize R++[IX.lst [IV.int 1,IV.int 2,IV.int 4,IV.int 9,IV.int 25]]++[IX.lst [IV.int 4,IV.int 5]]=C at xC ⊢;have D:=((Q.trans xA).trans X).trans xC;have lC:=D.len;have hiC:=(X.trans xC).get u;have O:Ex C (C++[IX.lst []]++[IX.lst []]):=(Ex.one _ _).trans<|.one _ _;have gE:(C++[IX.lst []]++[IX.lst []])[C.length]?=V (.lst []):=grow Jo;have base:∀J:Tw,fN len J->F7 unit (#[#[⟨#[]⟩,g,len,g-I,lt],J]:RH):=λJ ok=>#[g1,g2,by change 1<=len;show ZE (o4 s1)<|ZA F,by change len<=g;lia,by change 1<=g-I;lia,by change g-I<=g;show yS _ hd.1,hl.1,hl.2,ok]
 have tst:∀{U:aI}{a:E1},a U (C++[IX.lst []])=.ok (.ref W) (C++[IX.lst []])->Ji aR (Jc jE a<|J9 Je) U (C++[IX.lst []])=.ok (!ws.isEmpty) (C++[IX.lst []]++[IX.lst []]):=λea=>br<|(aG ea<|cO rfl rfl).trans<|Jnt (O.get<|D.get hW) hw Jo
 calc ae<|aj<|Jf (cO rfl rfl)<|ae ?_;have ne:ws.isEmpty=Zn:=by cases ws with|nil=>simp at lw|cons _ _=>rfl
 calc jq (dq (tst rfl)<|by rw[ne];rfl)<|aj<|xb<|xb ?_;calc(VE ..).mpr<|Jf rfl (Jf rfl (Jf rfl ((Xt ..).mpr #[_,O.get hiC,?_])));rw[show(V (8:Int))=V ((8:Nat):Int)from rfl,BC,<-List.map_drop];have xE:Ex (C++[IX.lst []]++[IX.lst []]) (C++[IX.lst []]++[IX.lst []]++[IX.lst<|(xs.drop 8).map IV.int]):=.one _ _;calc xb (Jf (ar rfl rfl)<|Jf rfl (WR.mono (Jvk (k:=k) Jo (by rw[lJ];show ZZ (b:=8)<|Zb (Zi lx.symm)<|oH<|Zl _) (xE.get<|O.get<|D.get hW) lw hw nd<|ZE (o4 s1)<|ZA F) ?_));rintro _ h3 ⟨q,J,rfl,hq,gq,ok,x3⟩;have l1:=(O.trans xE).len;show ax<|Jf (iC rfl rfl) #[(D.trans<|O.trans xE).trans x3,#[#[⟨#[]⟩,g,len,g-I,lt],J],q,base J ok,g3,rfl,Zb (Zb lC l1) hq,gq]
end
end
section
seal L4.run L4.WS
abbrev g9(r:RH)(q:Nat):IV:=.tup<|.str r.1.name::xM r q
structure cL(h:IH)(lo:Nat)(ys:Tu)(rs:Tx):Prop where
 len:ys.length=rs.length
 at_:∀(i:Nat) y r,ys[i]?=V y->rs[i]?=V r->∃q,y=g9 r q/\q≠lo/\h[q]?=V (.lst<|r.2.map ao)
theorem cL.Dl(k:iR lo h h')(w:cL h lo ys rs):cL h' lo ys rs:=#[w.len,λi y r a b=>let ⟨q,e,n,g⟩:=w.at_ i y r a b;#[q,e,n,k _ _ n g]]
theorem cL.kp(k:Kp h h')(w:cL h lo ys rs):cL h' lo ys rs:=w.Dl λ_ _ _ q=>k _ _ q
def cL.get(w:cL h lo ys rs){n:Nat}(e:rs[n]?=V r):∃q,ys[n]?=V (g9 r q)/\h[q]?=V (.lst<|r.2.map ao):=by
 have hn:n<ys.length:=by rw[w.len];show(Zs.mp e).1
 let#[q,j,_,g]:=w.at_ n _ r (Zd hn) e;show#[q,by rw[Zd hn,j],g]
def cL.snoc(w:cL h lo ys rs)(n:q≠lo)(g:h[q]?=V (.lst<|r.2.map ao)):cL h lo (ys++[g9 r q]) (rs++[r]):=by
 have k:=w.len;calc#[by simp[k],λi y s a b=>?_];by_cases m:i<ys.length
 .rw[ZV m]at a;rw[ZV<|nD 06 06]at b;show w.at_ i y s a b
 .have j:=(Zs.mp a).1;rw[Z7,oO]at j;obtain rfl:i=ys.length:=ZQ (ZZ (b:=1) j)<|ZI m;rw[ZU<|Zl _,uh]at a;rw[k,ZU<|Zl _,uh]at b;cases a;cases b;show#[q,rfl,n,g]
structure Dr(c unit:Int)(rs:Tx):Prop where
 u1:1<=unit
 u2:unit<=10^40
 f:∀r∈rs,F7 unit r
 nm:(rs.map λr=>r.1.name)=(ZM rs.length).map (wd c)
def F7.to8(f:F7 unit r)(j:1<=unit)(hn:cE r.1.name):F8 unit r:=by have g1:=f.g1;have g2:=f.g2;have t2:=f.t2;show#[hn,f.g1,05,f.l1,f.d1,f.d2,f.t1,05,f.ok]
def Dr.gd(D:Dr c unit rs)(m:rs.length<=12)(sm:rs.length<=7\/∀r∈rs,r.1.gap<3*unit):Gd unit rs:=by
 refine#[D.u1,D.u2,m,sm,λr u=>(D.f r u).to8 D.u1 ?_,?_]
 .have:r.1.name∈(ZM rs.length).map (wd c):=by rw[<-D.nm];show List.mem_map_of_mem u
  let#[j,_,e]:=Z9.mp this;rw[<-e];show KZ c j
 .rw[D.nm,List.Nodup,uo];calc(yB (n:=rs.length)).imp_of_mem λ{a b} ha Z k e=>k ?_;show K0 (by have:=hU.mp ha;show Zb (Zb this m)<|Zk _ 14) (by have:=hU.mp Z;show Zb (Zb this m)<|Zk _ 14) e
def SQ(h:IH)(v:IV)(h':IH):Prop:=Ex h h'/\∃S lo ys rs c unit,v=.ref S/\h.length<=S/\h'[S]?=V (.lst ys)/\cL h' lo ys rs/\Dr c unit rs/\rs.length<=12/\(rs.length<=5\/∀r∈rs,r.1.gap<3*unit)
def xN(c:Int)(v:IV):IV:=match v with|.int q=>.str<|wd c q.toNat|_=>.af
section
variable{k:Nat}{h:IH}
theorem La(U)(h):Jc JQ (eC<|.int 10) (eC<|.int 15) U h=.ok (.int<|10^15) h:=Ju (by rw[YR,VD,VD,wI];show#[01,rfl,rfl])
theorem e40(U)(h):Jc JQ (eC<|.int 10) (eC<|.int 40) U h=.ok (.int<|10^40) h:=rfl
def SmI(h hB:IH)(ns:To)(x0 unit x1:Int)(m W n:Nat)(U:aI)(h':IH):Prop:=∃ys rs g a b,h'=hB++.lst ys::g/\U=[V<|.cG<|ns.map .int,V<|.bl Zj,V<|.int x0,V<|.int unit,V<|.int x1,V<|.int (m:Int),V<|.ref W,V<|.ref hB.length,a,b]/\cL h' hB.length ys rs/\rs.length=n/\Dr (x1/7) unit rs/\(5<m->∀r∈rs,r.1.gap<3*unit)
def J1o(ns:To):WR (CA (k+4) [.cG<|ns.map .int,.bl Zj] h) (SQ h):=by
 have Z:=J4;rw[Jna];have c0:=C2 (k:=k+2) (h:=h) ns 0 01;have c1:=λ(h:IH)=>C2 (k:=k+2) (h:=h) ns 1 01;generalize ns.getD (uV 0) 0=I at c0;generalize ns.getD (uV 1) 0=B at c1;let#[R,M,eU]:=pk (n:=4) (y:=I) [4,10^15,10^15,10^40] rfl 01;have M:0<R/\R<=10^40:=by simp![ZC,fu,or_false]at M;rcases M with rfl|rfl|rfl|rfl<;>decide +kernel
 have u0:=fh (I/4) (b:=R)<|gQ M.1;have u1:=gM (I/4) M.1;have hx:I/4%R<10^40:=ZF u1 M.2;have E:∀{U:aI}{S:IH},Jb '4' (Jb (Jc JQ (eC<|.int 10)<|eC<|.int 15)<|Jb (Jc JQ (eC<|.int 10)<|eC<|.int 15)<|Jb (Jc JQ (eC<|.int 10)<|eC<|.int 40) Je) U S=.ok [IV.int 4,IV.int<|10^15,IV.int<|10^15,IV.int<|10^40] S:=λ{U S}=>gF rfl (La U S) (La U S) (e40 U S);calc aq<|ae<|aj<|Jf (Jx (ar rfl rfl) c0)<|ae<|aj ?_;calc Jf (aN rfl (bW (Q2 rfl rfl 01 01) (tG E rfl (bW rfl rfl 01) eU) M.1)) ?_;calc ae<|aj<|Jf (Jx (ar rfl rfl)<|c1 _)<|ae<|aj<|Jf (bW rfl rfl 01)<|ae ?_;obtain⟨m,em,lm⟩:∃m:Nat,(m:Int)=(if B/6%8=5 then 6+B/48%7 else B%6)/\m<=12:=by
  split
  .show#[(6+B/48%7).toNat,i7 (ZA<|sf<|ZG<|Zy (fh _<|gQ 01)<|qN _ 01)<|o6 _,05]
  .show#[(B%6).toNat,i7 (ZA<|sf<|fh _<|gQ 01)<|o6 _,05]
 suffices go:WS (KC (k+3) [V<|.cG<|ns.map .int,V<|.bl Zj,V<|.int I,V<|.int<|1+I/4%R,V<|.int B,V<|.int (m:Int),Zg,Zg,Zg,Zg]<|h++[IX.lst [IV.int 4,IV.int<|10^15,IV.int<|10^15,IV.int<|10^40]]) (λ_ h=>SQ h .af h) (SQ h) by
  have e:=em;refine jo (rm (bW (Q2 rfl rfl 01 01) rfl 01) rfl) (λl=>?_) λl=>?_
  .rw[if_pos l]at e;calc aj<|Jf (dq (aN rfl (bW (Q2 rfl rfl 01 01) rfl 01))<|congrArg IV.int e.symm) ?_;show WS.mono go (λ_ _ z=>z.2.elim λ_ z=>by let#[_,_,_,_,_,z,_]:=z;cases z) λ_ _ z=>z
  .rw[if_neg l]at e;calc aE ?_;rw[<-e];show WS.mono go (λ_ _ z=>z.2.elim λ_ z=>by let#[_,_,_,_,_,z,_]:=z;cases z) λ_ _ z=>z
 calc ae<|aj<|Jf (cO rfl rfl)<|ae ?_;generalize hu:1+I/4%R=C;have O:1<=C:=ZE (o4 u0)<|ZA hu;have P:C<=10^40:=by clear eU;generalize (10:Int)^40=y at hx;lia
 have xA:Ex h (h++[IX.lst [IV.int 4,IV.int<|10^15,IV.int<|10^15,IV.int<|10^40]]++[IX.lst []]):=(Ex.one _ _).trans<|.one _ _;have gA:(h++[IX.lst [IV.int 4,IV.int<|10^15,IV.int<|10^15,IV.int<|10^40]]++[IX.lst []])[(h++[IX.lst [IV.int 4,IV.int<|10^15,IV.int<|10^15,IV.int<|10^40]]).length]?=V (.lst []):=Jo;have X:∀(u:IH)(W:Nat)(Q:Tj),Ex h u->u[W]?=V (.lst<|Q.map .str)->(∀x∈Q,cE x)->Q.Nodup->Q.length=3->∀N:aI->IH->Prop,
   WS (KA (k+3) [V<|.cG<|ns.map .int,V<|.bl Zj,V<|.int I,V<|.int C,V<|.int B,V<|.int (m:Int),V<|.ref W,Zg,Zg,Zg] u) N (SQ h):=by
  intro u W Q xB gW hw nd lw N;calc ae<|aj<|Jf (cO rfl rfl)<|ae<|lh (n:=m) rfl (Zb (Zc lm 1)<|Zk _ 999987) ?_;refine Qx (SmI h u ns I C B m W) (λ_ _ _ _=>trivial) ?_ ?_ #[[],[],[],Zg,Zg,rfl,rfl,#[rfl,λi y r a b=>by simp at a],rfl,#[O,P,03,rfl],03]
  .rintro n hn _ _ ⟨F,rs,g,a,b,rfl,rfl,w,ln,D,h5⟩;rw[Qw];rw[JH]at hn;have hn6:n<12:=ZL 06 06;rw[show(0+(n:Int))=(n:Int) by show mK _ _];have gW':(u++IX.lst F::g)[W]?=V (.lst<|Q.map .str):=grow gW;calc gH rfl (ae<|aj<|xb<|Jf (gF (aN (Jx (ar rfl (aN rfl (bW rfl rfl 01)))<|C2 (k:=k+2) ns (2+(n:Int)%5)<|iL _)<|gG rfl rfl (.inl 01)) rfl rfl rfl)<|WR.mono (Jwl (k:=k+1) (m:=(m:Int)) O P gW' hw nd lw) ?_);rintro _ h3 ⟨⟨G,rfl⟩,r,q,f,f5,rfl,hq,gq⟩;have e3:u++IX.lst F::g++G=u++IX.lst F::(g++G):=03;calc Ql (QO (i:=u.length) rfl (by rw[e3];show J1) Xc (xb<|xb<|nq<|xb<|xb<|Jf (ar (Q2 rfl rfl 01 01) rfl)<|WR.mono (K6 (k:=k+2) (B/7) n) ?_));rintro _ _ ⟨rfl,H,rfl⟩;have e4:u++IX.lst F::g++G++H=u++IX.lst F::(g++G++H):=03;have kB:iR u.length (u++IX.lst F::g) (u++IX.lst F::(g++G++H)):=λj o _ z=>by rw[<-e4];show grow<|grow z
   have w4:=w.Dl kB;have gq4:(u++IX.lst F::(g++G++H))[q]?=V (.lst<|r.2.map ao):=by rw[<-e4];show grow gq
   have Y:q≠u.length:=by rw[Z7,jJ]at hq;lia
   have ly:F.length<=12:=by have:=w.len;show Z3<|Zb (Zc (Zb (Zi this)<|Zi ln) 1) hn6
   rw[e4];have ea:Jr (.tup [.str<|wd (B/7) n]) (.tup<|xM r q) (u++IX.lst F::(g++G++H))=.ok (g9 #[{r.1 with name:=wd (B/7) n},r.2] q) (u++IX.lst F::(g++G++H)):=by simp![Jr];rw[if_pos #[03,03,by simp;show iI _ _]];rfl
   calc xb (Jf rfl (Jf rfl #[by change(1:Nat)<=_;show lI 06,xb<|Jf rfl (Jf ea<|xb<|Jf rfl (Jf rfl (jr J1 (Zb (Zk _ 999988)<|Zb (Zc (Zc ly 1) 999988) Z) ?_)))]));rw[Xq];refine#[F++[g9 #[{r.1 with name:=wd (B/7) n},r.2] q],rs++[#[{r.1 with name:=wd (B/7) n},r.2]],g++G++H,_,_,rfl,rfl,?_,by simp[ln],#[O,P,?_,?_],?_]
   .have kC:iR u.length (u++IX.lst F::(g++G++H)) (u++IX.lst (F++[g9 #[{r.1 with name:=wd (B/7) n},r.2] q])::(g++G++H)):=λj o hj z=>by rw[<-Xq (IX.lst F),hL<|bI hj];show z
    show(w4.Dl kC).snoc Y<|kC _ _ Y gq4
   .intro s L;rw[ZY,Z6]at L;rcases L with L|rfl
    .show D.f s L
    .show#[f.g1,f.g2,f.l1,f.l2,f.d1,f.d2,f.t1,f.t2,f.ok]
   .rw[jv,D.nm,Z7,oO,uw,jv,ln];rfl
   .intro z s L;rw[ZY,Z6]at L;rcases L with L|rfl
    .show h5 z s L
    .show f5<|lZ.mpr 06
  .rintro _ _ ⟨F,rs,g,a,b,rfl,rfl,w,ln,D,h5⟩;rw[JH]at ln;have:=xB.len;show ax<|Jf rfl #[xB.trans<|.cons _ _ _,_,_,F,rs,B/7,C,rfl,this,J1,w,D,Zb (Zi ln) lm,(if l:m<=5 then .inl (Zb (Zi ln) l)else .inr (h5<|yi l))]
 refine jq (bh rfl) (aj<|WR.mono (Qg (h:=h++[IX.lst [IV.int 4,IV.int<|10^15,IV.int<|10^15,IV.int<|10^40]]++[IX.lst []]) (xs:=aX 0 3) (ba:=λ_=>True) (f:=xN<|B/5) ?_ (by rw[JH];show iI _ _) (λ_ _=>trivial) ?_) ?_)
 .rw[Vz];calc Jf (ak rfl) ?_;rw[Xs];show#[01,rfl,rfl,rfl]
 .intro x hx J q;let#[n,hn,rfl]:=ZX.mp hx;rw[Qw,show(0+(n:Int))=(n:Int) by show mK _ _];unfold Kz;calc xb<|Jf (ar (Q2 rfl rfl 01 01) rfl)<|WR.mono (K6 (k:=k+2) (B/5) n) ?_;rintro _ h3 ⟨rfl,x3⟩;show#[by simp[xN],x3]
 .rintro _ _ ⟨rfl,g,rfl⟩;have em:(aX 0 3).map (xN<|B/5)=((ZM 3).map<|wd<|B/5).map IV.str:=by
   refine mI (by rw[Zm,JH,Zm,Zm,nJ];rfl) λi h1 J=>?_
   rw[ZO,Qw,ZO,ZO,rJ];simp[xN]
  rw[em];refine X _ _ ((ZM 3).map<|wd<|B/5) (xA.trans<|.cons _ _ _) J1 (λx hx=>?_) ?_ 03 _
  .let#[j,_,rfl]:=Z9.mp hx;show KZ _ j
  .rw[List.Nodup,uo];calc(yB (n:=3)).imp_of_mem λ{a b} ha Z hne e=>hne ?_;show K0 (by have:=hU.mp ha;show mB 06) (by have:=hU.mp Z;show mB 06) e
end
end
section
variable{k:Nat}{h h1:IH}{U:aI}
def J16(e:o U h=.ok (.ref i) h1)(j:h1[i]?=V (.a8 kvs))(u:dA "dict" m n=V g):WR (Jp P m n o a U h) Q=WR (a U h1) λvs J=>WR (g (.ref i) vs J) Q:=by
 unfold Jp;rw[e];have k:VM (.ref i) h1=Zn:=by simp[VM,j]
 have B:oB (.ref i) h1="dict":=by simp[oB,j]
 dsimp only;rw[k,B,u];dsimp only;rw[if_neg Zx];unfold pJ;rw[e,JD,Xr];have:dI "dict" (.ref i) h1=Zj:=by simp[dI,j]
 rw[if_pos this,JD]
theorem Jq7:dA "dict" "setdefault" 2=V VT:=02
def Jxq(hi:h[i]?=V (.a8 kvs))(e:aJ kvs (.inr x)=V w):WR (VT (.ref i) [.str x,v] h) Q=Q w h:=by unfold VT;simp![hi,dZ,e];rfl
def Jxp(hi:h[i]?=V (.a8 kvs))(e:aJ kvs (.inr x)=Zg)(j:kvs.length<sizeLine):WR (VT (.ref i) [.str x,v] h) Q=Q v (h.set i<|.a8<|kvs++[(.inr x,v)]):=by unfold VT;simp![hi,dZ,e,j];rfl
end
theorem Jub(kvs)(k k')(v):aJ (kvs++[(k,v)]) k'=match aJ kvs k' with|some w=>V w|none=>if k=k' then V v else Zg:=by
 induction kvs with
 |nil=>
  by_cases e:k=k'
  .rw[lK,QZ e,if_pos e];rfl
  .rw[lK,QN e,if_neg e];rfl
 |cons p r j=>
  by_cases e:p.1=k'
  .rw[iY,QZ e,QZ e]
  .rw[iY,QN e,QN e,j]
noncomputable def has (x:Str)(hs:Tw):Bool:=hs.any λa=>decide (a.1=x)
def cD(hss:Wm)(x:Str):Ta:=hss.findIdx?<|has x
def fV(o:Ta):IV:=match o with|some i=>.int (i:Int)|none=>.af
theorem Jr3(hss)(hs)(x):cD (hss++[hs]) x=match cD hss x with|some i=>V i|none=>if has x hs=Zj then V hss.length else Zg:=by
 unfold cD;rw[List.findIdx?_append];cases hss.findIdx? (has x)with|some i=>rfl|none=>
  by_cases e:has x hs=Zj
  .simp
  .simp
def Lb(x)(hs)(a):has x (hs++[a])=(has x hs||decide (a.1=x)):=by simp[has]
section
variable{k:Nat}{h:IH}
section
seal L4.run L4.WS
theorem xO:(([("works",a)]:Wo)).lookup ("size":Str)=Zg:=02
def xP(j:h[D]?=V (.ins "Duty"<|pY vs)):Cu (k+1) [.ref D] h=.ok (.int vs.length) h:=by show Ju<|by rw[Jln];show aq<|ax<|Jf ((eE<|ak<|au rfl j tM).trans rfl) #[rfl,rfl]
def Told(kvs:Wp)(hss:Wm)(n:Nat)(hs:Tw):Prop:=∀x,aJ kvs (.inr x)=match cD hss x with|some i=>V<|.int (i:Int)|none=>if has x hs=Zj then V (.int (n:Int))else Zg
theorem Told.next(t:Told kvs hss n hs)(hn:hss.length=n):Told kvs (hss++[hs]) (n+1) []:=λx=>by
 subst hn;rw[t x,Jr3];cases cD hss x with|some i=>rfl|none=>
  by_cases e:has x hs=Zj
  .simp only[e,if_true]
  .simp only[e];rfl
theorem Told.old(t:Told kvs hss n hs)(e:aJ kvs (.inr a.1)=V w):Told kvs hss n (hs++[a]):=λx=>by
 rw[t x];cases k:cD hss x with|some i=>rfl|none=>
  dsimp only;rw[Lb];by_cases j:a.1=x
  .have:=t x;rw[<-j,e,j,k]at this;by_cases q:has x hs=Zj
   .simp[q]
   .lia
  .simp[j]
theorem Told.new(t:Told kvs hss n hs)(e:aJ kvs (.inr a.1)=Zg):Told (kvs++[(.inr a.1,.int (n:Int))]) hss n (hs++[a]):=λx=>by
 rw[Jub,t x];cases j:cD hss x with|some i=>rfl|none=>
  dsimp only;rw[Lb];by_cases q:has x hs=Zj
  .simp[q]
  .lia
def Lc(J:h[D]?=V (.ins "Duty"<|pY vs))(w:e8 h vs rs)(W:rs.length<=12)(h6:∀r∈rs,r.2.length<=6):
  WR (wZ (k+2) [.ref D] h) λv h'=>∃i B,v=.ref i/\h'[i]?=V (.a8 B)/\(∀x,(aJ B<|.inr x).getD .af=fV (cD (rs.map (·.2)) x))/\Ex h h':=by
 have Z:=J4;have Q:=w.len;rw[Jm6];calc aq<|ae<|aj<|Jf rfl (ae<|lh (n:=vs.length) (dO rfl (grow J) xO (xx _) rfl (xP<|grow J)) (Zb (Zb (Zc (Zi Q) 1)<|Zc W 1)<|Zk _ 999987) ?_);refine Qx (λn U h'=>∃B g a b,h'=h++IX.a8 B::g/\U=[V<|.ref D,V<|.ref h.length,a,b]/\B.length<=6*n/\Told B ((rs.map (·.2)).take n) n []) (λ_ _ _ _=>trivial) ?_ ?_ #[[],[],Zg,Zg,rfl,rfl,03,λx=>by simp[aJ,cD,has]]
 .rintro n hn _ _ ⟨B,g,a,b,rfl,rfl,ln,O⟩;rw[Qw];rw[JH]at hn;have C:n<rs.length:=nD 06 06;have en:(0:Int)+(n:Int)=n:=mK _ _;let#[j,ej,L]:=w.at_ n _ _ (Zd<|hn)<|Zd C;have Y:a7 vs (n:Int)=V (.ref j):=JE<|by rw[Zd 05,ej]
  have G:=h6 _<|Z4 C;have hm:n<(rs.map (·.2)).length:=by rw[Zm];show C
  have X:(rs.map (·.2)).take (n+1)=(rs.map (·.2)).take n++[(rs[n]).2]:=by rw[nG hm,ZO]
  rw[X];generalize rs[n]=r at L G;rw[en];have I:Ex h (h++IX.a8 B::g):=.cons _ _ _;have S:Jp (pg<|k+1) "work" 1 'a' (Jb 'c' Je) [V<|IV.ref D,V<|IV.ref h.length,V<|IV.int (n:Int),b] (h++IX.a8 B::g)=.ok (.ref j) (h++IX.a8 B::g):=by show dO rfl (I.get J) Dc (CS _) (ak rfl) (Dd (I.get J) Y)
  calc gH rfl (eW ?_);rw[JN];calc Jf (dO S (I.get L) xG (xw _) rfl (xH<|I.get L))<|(JR _).mpr #[_,Jo,?_];generalize r.2=E at G;refine Qx (λm U h'=>∃u H,h'=h++IX.a8 u::(g++[IX.lst<|E.map ao])/\U=[V<|.ref D,V<|.ref h.length,V<|.int (n:Int),H]/\u.length<=6*n+m/\Told u ((rs.map (·.2)).take n) n (E.take m)) ?_ ?_ ?_ #[B,b,by rw[iW,iY],rfl,ln,O]
  .rintro _ _ _ ⟨u,H,rfl,_⟩;rw[show h++IX.a8 u::(g++[IX.lst<|E.map ao])=(h++IX.a8 u::g)++[IX.lst<|E.map ao] by rw[iW,iY],
    show(h++IX.a8 B::g).length=(h++IX.a8 u::g).length by simp]
   show Jo
  .rintro m hm _ _ ⟨u,H,rfl,rfl,R,F⟩;have M:m<E.length:=by simpa using hm
   rw[ZO,nG M];generalize E[m]=a at *;calc gH rfl (Ql ?_);rw[J16 (i:=h.length) (h1:=h++IX.a8 u::(g++[IX.lst<|E.map ao])) rfl J1 Jq7];calc Jf (ar (ai rfl rfl JU) rfl) ?_;cases ev:aJ u (.inr a.1)with|some w'=>rw[Jxq J1 ev];show#[u,_,rfl,rfl,oK 06,F.old ev]|none=>rw[Jxp J1 ev 05,Xq];show#[_,_,rfl,rfl,by rw[Z7,oO];show lG 06,F.new ev]
  .rintro _ _ ⟨u,H,rfl,rfl,R,F⟩;rw[Zm]at R F;rw[mC<|Zl _]at F;have P:((rs.map (·.2)).take n).length=n:=by rw[e9];show ZQ (gL _ _)<|qm.mpr #[(Zl _),(Z3 hm)]
   show#[u,_,_,_,rfl,rfl,05,F.next P]
 .rintro _ _ ⟨B,g,a,b,rfl,rfl,ln,O⟩;calc ax<|Jf rfl #[_,B,rfl,J1,λx=>?_,.cons _ _ _];have:=O x;rw[JH,mC<|by rw[Zm];show Zi Q.symm]at this;rw[this];cases cD (rs.map (·.2)) x with|some i=>rfl|none=>simp[has,fV]
end
def Ld(kvs)(k k')(v):aJ (putD kvs k v) k'=if k=k' then V v else aJ kvs k':=by
 unfold putD;have j:∀l:Wp,(l.any λC=>decide (C.1=k))=(aJ l k).isSome:=by
  intro l;induction l with|nil=>rfl|cons p r B=>
   rw[lL,B];by_cases e:p.1=k
   .rw[QZ e];simp[e]
   .rw[QN e];simp[e]
 split
 .rename_i ha;have u:∀l:Wp,aJ (l.map λC=>if C.1=k then(C.1,v)else C) k'=if k=k' then(if (aJ l k).isSome then V v else Zg)else aJ l k':=by
   intro l;induction l with|nil=>by_cases e:k=k'<;>simp[aJ]|cons p r B=>
    rw[ZN];by_cases e:p.1=k
    .rw[if_pos e];by_cases m:k=k'
     .rw[QZ (by rw[<-m];show e),if_pos m,QZ e];rfl
     .rw[QN (by rw[e];show m),B,if_neg m,if_neg m,QN<|by rw[e];show m]
    .rw[if_neg e];by_cases m:p.1=k'
     .have:¬k=k':=λz=>e<|m.trans z.symm
      rw[QZ m,if_neg this,QZ m]
     .rw[QN m,B,QN e,QN m]
  rw[u,<-j,ha];simp
 .rename_i ha;have hn:aJ kvs k=Zg:=by have:=j kvs;cases q:aJ kvs k with|none=>rfl|some z=>rw[q]at this;show absurd this ha
  have u:∀l:Wp,aJ (l++[(k,v)]) k'=match aJ l k' with|some w=>V w|none=>if k=k' then V v else Zg:=by
   intro l;induction l with
   |nil=>
    by_cases e:k=k'
    .rw[lK,QZ e,if_pos e];rfl
    .rw[lK,QN e,if_neg e];rfl
   |cons p r B=>
    by_cases e:p.1=k'
    .rw[iY,QZ e,QZ e]
    .rw[iY,QN e,QN e,B]
  rw[u];by_cases e:k=k'
  .subst e;rw[hn,if_pos rfl]
  .rw[if_neg e,if_neg e];cases aJ kvs k'<;>rfl
def Le(hi:h[i]?=V (.a8 kvs)):WR (gy (.int x) (.ref i) h) Q=Q (.bl (aJ kvs<|.inl x).isSome) h:=by unfold gy;simp![hi];rfl
def Lf(hi:h[i]?=V (.a8 kvs))(e:aJ kvs (.inl x)=V v):WR (Vj (.ref i) (.int x) h) Q=Q v h:=by unfold Vj;simp![hi,dZ,e];rfl
def Lg(o i)(v):WS (iy o i v U h) N R=WR (o U h) λj h1=>WR (i U h1) λk J=>WS (YI j k v U J) N R:=by unfold iy;rw[V0];congr 1;funext j h1;rw[V0]
def Lh(hi:h[i]?=V (.a8 kvs))(j:kvs.length<sizeLine):WS (YI (.ref i) (.int x) v U h) N R=N U (h.set i<|.a8<|putD kvs (.inl x) v):=by unfold YI;simp![hi,j];rfl
end
section
seal L4.run
theorem Dm:a7 (x::y::z::u::v::w::xs) 5=V w:=JE rfl
structure Cm where
 at_:Nat
 cj:Int
 ag:Int
 len:Int
abbrev _root_.Tz:=List Cm
noncomputable abbrev aB (c:Cm):IV:=.tup [.int c.at_,.int c.cj,.int c.ag,.int c.len]
structure Dp(rs:Tx)(c:Cm):Prop where
 at_:c.at_<rs.length
 cj:0<=c.cj
 l0:0<=c.ag
 l1:c.ag<=(rs[c.at_]).1.ag
 n1:1<=c.len
 n2:c.len<=(rs[c.at_]).1.len
structure fW(rs:Tx)(cs:Tz):Prop where
 ok:∀c∈cs,Dp rs c
 tR:∀(i j:Nat)(a b:Cm),i<j->cs[i]?=V a->cs[j]?=V b->a.at_=b.at_->∀r,rs[a.at_]?=V r->a.cj+r.1.gap<=b.cj
def xQ(k:Kp h h'):Ex h h':=by
 calc#[h'.drop h.length,rL λi=>?_];by_cases j:i<h.length
 .rw[ZV j,Zd j];show k i _<|Zd j
 .rw[ZU<|ZI j,List.getElem?_drop];congr 1;show ZQ (Zi (lE<|ZI j).symm)<|iT (ZI j)<|Zl _
section
variable{k:Nat}{h:IH}
def J2e(hi:h[i]?=V (.lst<|ms.map .int))(hm:ms≠[]):WR (Vh (.ref i) h) Q=Q (.int<|JM (λi=>ms.getD i 0) ms.length) h:=by unfold Vh;simp![hi,Vf,hm];rfl
end
end
def Li(q:cE x):l4 (.str x)=Zj:=by rw[l4];unfold PyData.strOk;rw[<-Array.all_toList,mG];intro c j;have:=q.2.2 c j;lia
def dS(v:IV):kD:=match v with|.str x=>.str x|_=>.none
section
variable{k:Nat}{h:IH}
def J0g{zs:Tj}(hi:h[i]?=V (.lst<|zs.map .str))(k:∀z∈zs,cE z)(D:cE x):ot (.str x) (.ref i) h=.ok (.bl<|zs.any λa=>decide (a=x)) h:=by
 have u:toD h 6 (.ref i)=V (.list<|(zs.map IV.str).map dS):=by
  rw[xJ hi,xK (g:=dS) λv j=>?_]
  .rfl
  .let#[z,_,rfl]:=Z9.mp j;rfl
 have E:toD h 6 (.str x)=V (.str x):=rfl;have m:jP ((zs.map IV.str).map dS)=Zj:=Dh λv j=>by let#[z,q,rfl]:=Z9.mp j;show Li<|k z q
 have C:mY (.str x) (.ref i) h=V (zs.any λa=>decide (a=x)):=by unfold mY;rw[u,E];dsimp only;rw[if_pos #[m,Li D]];clear m u hi k;congr 1;induction zs with|nil=>rfl|cons z zs B=>rw[ZN,ZN,lL,lL,B];rfl
 unfold ot;rw[C]
end
noncomputable def nv (d:Int)(a:Hd):Bool:=decide (a.2.1<d)&&decide (d<a.2.2)
def act(hs:Tw)(d:Int):Tj:=(hs.filter<|nv d).map (·.1)
noncomputable def xR (d:Int)(v:IV):Bool:=match v with|.tup [.str _,.int s,.int e]=>decide (s<d)&&decide (d<e)|_=>Zn
noncomputable def dQ (v:IV):IV:=match v with|.tup (x::_)=>x|_=>.af
theorem Lj(d):∀hs:Tw,((hs.map ao).filter<|xR d).map dQ=(act hs d).map IV.str
 |[]=>rfl
 |a::hs=>by
  have k:=Lj d hs;unfold act at *;rw[ZN];by_cases q:nv d a=Zj
  .have j:xR d (ao a)=Zj:=q;rw[Ed j,Ed q,ZN,ZN,ZN,k];rfl
  .have j:¬xR d (ao a)=Zj:=q;rw[Ee j,Ee q,k]
def Jy9(hs)(d):(act hs d).length<=hs.length:=by unfold act;rw[Zm];show nH ..
def Jza(h:x∈act hs d):∃a∈hs,a.1=x:=by let#[a,ha,rfl]:=Z9.mp h;show#[a,(j9.mp ha).1,rfl]
theorem Yn(f):∀(n j:Nat),j<n->QJ f n<=f j
 |0,j,h=>absurd 06<|oM _
 |1,j,h=>by
  have:j=0:=by show qg 06
  subst this;show ZJ _
 |n+2,j,h=>by
  rw[AA f ((fX _):0<n+1)];by_cases e:j=n+1
  .lia
  .have:=Yn f (n+1) j<|iH (yh h) e;split<;>(first|show ZE (ZG 06) 06|assumption|lia)
theorem Dq(f):∀(n:Nat),0<n->∃j,j<n/\QJ f n=f j
 |0,h=>absurd 06<|iU _
 |1,_=>#[0,06,rfl]
 |n+2,_=>by
  rw[AA f ((fX _):0<n+1)];let#[j,k,e]:=Dq f (n+1)<|fX _;split
  .lia
  .show#[j,fP 06,e]
def fZ(hss:Wm)(x:Str):Int:=match cD hss x with
 |some j=>(j:Int)
 |none=>0
def cX(hss:Wm)(zs:Tj)(a:Nat):To:=(a:Int)::zs.map (fZ hss)
def rk(hss:Wm)(zs:Tj)(a:Nat):Int:=QJ (λi=>(cX hss zs a).getD i 0) (cX hss zs a).length
def p6(hss:Wm)(v:IV):IV:=match v with|.str t=>.int<|fZ hss t|_=>.af
noncomputable def k4 (v:IV):aI:=match v with|.tup [x,y,z]=>[V x,V y,V z]|_=>[Zg,Zg,Zg]
section
variable{k:Nat}{h:IH}
def Lk(hi:h[i]?=V (.lst<|ns.map .int))(hn:ns≠[]):WR (VP (.ref i) h) Q=Q (.int<|QJ (λi=>ns.getD i 0) ns.length) h:=by unfold VP;simp![hi,Vf];rw[if_neg hn];rfl
def Ll(hi:h[i]?=V (.a8 kvs))(e:aJ kvs (.inr x)=V v):WR (Vj (.ref i) (.str x) h) Q=Q v h:=by unfold Vj;simp![hi,dZ,e];rfl
def Ds(m:a U h=.ok (.int i) h)(k:b U h=.ok (.int j) h)(u:c U h=.ok (.int l) h):JK gi gi a b c U h=.ok (.bl<|decide (i<j)&&decide (j<l)) h:=by unfold JK;rw[m];dsimp only[Res.bind];rw[k];change(match IV.bl (decide (i<j))with|.bl Zj=>_|.bl Zn=>_|_=>_)=_;cases decide (i<j)with|false=>rfl|true=>change(c U h).bind _=_;rw[u];rfl
section
seal L4.run L4.WS
def Lm(m:h[w]?=V (.ins "Work"<|gZ name gap len bK ag<|hs.map ao))(l6:hs.length<=6):WR (w0 (k+2) [.ref w,.int d] h) λv h'=>∃i,v=.ref i/\h.length<=i/\h'[i]?=V (.lst<|(act hs d).map .str)/\Ex h h':=by
 have Z:=J4;rw[Jhs];refine aq (ax<|WR.mono (YS (h:=h++[IX.lst<|hs.map ao]) (xs:=hs.map ao) (ba:=λh'=>h'[h.length]?=V (.lst<|hs.map ao)) (p:=xR d) (f:=dQ) ?_ (by rw[Zm];show Zb (Zk _ 999994)<|Zb (Zc (Zc l6 1) 999994) Z) (λJ q=>q _ _ Jo) ?_ ?_) ?_)
 .rw[JN];show Jf (dO rfl m xG (xw _) rfl (xH m))<|(JR _).mpr #[_,Jo,rfl,rfl,rfl]
 .intro v j J q;let#[a,_,rfl]:=Z9.mp j;show Jf (br<|Ds (ai rfl rfl JI) rfl (ai rfl rfl Qj)) #[rfl,.refl _]
 .intro v j _ J q;let#[a,_,rfl]:=Z9.mp j;show Jf (ai rfl rfl JU) #[rfl,.refl _]
 .rintro _ _ ⟨rfl,g,rfl⟩;rw[Lj];show#[_,rfl,by rw[Z7];show fY _,J1,(Ex.one _ _).trans<|.cons _ _ _]
end
section
seal L4.run L4.WS
def Js5{a i t:Nat}(B:h[i]?=V (.lst<|zs.map .str))(gt:h[t]?=V (.a8 kvs))(tv:∀x,(aJ kvs<|.inr x).getD .af=fV (cD hss x))(G:∀z∈zs,cD hss z≠Zg)(D:zs.length<=6):WR (B9 (k+1) [.int (a:Int),.ref i,.ref t] h) λv h'=>v=.int (rk hss zs a)/\Ex h h':=by
 have Z:=J4;have m:Ex h (h++[IX.lst [IV.int (a:Int)]]):=.one _ _;let#[_,_,E,rfl,g,rfl]:=(Qg (it:=Jw 'b') (e:=Ki k) (js:=[2]) (U:=[V<|.int (a:Int),V<|.ref i,V<|.ref t]) (h0:=h++[IX.lst [IV.int (a:Int)]]) (h:=h++[IX.lst [IV.int (a:Int)]]) (xs:=zs.map IV.str) (ba:=λh'=>h'[i]?=V (.lst<|zs.map IV.str)) (f:=p6 hss) (by rw[JN];show Jf rfl ((JR _).mpr #[_,m.get B,rfl,rfl,rfl])) (by rw[Zm];show Zb (Zk _ 999994)<|Zb (Zc (Zc D 1) 999994) Z) (λI q=>q _ _<|m.get B) (by
  intro v H I q;let#[x,J,rfl]:=Z9.mp H;have j:=tv x;have ne:=G x J;cases u:cD hss x with|none=>show absurd u ne|some C=>
   rw[u]at j;have L:aJ kvs (.inr x)=V (.int (C:Int)):=by cases ev:aJ kvs (.inr x)with|none=>rw[ev]at j;cases j|some v=>rw[ev]at j;rw[show v=.int (C:Int)from j]
   show Jf ((aG rfl rfl).trans<|Ju<|by rw[Ll (q _ _<|m.get gt) L];show#[rfl,rfl]) #[by simp![p6,fZ,u],.refl _])).eq
 rw[show(zs.map IV.str).map (p6 hss)=(zs.map<|fZ hss).map IV.int by rw[eO,eO];rfl]at E;have F:Ex (h++[IX.lst [IV.int (a:Int)]]) (h++[IX.lst [IV.int (a:Int)]]++IX.lst ((zs.map<|fZ hss).map IV.int)::g):=.cons _ _ _;rw[Jr6];calc aq<|ax ?_;rw[Hh];calc Jf (ak<|(aG (cO (ak rfl) rfl) E).trans<|Ju<|(wJ ..).mpr #[_,F.get Jo,_,J1,by rw[Zm,Zm];change 1+_<=_;(rw[nE];show Zb (Zk _ 999994)<|Zb (Zc (Zc D 1) 999994) Z),rfl,rfl]) ?_;change WR (VP (.ref _) _) _;rw[show[IV.int (a:Int)]++(zs.map<|fZ hss).map IV.int=(cX hss zs a).map IV.int from rfl,Lk (ns:=cX hss zs a) Jo<|by simp[cX]];show#[rfl,(m.trans F).trans<|.one _ _]
theorem Jy8{rs:Tx}(ha:a<rs.length):∀z∈act (rs[a]).2 d,cD (rs.map (·.2)) z≠Zg:=λz q=>by let#[b,j,rfl]:=Jza q;intro e;unfold cD at e;rw[uj]at e;have:=e (rs[a]).2 (Z9.mpr #[rs[a],Z4 ha,rfl]);unfold has at this;have t2:((rs[a]).2.any λx=>decide (x.1=b.1))=Zj:=mH.mpr #[b,j,03];rw[t2]at this;cases this
abbrev kq(D T:Nat):Wo:=[("duty",.ref D),("tops",.ref T)]
abbrev j7(D:Nat):Wo:=[("duty",.ref D)]
theorem op0:bz "duty" a ([]:Wo)=([("duty",a)]:Wo):=02
theorem op1:bz "tops" b ([("duty",a)]:Wo)=([("duty",a),("tops",b)]:Wo):=02
theorem Dv{D T:Nat}:(kq D T).lookup ("duty":Str)=V (.ref D):=02
theorem ol1{D T:Nat}:(kq D T).lookup ("tops":Str)=V (.ref T):=02
theorem olr{D T:Nat}:(kq D T).lookup ("rank_of":Str)=Zg:=02
theorem olh{D T:Nat}:(kq D T).lookup ("holds":Str)=Zg:=02
def d4(h:IH)(kind:Int)(bD:Nat)(rs:Tx):Prop:=∃D,bX h D rs/\∃T kvs,h[bD]?=V (.ins "ByRank"<|kq D T)/\h[T]?=V (.a8 kvs)/\∀x,(aJ kvs<|.inr x).getD .af=fV (cD (rs.map (·.2)) x)
def d4.kp(k:Kp h h')(o:d4 h kind bD rs):d4 h' kind bD rs:=by let#[D,d,T,j,b,c,e]:=o;show#[D,d.kp k,T,j,k _ _ b,k _ _ c,e]
def Jp8(j:h[bD]?=V (.ins c [])):Cf (k+1) [.ref bD,.ref D] h=.ok .af (h.set bD<|.ins c<|j7 D):=by calc Ju ?_;rw[Jjm];calc aq<|Qs rfl rfl j 01 ?_;rw[op0];show#[rfl,rfl]
def Jtk(d:bX h D rs)(H:rs.length<=12)(L:∀r∈rs,r.2.length<=6):WR (Yc (k+4) [.ref h.length,.ref D]<|h++[.ins "ByRank" []]) λv h'=>v=.af/\Ex h h'/\d4 h' 0 h.length rs:=by
 have M:Ex h (h++[IX.ins "ByRank"<|j7 D]):=.one _ _;have d1:=d.kp M.kp;let#[O,E,w]:=id d1;let#[_,_,G,t,u,rfl,m,J,g,rfl]:=(Lc (k:=k+1) E w H L).eq;have B:=Jp8 (k:=k+2) (h:=h++[.ins "ByRank" []]) (D:=D) Jo;rw[VS]at B;rw[Jhm];calc aq (ae<|Ql<|Jf (Jx (ar rfl rfl) B)<|Qs (Jx (ak rfl) G) rfl (grow Jo) (by change(1:Nat)<1000;decide) ?_);rw[op1];have e:(h++[IX.ins "ByRank"<|j7 D]++g).set h.length (.ins "ByRank"<|kq D t)=h++.ins "ByRank" (kq D t)::g:=by rw[iW,iY,lK,Xq]
 rw[e];have I:iR h.length (h++[IX.ins "ByRank"<|j7 D]++g) (h++IX.ins "ByRank" (kq D t)::g):=λj o C z=>by rw[<-e,hL<|bI C];show z
 have F:t≠h.length:=λz=>by rw[z]at m;have:(h++[IX.ins "ByRank"<|j7 D]++g)[h.length]?=V (.ins "ByRank"<|j7 D):=grow Jo;rw[this]at m;cases m
 show#[rfl,.cons _ _ _,D,d.kp (Ex.cons _ _ _).kp,t,u,J1,I _ _ F m,J]
end
end
section
seal L4.run L4.WS
section
variable{k:Nat}{h:IH}
def ll(k:a U h=.ok x h1)(j:b U h1=.ok xs J):Jb a b U h=.ok (x::xs) J:=by change(a U h).bind (λx h1=>(b U h1).bind λxs J=>.ok (x::xs) J)=_;rw[k];change(b U h1).bind _=_;rw[j];rfl
theorem lu(m:h[D]?=V (.ins "Duty"<|pY vs))(C:o U h=.ok (.ref D) h)(u:e U h=.ok (.int n) h)(B:a7 vs n=V (.ref j)):Jp (pg<|k+1) "work" 1 o (Jb e Je) U h=.ok (.ref j) h:=dO C m Dc (CS _) (ak u)<|Dd m B
def Jra{bD D T:Nat}(hd:bX h D rs)(gO:h[bD]?=V (.ins "ByRank"<|kq D T))(G:h[T]?=V (.a8 kvs))(tv:∀x,(aJ kvs<|.inr x).getD .af=fV (cD (rs.map (·.2)) x))(ha:c.at_<rs.length)(l6:∀r∈rs,r.2.length<=6):WR (Ci (k+3) [.ref bD,aB c,.int d] h) λv h'=>v=.int (rk (rs.map (·.2)) (act (rs[c.at_]).2 d) c.at_)/\Ex h h':=by let#[M,C,w]:=hd;let#[j,I,B]:=w.get<|Zd ha;have F:a7 M (c.at_:Int)=V (.ref j):=JE I;have u:=Jy8 ha (d:=d);have l:=l6 _<|Z4 ha;generalize rs[c.at_]=r at B u l;rw[Jed];calc aq<|ax<|xb<|xb ?_;calc Jf (ai rfl rfl JU)<|xb<|xb<|xb<|Jf (ar (lu C (au rfl gO Dv) (ai rfl rfl JU) F) rfl)<|WR.mono (Lm (k:=k) B l) ?_;rintro _ P ⟨i,rfl,O,L,m⟩;have H:=Jy9 r.2 d;calc xb<|Jf (ak<|au rfl (m.get gO) ol1)<|Jf rfl (Jf rfl (WR.mono (Js5 (k:=k+1) L (m.get G) tv u<|Zb H l) ?_));rintro _ J ⟨rfl,E⟩;show#[rfl,m.trans E]
def Jky{bD D T:Nat}(hd:bX h D rs)(gO:h[bD]?=V (.ins "ByRank"<|kq D T))(ha:c.at_<rs.length)(l6:∀r∈rs,r.2.length<=6):WR (Cj (k+3) [.ref bD,aB c,.int d] h) λv h'=>v=.bl (!(act (rs[c.at_]).2 d).isEmpty)/\Ex h h':=by let#[J,B,w]:=hd;let#[j,E,m]:=w.get<|Zd ha;have C:=JE E;have l:=l6 _<|Z4 ha;generalize rs[c.at_]=r at m l;rw[Jgp];let#[_,I,F,i,rfl,H,u,G]:=(Lm m l).eq;calc aq<|ax<|Jf ((aG (dh (Jx (ar (lu B (au rfl gO Dv) (ai rfl rfl JU) C) rfl) F) u) rfl).trans rfl) #[?_,G];rw[Zm];cases act r.2 d<;>simp
def Yj(kind:Int)(rs:Tx)(c:Cm)(d:Int):Int:=rk (rs.map (·.2)) (act (rs.getD c.at_ rd).2 d) c.at_
def Xw(kind:Int)(rs:Tx)(c:Cm)(d:Int):Bool:=!(act (rs.getD c.at_ rd).2 d).isEmpty
def Qp{rs:Tx}(hn:n<rs.length):rs.getD n rd=rs[n]:=by simp_all
def Ln(o:d4 h kind bD rs):∃j,bX h j rs/\∀(e:E1) (U:aI),e U h=.ok (.ref bD) h->Jq "duty" e U h=.ok (.ref j) h:=by let#[D,hd,T,k,gO,_]:=o;show#[D,hd,λe U m=>au m gO Dv]
def Jpd(o:d4 h kind bD rs)(ho:oe U h=.ok (.ref bD) h)(h1:e1 U h=.ok (aB c) h)(J:e2 U h=.ok (.int d) h)(ha:c.at_<rs.length)(l6:∀r∈rs,r.2.length<=6):WR (Jp (pg<|k+3) "rank_of" 2 oe (Jb e1<|Jb e2 Je) U h) λv h'=>v=.int (Yj kind rs c d)/\Ex h h':=by let#[D,hd,T,m,gO,j,B]:=o;calc VZ ho gO olr (Jec _)<|Jf (ar h1 J)<|WR.mono (Jra (k:=k) hd gO j B ha l6) ?_;rintro _ C ⟨rfl,u⟩;show#[by rw[Yj,Qp ha],u]
def Jmq(o:d4 h kind bD rs)(ho:oe U h=.ok (.ref bD) h)(h1:e1 U h=.ok (aB c) h)(J:e2 U h=.ok (.int d) h)(ha:c.at_<rs.length)(l6:∀r∈rs,r.2.length<=6):WR (Jp (pg<|k+3) "holds" 2 oe (Jb e1<|Jb e2 Je) U h) λv h'=>v=.bl (Xw kind rs c d)/\Ex h h':=by let#[D,hd,T,j,gO,u,C]:=o;calc VZ ho gO olh (Jgk _)<|Jf (ar h1 J)<|WR.mono (Jky (k:=k) hd gO ha l6) ?_;rintro _ B ⟨rfl,m⟩;show#[by rw[Xw,Qp ha],m]
end
end
def cd:Cm:=#[0,0,0,0]
def cY(kind:Int)(rs:Tx)(cs:Tz)(ds:To)(n:Nat):To:=[Yj kind rs (cs.getD n cd)<|ds.getD n 0,if Xw kind rs (cs.getD n cd) (ds.getD n 0)=Zj then 0 else 1,(n:Int)]
def p7(kind:Int)(rs:Tx)(cs:Tz)(ds:To)(v:IV):To:=match v with|.int x=>cY kind rs cs ds x.toNat|_=>[0,0,0]
theorem Lo:∀{a b:To},a.length=b.length->c5 a b=Zn->c5 b a=Zn->a=b
 |[],[],_,_,_=>rfl
 |a::as,b::bs,l,h1,J=>by
  unfold c5 at h1 J;by_cases e:a=b
  .subst e;rw[if_pos rfl]at h1 J;rw[Lo (by simpa using l) h1 J]
  .lia
 |[],_::_,l,_,_=>by simp at l
 |_::_,[],l,_,_=>by simp at l
section
variable{k:Nat}{h:IH}
def J15(m:xs≠[])(j:ys≠[])(k:xs.length+ys.length<=sizeLine):WR (Jr (.tup xs) (.tup ys) h) Q=Q (.tup<|xs++ys) h:=by unfold Jr;dsimp only;rw[if_pos #[m,j,k]];rfl
theorem ols{D T:Nat}:(kq D T).lookup ("standing":Str)=Zg:=02
theorem olp{D T:Nat}:(kq D T).lookup ("pick":Str)=Zg:=02
abbrev Dw(kind:Int)(rs:Tx)(c:Cm)(d:Int):IV:=.tup [.int<|Yj kind rs c d,.int (if Xw kind rs c d=Zj then 0 else 1)]
section
seal L4.run L4.WS
def Jnr(o:d4 h kind bD rs)(ha:c.at_<rs.length)(l6:∀r∈rs,r.2.length<=6):WR (Cg (k+4) [.ref bD,aB c,.int d] h) λv h'=>v=Dw kind rs c d/\Ex h h':=by have Z:=J4;rw[Jee];calc aq<|ax<|nq<|xb<|WR.mono (Jpd (k:=k) (c:=c) (d:=d) o rfl rfl rfl ha l6) ?_;rintro _ u ⟨rfl,j⟩;calc xb<|xb<|jn<|xb<|WR.mono (Jmq (k:=k) (c:=c) (d:=d) (o.kp j.kp) rfl rfl rfl ha l6) ?_;rintro _ J ⟨rfl,m⟩;have x:=j.trans m;unfold Dw;have l2:(2:Nat)<=sizeLine:=iI _ _;cases Xw kind rs c d with|true=>show#[λ_=>#[l2,rfl,x],λz=>by cases z]|false=>show#[(λz=>by cases z),λ_=>#[l2,rfl,x]]
def Jg5(o:d4 h kind bD rs)(ho:oe U h=.ok (.ref bD) h)(h1:e1 U h=.ok (aB c) h)(J:e2 U h=.ok (.int d) h)(ha:c.at_<rs.length)(l6:∀r∈rs,r.2.length<=6):WR (Jp (pg<|k+4) "standing" 2 oe (Jb e1<|Jb e2 Je) U h) λv h'=>v=Dw kind rs c d/\Ex h h':=by have m:=Jnr (k:=k) (d:=d) o ha l6;let#[D,hd,T,j,gO,u,B]:=o;show VZ ho gO ols (Jdt _)<|Jf (ar h1 J) m
def J08{cs:Tz}(h0:h[0]?=V (.tab "Order.pick"))(o:d4 h kind bD rs)(l6:∀r∈rs,r.2.length<=6)(G:∀c∈cs,c.at_<rs.length)
  (I:h[R]?=V (.lst<|cs.map aB))(H:h[W]?=V (.lst (ps.map λp:Nat=>.int p)))(gN:h[N]?=V (.lst<|ds.map .int))(ld:ds.length=cs.length)(ne:ps≠[])(hp:∀p∈ps,p<cs.length):
  WR (xh (k+5) [.ref bD,.ref R,.ref W,.ref N] h) λv h'=>∃p∈ps,v=.int (p:Int)/\(∀p'∈ps,c5 (cY kind rs cs ds p') (cY kind rs cs ds p)=Zn)/\Ex h h':=by
 have Z:=J4;rw[Jjn];calc aq<|ax ?_;rw[J2f h0 rfl];refine WR.mono (Jul (kf:=p7 kind rs cs ds) (n:=3) H (by simpa using ne) ?_ ?_) ?_
 .intro y B M u;let#[p,j,rfl]:=Z9.mp B;have lp:=hp p j;have D:a7 (cs.map aB) (p:Int)=V (aB cs[p]):=JE<|by rw[ZK,Zd lp];rfl
  have C:a7 (ds.map IV.int) (p:Int)=V (.int<|ds[p]'(Zb lp<|Zi ld.symm)):=JE<|by rw[ZK,Zd];rfl
  have L:p7 kind rs cs ds (.int (p:Int))=[Yj kind rs cs[p]<|ds[p]'(Zb lp<|Zi ld.symm),if Xw kind rs cs[p] (ds[p]'(Zb lp<|Zi ld.symm))=Zj then 0 else 1,(p:Int)]:=by change cY kind rs cs ds (uV (p:Int))=_;rw[lX];unfold cY;rw[Zq,Zq,Zd lp,Zd<|show p<ds.length by show Zb lp<|Zi ld.symm];rfl
  have m:=G _<|Z4 lp;rw[L];generalize cs[p]=c at D m;generalize ds[p]'(Zb lp<|Zi ld.symm)=d at C;calc xb<|WR.mono (Jg5 (k:=k) (o.kp u.kp) rfl (aT rfl rfl (u.get I) D) (aT rfl rfl (u.get gN) C) m l6) ?_;rintro _ J ⟨rfl,F⟩;calc xb<|Jf (iC (ak rfl) rfl) ?_;rw[J15 03 03<|by simp;show iI _ _];show#[rfl,F]
 .intro y B;let#[p,j,rfl]:=Z9.mp B;rfl
 .rintro v M ⟨E,le,u⟩;let#[p,j,rfl]:=Z9.mp E;calc#[p,j,rfl,λp' q=>?_,u];have:=le _<|Z9.mpr #[p',q,rfl];simpa only[p7,lX]using this
def Jpc(o:d4 h kind bD rs)(ho:oe U h=.ok (.ref bD) h)(h1:a U h=.ok [v1,v2,v3] h)(q:WR (xh k [.ref bD,v1,v2,v3] h) P):
  WR (Jp (pg k) "pick" 3 oe a U h) P:=by
 let#[D,hd,T,j,gO,m,u]:=o;show VZ ho gO olp (Jhi _)<|Jf h1 q
end
end
section
seal L4.run L4.WS
noncomputable def jt (c:Cm):Int:=c.cj+c.ag
def xS(rs:Tx)(c:Cm):Int:=c.cj+(rs.getD c.at_ rd).1.bK
section
variable{k:Nat}{h:IH}
def xT(m:a U h=.ok (.int i) h1)(k:b U h1=.ok (.int j) J)(u:c U J=.ok (.int l) h3)(t1:i<=j)(t2:j<=l):JK c7 c7 a b c U h=.ok (.bl Zj) h3:=by unfold JK;rw[m];dsimp only[Res.bind];rw[k];change(match IV.bl (decide (i<=j))with|.bl Zj=>_|.bl Zn=>_|_=>_)=_;rw[decide_eq_true t1];rw[u];change Res.ok (IV.bl<|decide (j<=l)) h3=_;rw[decide_eq_true t2]
def Jvw(hd:bX h D rs)(ok:Dp rs c):WR (BS (k+3) [.ref D,aB c] h) λv h'=>v=.bl Zj/\Ex h h':=by
 have Z:=J4;let#[R,G,w]:=hd;have P:=w.len;let#[a,b,c,d]:=c;let#[q1,H,L,u,O,B]:=ok;have q1:a<rs.length:=q1;let#[j,ev,E]:=w.get<|Zd q1;have I:=JE ev;have u:c<=(rs[a]).1.ag:=u;have B:d<=(rs[a]).1.len:=B;generalize rs[a]=r at E u B;rw[Jlu];calc aq<|ae<|aL rfl (aE<|ae ?_);let#[_,_,M,rfl,g,rfl]:=(Qg (it:=Jw 'b') (e:=CI<|k+2) (js:=[]) (U:=[V<|.ref D,V<|aB #[a,b,c,d],Zg]) (h0:=h) (h:=h) (xs:=[IV.int (a:Int),IV.int b,IV.int c,IV.int d]) (ba:=λ_=>True) (f:=λ_=>.bl Zj) #[rfl,rfl,rfl] (by simp;show iI _ _) (λ_ _=>trivial) (by
  intro v F J q;obtain⟨i,rfl⟩:∃i,v=.int i:=by simp![ZC,fu,or_false]at F;rcases F with rfl|rfl|rfl|rfl<;>show#[_,rfl]
  unfold CI;show Jf (Jx (ak rfl)<|KN _) #[rfl,.refl _])).eq
 calc aL (bF (c:=Zj)<|bh<|(eE<|ak M).trans<|all_map (f:=λ_=>Zj) J1)<|aE ?_;have m:Ex h (h++IX.lst ([IV.int (a:Int),IV.int b,IV.int c,IV.int d].map λ_=>.bl Zj)::g):=.cons _ _ _;generalize h++IX.lst ([IV.int (a:Int),IV.int b,IV.int c,IV.int d].map λ_=>.bl Zj)::g=Q at m;have C:=m.get G;calc ae (aL (iS (bF<|br<|CZ rfl (ai rfl rfl JU) (dO rfl C xO (xx _) rfl (xP C)) (iL a) (by rw[P];show lZ.mpr 06))<|dq (ki (ai rfl rfl JI) rfl)<|decide_eq_false<|cT.mpr H)<|aE<|ae<|aj<|Jf (lu C rfl (ai rfl rfl JU) I) ?_);show ax<|Jf (X8 (xT rfl (ai rfl rfl Qj) (au rfl (m.get E) kn) L u)<|xT rfl (ai rfl rfl Xb) (au rfl (m.get E) oy) O B) #[rfl,m]
def Jzx(hd:bX h D rs)(S:h[R]?=V (.lst<|cs.map aB))(L:fW rs cs)(hl:cs.length<=1000):
  WR (BU (k+4) [.ref D,.ref R] h) λv h'=>v=.af/\Ex h h':=by
 have Z:=J4;let#[vs,hD,w]:=id hd;rw[Jhn];calc aq<|ae<|aj<|Jf rfl (ae<|eW ?_);rw[Vz];calc Jf (ak rfl)<|(Hl _).mpr #[_,grow S,?_];refine Qx (λn U h'=>∃m g a b c,h'=h++IX.a8 m::g/\U=[V<|.ref D,V<|.ref R,V<|.ref h.length,a,b,c]/\m.length<=n/\∀(a:Nat) v,aJ m (.inl (a:Int))=V v->∃i c,i<n/\cs[i]?=V c/\c.at_=a/\v=.int c.cj) ?_ ?_ ?_ #[[],[],Zg,Zg,Zg,rfl,rfl,Zl _,λa v e=>by cases e]
 .rintro _ _ _ ⟨m,g,a,b,c,rfl,_⟩;show grow S
 .rintro n hn _ _ ⟨m,g,a,b,c,rfl,rfl,ln,W⟩;rw[Hm];have G:n<cs.length:=by simpa[Xf]using hn
  have x1:Ex h (h++IX.a8 m::g):=.cons _ _ _;rw[ZO];have M:cs[n]?=V cs[n]:=Zd G;have ok:=L.ok _<|Z4 G;generalize cs[n]=B at M ok;let#[_,_,e2,rfl,g2,rfl]:=(Jvw (k:=k) (c:=B) (hd.kp x1.kp) ok).eq;calc gH rfl (ae<|aL (bF<|bh<|Jx (ar rfl rfl) e2)<|aE<|ae<|aj<|Jf (ai rfl rfl JU)<|ae ?_);have eh:h++IX.a8 m::g++g2=h++IX.a8 m::(g++g2):=by rw[iW,iY]
  rw[eh];have X:Ex h (h++IX.a8 m::(g++g2)):=.cons _ _ _;have H:=ok.at_;have F:=Zd H;let#[j,ev,O]:=w.get F;have av:=JE ev;generalize rs[B.at_]=r at F O;have fin:∀{U:aI}(a b c),U=[V<|.ref D,V<|.ref R,V<|.ref h.length,a,b,c]->∃u I a b c,List.set (h++IX.a8 m::(g++g2)) h.length (IX.a8<|putD m (.inl (B.at_:Int))<|.int B.cj)=h++IX.a8 u::I/\U=[V<|.ref D,V<|.ref R,V<|.ref h.length,a,b,c]/\u.length<=n+1/\∀(a:Nat) v,aJ u (.inl (a:Int))=V v->∃i c,i<n+1/\cs[i]?=V c/\c.at_=a/\v=.int c.cj:=by
   intro U a b c hZ;refine#[_,_,_,_,_,Xq _ _ _,hZ,?_,λa v e=>?_]
   .unfold putD;split
    .rw[Zm];show oK 06
    .rw[Z7,oO];show lG 06
   .rw[Ld]at e;split at e
    .rename_i z;cases e;show#[n,B,ZS _,M,by have:=Sum.inl.inj z;lia,rfl]
    .let#[i,c,h1,J]:=W a v e;show#[i,c,fP 06,J]
  have C:∀{U:aI}(a b:Te),U=[V<|.ref D,V<|.ref R,V<|.ref h.length,a,V<|aB B,V<|.int (B.at_:Int)]->∀P,WS (fG (Jc Jg 'e' '1') (iy 'c' 'f') U<|h++IX.a8 m::(g++g2)) (λU h'=>∃m g a b c,h'=h++IX.a8 m::g/\U=[V<|.ref D,V<|.ref R,V<|.ref h.length,a,b,c]/\m.length<=n+1/\∀(a:Nat) v,aJ m (.inl (a:Int))=V v->∃i c,i<n+1/\cs[i]?=V c/\c.at_=a/\v=.int c.cj) P:=by rintro U a b rfl P;calc(Bx ..).mpr<|Jf (ai rfl rfl JI) ?_;rw[Lg];calc Jf rfl (Jf rfl ?_);rw[Lh (J1 (h:=h))<|show m.length<sizeLine by show Zb (Zk _ 999001)<|Zb (Zc (Zb (Zb (Zc ln 1) G) hl) 999001) Z];show fin _ _ _ rfl
  have Y:∀{U:aI}(a b:Te),U=[V<|.ref D,V<|.ref R,V<|.ref h.length,a,V<|aB B,V<|.int (B.at_:Int)]->Ji aR (Jc gy 'f' 'c') U (h++IX.a8 m::(g++g2))=.ok (aJ m<|.inl (B.at_:Int)).isSome (h++IX.a8 m::(g++g2)):=by rintro U a b rfl;show br ((aG rfl rfl).trans<|Ju<|by rw[Le J1];show#[rfl,rfl])
  cases E:aJ m (.inl (B.at_:Int))with|none=>show aL (tI<|(Y _ Zg rfl).trans<|by rw[E];rfl)<|aE<|C _ Zg rfl _|some l=>
   let#[i,c0,hi,e0,Q,rfl]:=W _ _ E;have tR:=L.tR i n c0 B hi e0 M Q r<|by rw[Q];show F
   show aL (tH ((Y _ Zg rfl).trans<|by rw[E];rfl)<|dq (ki (dB (ai rfl rfl JI)<|(aG rfl rfl).trans<|Ju<|by rw[Lf J1 E];show#[rfl,rfl])<|au (lu (X.get hD) rfl rfl av) (X.get O) pX)<|decide_eq_false 05)<|aE<|C _ Zg rfl _
 .rintro _ _ ⟨m,g,a,b,c,rfl,rfl,_⟩;show ax<|Jf rfl #[rfl,.cons _ _ _]
def J22(hd:bX h D rs)(j:h[R]?=V (.lst<|cs.map aB))(L:fW rs cs)(u:cs.length<=200):
  WR (BV (k+5) [.ref D,.ref R] h) λv h'=>v=.af/\Ex h h':=by
 rw[Jpm];calc aq (ae<|aL (dq (km (dh rfl j) rfl)<|decide_eq_false<|by rw[Zm];lia)<|aE<|ae<|aj<|xb<|Jf (ar rfl rfl)<|WR.mono (Jzx (k:=k) hd j L<|mB 06) ?_);rintro _ B ⟨rfl,m⟩;show aL rfl (aE #[rfl,m])
theorem Lp:wU (k+1) [aB c] h=.ok (.int<|jt c) h:=Ju<|by rw[Jvg];show aq<|ax<|Jf (aN (ai rfl rfl JI)<|ai rfl rfl Qj) #[rfl,rfl]
end
end
def Dx(I:Nat->aI->IH->Prop) (j:∀m U h,I m U h->WR (t U h) λc h1=>(c=Zj->∃k,m=k+1/\WS (b U h1) (I k) R)/\(c=Zn->N U h1))(hm:m<1000000)(start:I m U h):WS (VR t b U h) N R:=by
 have u:∀(n m:Nat)(U:aI)(h:IH),m<n->I m U h->WS (VY t b n U h) N R:=by
  intro n;induction n with|zero=>intro m U h hn _;show absurd 06 (oM _)|succ n E=>
   intro m U h hn F;let#[c,h1,e,q1,C]:=(j m U h F).eq;unfold VY;rw[e];cases c with|false=>show C rfl|true=>let#[k,rfl,w]:=q1 rfl;simp![if_true];cases B:b U h1 with|next G J=>rw[B]at w;show E k G J (Nat.lt_of_succ_lt_succ 06) w|ret v J=>rw[B]at w;show w|_=>rw[B]at w;show w.elim
 have D:XY=1000000:=by unfold XY;rfl
 show u _ m U h (by rw[D];show hm) start
structure Bs where
 ds:To
 lr:Tp
 wa:Tp
 t:Int
 sr:Wa
def aP(cs:Tz)(p:Nat):Int:=jt<|cs.getD p cd
def cb(cs:Tz)(p:Nat):Int:=(cs.getD p cd).len
def eN(rs:Tx)(cs:Tz)(p:Nat):Tw:=(rs.getD (cs.getD p cd).at_ rd).2
def bR(cs:Tz)(t:Int):Tp->Tp->List Nat×Tp|[],wa=>([],wa)|p::lr,wa=>if aP cs p<=t then bR cs t lr (wa++[p])else(p::lr,wa)
def bo(cs:Tz)(s:Bs):Int:=match s.wa,s.lr with|[],p::_=>if aP cs p>s.t then aP cs p else s.t|_,_=>s.t
def bt(cs:Tz)(s:Bs):Bs:=#[s.ds,(bR cs (bo cs s) s.lr s.wa).1,(bR cs (bo cs s) s.lr s.wa).2,bo cs s,s.sr]
def Vp(kind:Int)(rs:Tx)(cs:Tz)(ds:To)(wa:Tp)(p:Nat):Prop:=p∈wa/\∀q∈wa,c5 (cY kind rs cs ds q) (cY kind rs cs ds p)=Zn
def XL(kind:Int)(rs:Tx)(cs:Tz)(ds:To)(wa:Tp):Nat:=(wa.find? λp=>wa.all λq=>!c5 (cY kind rs cs ds q) (cY kind rs cs ds p)).getD 0
def Vp.uniq(a:Vp kind rs cs ds wa p)(b:Vp kind rs cs ds wa q):p=q:=by have:=Lo (a:=cY kind rs cs ds p) (b:=cY kind rs cs ds q) rfl (b.2 p a.1) (a.2 q b.1);simp![cY]at this;lia
def Vp.eq(a:Vp kind rs cs ds wa p):XL kind rs cs ds wa=p:=by unfold XL;cases e:wa.find? λp=>wa.all λq=>!c5 (cY kind rs cs ds q) (cY kind rs cs ds p)with|none=>have:=List.find?_eq_none.mp e p a.1;simp![mG,o3]at this;show absurd a.2 this|some q=>have j:=List.find?_some e;simp at j;show Vp.uniq #[List.mem_of_find?_eq_some e,j] a
noncomputable def Q7 (hs:Tw)(d len:Int):To:=len::(hs.filter λa=>decide (d<a.2.2)).map (·.2.2)
def QX(hs:Tw)(d len:Int):Int:=QJ (λi=>(Q7 hs d len).getD i 0) (Q7 hs d len).length
def Qi(rs:Tx)(cs:Tz)(s:Bs)(p:Nat):Int:=match s.lr with|[]=>QX (eN rs cs p) (s.ds.getD p 0) (cb cs p)-s.ds.getD p 0|q::_=>if aP cs q-s.t<QX (eN rs cs p) (s.ds.getD p 0) (cb cs p)-s.ds.getD p 0 then aP cs q-s.t else QX (eN rs cs p) (s.ds.getD p 0) (cb cs p)-s.ds.getD p 0
noncomputable def Vo (p:Nat)(t u:Int):Wa->Wa|[]=>[(p,t,u)]|a::r=>if a.1=p then(p,a.2.1,u)::r else(p,t,u)::a::r
def lz(rs:Tx)(cs:Tz)(s:Bs)(p:Nat)(n:Int):Bs:=#[s.ds.set p<|s.ds.getD p 0+n,s.lr,if s.ds.getD p 0+n=cb cs p then s.wa.erase p else s.wa,s.t+n,Vo p s.t (s.t+n) s.sr]
def xU(kind:Int)(rs:Tx)(cs:Tz)(s:Bs):Bs:=lz rs cs s (XL kind rs cs s.ds s.wa)<|Qi rs cs s<|XL kind rs cs s.ds s.wa
def QW(kind:Int)(rs:Tx)(cs:Tz)(s:Bs):Bs:=xU kind rs cs<|bt cs s
def runM(kind:Int)(rs:Tx)(cs:Tz):Nat->Bs->Bs|0,s=>s|m+1,s=>if s.lr=[]/\s.wa=[]then s else runM kind rs cs m (QW kind rs cs s)
def hb(cs:Tz):Tp:=(cW (cs.map jt).reverse cs.length).map λi=>cs.length-1-i
def s0(cs:Tz):Bs:=#[cs.map λ_=>0,hb cs,[],0,[]]
def p8(kind:Int)(rs:Tx)(cs:Tz):Bs:=runM kind rs cs (8*cs.length)<|s0 cs
def Lq(hs)(d len):QX hs d len=len\/∃a∈hs,d<a.2.2/\QX hs d len=a.2.2:=by
 let#[j,u,e]:=Dq (λi=>(Q7 hs d len).getD i 0) (Q7 hs d len).length<|by simp[Q7]
 unfold QX;rw[e];cases j with|zero=>show .inl rfl|succ j=>
  calc .inr ?_;have k:j<(hs.filter λa=>decide (d<a.2.2)).length:=by simpa[Q7]using u
  have m:=Z4 k;rw[j9]at m;calc#[_,m.1,of_decide_eq_true m.2,?_];simp[Q7,Zd k]
theorem Dy(hs)(d len):QX hs d len<=len:=Yn (λi=>(Q7 hs d len).getD i 0) _ 0<|by simp[Q7]
def J1s(h:d<len):d<QX hs d len:=by rcases Lq hs d len with e|⟨a,_,l,e⟩<;>(first|show ZF l (ZA e.symm)|show ZF h (ZA e.symm)|lia)
structure Wf(cs:Tz)(s:Bs):Prop where
 ld:s.ds.length=cs.length
 mem:∀p∈s.lr++s.wa,p<cs.length
 nd:(s.lr++s.wa).Nodup
 rq:s.lr.Pairwise λp q=>aP cs p<=aP cs q
 z:∀p∈s.lr++s.wa,0<=s.ds.getD p 0/\s.ds.getD p 0<cb cs p
 dn:∀p,p<cs.length->p∉s.lr++s.wa->s.ds.getD p 0=cb cs p
 z0:∀p∈s.lr,s.ds.getD p 0=0
 rw:∀p∈s.wa,aP cs p<=s.t
theorem Dz(cs)(t):∀(lr wa:Tp),((bR cs t lr wa).1++(bR cs t lr wa).2).Perm (lr++wa)
 |[],wa=>.refl _
 |p::lr,wa=>by
  unfold bR;split
  .calc(Dz cs t lr<|wa++[p]).trans ?_;rw[<-iW];show List.perm_append_singleton p<|lr++wa
  .show .refl _
theorem YD(cs)(t):∀(lr wa:Tp),∃a,lr=a++(bR cs t lr wa).1/\(bR cs t lr wa).2=wa++a/\(∀p∈a,aP cs p<=t)/\∀q r,(bR cs t lr wa).1=q::r->t<aP cs q
 |[],wa=>#[[],rfl,by simp[bR],03,by simp[bR]]
 |p::lr,wa=>by
  unfold bR;split
  .rename_i c;let#[a,B,u,m,k]:=YD cs t lr<|wa++[p];show#[p::a,congrArg (p:: ·) B,by rw[u];simp,λq j=>by rcases ZC.mp j with rfl|j;show c;show m q j,k]
  .simp_all
def DA(cs)(s):s.t<=bo cs s:=by
 unfold bo;split
 .split<;>(first|show ZG 06|show ZJ _|lia)
 .show ZJ _
def Wf.let(w:Wf cs s):Wf cs (bt cs s):=by
 let#[a,m,B,u,C]:=YD cs (bo cs s) s.lr s.wa;have k:=Dz cs (bo cs s) s.lr s.wa;have tg:=DA cs s;refine#[w.ld,λp j=>w.mem p<|k.mem_iff.mp j,k.nodup_iff.mpr w.nd,?_,λp j=>w.z p<|k.mem_iff.mp j,λp l j=>w.dn p l λz=>j<|k.mem_iff.mpr z,λp j=>w.z0 p ?_,λp j=>?_]
 .have:=w.rq;rw[m]at this;show(qp.mp this).2.1
 .rw[m];show Zo _ j
 .have j:p∈(bR cs (bo cs s) s.lr s.wa).2:=j;rw[B]at j;rcases ZY.mp j with j|j
  .have:=w.rw p j;show ZE this tg
  .show u p j
def DB(ne:¬(s.lr=[]/\s.wa=[])):(bt cs s).wa≠[]:=by
 let#[a,D,C,E,u]:=YD cs (bo cs s) s.lr s.wa;intro e;have e:(bR cs (bo cs s) s.lr s.wa).2=[]:=e;rw[C]at e;let#[k,m]:=List.append_eq_nil_iff.mp e;cases j:s.lr with|nil=>show ne #[j,k]|cons p r=>
  have:=u p r<|by rw[<-j];simpa[m]using D.symm
  have B:bo cs s=if aP cs p>s.t then aP cs p else s.t:=by unfold bo;rw[k,j]
  rw[B]at this;split at this<;>(first|show d9.mpr this (ZJ _)|show d9.mpr this (cT.mp 06)|lia)
def DC(w:Wf cs s):∀q∈(bt cs s).lr,(bt cs s).t<aP cs q:=by
 let#[a,C,B,u,m]:=YD cs (bo cs s) s.lr s.wa;have j:=w.let.rq;change ∀q∈(bR cs (bo cs s) s.lr s.wa).1,bo cs s<aP cs q;have j:((bR cs (bo cs s) s.lr s.wa).1).Pairwise _:=j;cases e:(bR cs (bo cs s) s.lr s.wa).1 with|nil=>simp|cons p r=>
  have:=m p r e;rw[e]at j;intro q k;rcases ZC.mp k with rfl|k
  .show this
  .have:=(rK.mp j).1 q k;show ZF 06 this
def DD(gt:∀q∈s.lr,s.t<aP cs q)(l:s.ds.getD p 0<cb cs p):0<Qi rs cs s p/\s.ds.getD p 0+Qi rs cs s p<=QX (eN rs cs p) (s.ds.getD p 0) (cb cs p):=by
 have:=J1s (hs:=eN rs cs p) l;unfold Qi;split
 .lia
 .rename_i q r e;have:=gt q<|by rw[e];simp
  split<;>lia
def XB{l:List α}:(l.set i x).getD j z=if i=j/\j<l.length then x else l.getD j z:=by
 simp;by_cases e:i=j
 .subst e;by_cases k:i<l.length
  .simp[k]
  .simp[k]
 .simp[e]
def Wf.do(w:Wf cs s)(hp:p∈s.wa)(m:0<n)(C:s.ds.getD p 0+n<=cb cs p):Wf cs (lz rs cs s p n):=by
 have lp:=w.mem p<|Zo _ hp;have sub:(s.lr++(lz rs cs s p n).wa).Sublist (s.lr++s.wa):=by
  calc List.Sublist.append_left ?_ _;change List.Sublist (if _ then _ else _) _;split
  .show List.erase_sublist
  .show List.Sublist.refl _
 have k:=λq j e=>(qp.mp w.nd).2.2 q j p hp e
 have B:=(qp.mp w.nd).2.1;have g:∀q,(lz rs cs s p n).ds.getD q 0=if p=q then s.ds.getD p 0+n else s.ds.getD q 0:=λq=>by
  change(s.ds.set p _).getD q 0=_;rw[XB];by_cases e:p=q
  .subst e;rw[if_pos #[rfl,by rw[w.ld];show lp],if_pos rfl]
  .rw[if_neg λz=>e z.1,if_neg e]
 refine#[by change(s.ds.set _ _).length=_;rw[oR];show w.ld,λq j=>w.mem q<|sub.subset j,w.nd.sublist sub,w.rq,λq j=>?_,λq u j=>?_,λq j=>?_,λq j=>?_]
 .have:=w.z q<|sub.subset j;rw[g];split
  .rename_i e;subst e;calc#[ZG<|Zy this.1<|jO _ m,?_];rcases ZY.mp j with j|j
   .show absurd rfl (k p j)
   .have j:p∈if s.ds.getD p 0+n=cb cs p then s.wa.erase p else s.wa:=j
    split at j
    .show absurd j<|List.Nodup.not_mem_erase B
    .show yQ.mpr #[C,06]
  .show this
 .rw[g];split
  .rename_i e;subst e;have j:p∉s.lr++if s.ds.getD p 0+n=cb cs p then s.wa.erase p else s.wa:=j
   split at j
   .assumption
   .show absurd (Zo _ hp) j
  .rename_i ne;refine w.dn q u λz=>j ?_
   change q∈s.lr++if s.ds.getD p 0+n=cb cs p then s.wa.erase p else s.wa
   split
   .rcases ZY.mp z with z|z
    .show iJ _ z
    .show Zo _<|(List.mem_erase_of_ne<|bI ne).mpr z
   .show z
 .rw[g,if_neg<|bI<|k q j];show w.z0 q j
 .have:=w.rw q (by
   have j:q∈if s.ds.getD p 0+n=cb cs p then s.wa.erase p else s.wa:=j
   split at j
   .show List.mem_of_mem_erase j
   .show j)
  change _<=s.t+n;show ZG<|Zy this<|jO _ m
theorem DE:∀{wa:Tp},wa≠[]->∃p,Vp kind rs cs ds wa p
 |[],h=>absurd rfl h
 |[p],_=>#[p,03,λq u=>by rw[Z6.mp u];show Y5 _]
 |p::q::r,_=>by
  let#[m,hm,k]:=DE (wa:=q::r) 03;cases c:c5 (cY kind rs cs ds p) (cY kind rs cs ds m)with
  |true=>
   calc#[p,03,λx j=>?_];rcases ZC.mp j with rfl|j
   .show Y5 _
   .cases z:c5 (cY kind rs cs ds x) (cY kind rs cs ds p)with
    |false=>rfl
    |true=>show absurd (BO z c)<|by rw[k x j];show Zx
  |false=>
   calc#[m,Zt _ hm,λx j=>?_];rcases ZC.mp j with rfl|j
   .show c
   .show k x j
def VL(rs:Tx)(cs:Tz)(ds:To)(p:Nat):Nat:=((eN rs cs p).filter λa=>decide (ds.getD p 0<a.2.2)).length
def lA(rs:Tx)(cs:Tz)(s:Bs):Nat:=(s.lr++s.wa).length+((ZM cs.length).map<|VL rs cs s.ds).sum+(s.lr.filter λp=>decide (s.t<aP cs p)).length
theorem Y0:∀{l:List α},(∀x∈l,f x=Zj->g x=Zj)->(l.filter f).length<=(l.filter g).length
 |[],_=>03
 |x::l,h=>by
  have k:=Y0 λy j=>h y<|Zt _ j
  have:=h x 03;simp![qr];split
  .simp_all
  .split
   .simp;show oK 06
   .show k
theorem DG:∀{l:List α},a∈l->f a=Zn->g a=Zj->(∀x∈l,f x=Zj->g x=Zj)->(l.filter f).length<(l.filter g).length
 |x::l,ha,fa,ga,h=>by
  have le:=Y0 λy j=>h y<|Zt _ j
  have m:=h x 03;rcases ZC.mp ha with rfl|ha
  .simp only[qr,fa,ga,if_true,jJ];show lG 06
  .have k:=DG ha fa ga λy j=>h y<|Zt _ j
   simp![qr];split
   .simp_all
   .split
    .simp;show lG 06
    .show k
theorem xV{f g:Nat->Nat}:∀{l:Tp},(∀x∈l,f x<=g x)->(l.map f).sum<=(l.map g).sum
 |[],_=>Zl _
 |x::l,h=>by
  have:=h x 03;have:=xV λy j=>h y<|Zt _ j
  simp;show qj 06 this
theorem Lr{f g:Nat->Nat}:∀{l:Tp},a∈l->f a<g a->(∀x∈l,f x<=g x)->(l.map f).sum<(l.map g).sum
 |x::l,ha,la,h=>by
  have k:=h x 03;have le:=xV λy j=>h y<|Zt _ j
  simp;rcases ZC.mp ha with rfl|ha
  .show D9 la le
  .have:=Lr ha la λy j=>h y<|Zt _ j
   show yf k this
def J0u(rs)(cs)(s):lA rs cs (bt cs s)<=lA rs cs s:=by
 let#[a,u,D,C,B]:=YD cs (bo cs s) s.lr s.wa;have j:=(Dz cs (bo cs s) s.lr s.wa).length_eq;have tg:=DA cs s;change((bR cs (bo cs s) s.lr s.wa).1++(bR cs (bo cs s) s.lr s.wa).2).length+_+((bR cs (bo cs s) s.lr s.wa).1.filter λp=>decide (bo cs s<aP cs p)).length<=_;rw[j];unfold lA;have m:=Y0 (g:=λp=>decide (s.t<aP cs p)) (l:=(bR cs (bo cs s) s.lr s.wa).1) λx _ c=>decide_eq_true<|Zy tg<|of_decide_eq_true c
 have J:(s.lr.filter λp=>decide (s.t<aP cs p)).length=(a.filter λp=>decide (s.t<aP cs p)).length+((bR cs (bo cs s) s.lr s.wa).1.filter λp=>decide (s.t<aP cs p)).length:=by
  conv=>lhs;rw[u]
  rw[List.filter_append,Z7]
 have k:((ZM cs.length).map<|VL rs cs (bt cs s).ds).sum=((ZM cs.length).map<|VL rs cs s.ds).sum:=rfl;show qj (qj (Zl _)<|Zi k)<|Zb (Zb m<|iI _ _)<|Zi J.symm
def J4l(w:Wf cs s)(gt:∀q∈s.lr,s.t<aP cs q)(hp:p∈s.wa):lA rs cs (lz rs cs s p<|Qi rs cs s p)<lA rs cs s:=by
 have lp:=w.mem p<|Zo _ hp;let#[k,C]:=DD gt (w.z p<|Zo _ hp).2;have E:=Dy (eN rs cs p) (s.ds.getD p 0)<|cb cs p;have hn:∀n,n=Qi rs cs s p->0<n/\s.ds.getD p 0+n<=cb cs p:=λn e=>by rw[e];show#[k,ZE C E]
 have j:(s.ds.getD p 0+Qi rs cs s p=cb cs p)\/(∃a∈eN rs cs p,s.ds.getD p 0<a.2.2/\s.ds.getD p 0+Qi rs cs s p=a.2.2)\/∃q∈s.lr,s.t+Qi rs cs s p=aP cs q:=by
  unfold Qi;have:=Lq (eN rs cs p) (s.ds.getD p 0)<|cb cs p;split
  .rcases this with e|⟨a,ha,l,e⟩
   .show .inl 05
   .show .inr<|.inl #[a,ha,l,05]
  .rename_i q r e;split
   .show .inr (.inr #[q,by rw[e];simp,05])
   .rcases this with e|⟨a,ha,l,e⟩
    .show .inl 05
    .show .inr<|.inl #[a,ha,l,05]
 generalize Qi rs cs s p=n at k C j;have gd:∀q,(s.ds.set p<|s.ds.getD p 0+n).getD q 0=if p=q then s.ds.getD p 0+n else s.ds.getD q 0:=λq=>by
  rw[XB];by_cases e:p=q
  .subst e;rw[if_pos #[rfl,by rw[w.ld];show lp],if_pos rfl]
  .rw[if_neg λz=>e z.1,if_neg e]
 have m:∀q∈ZM cs.length,VL rs cs (s.ds.set p<|s.ds.getD p 0+n) q<=VL rs cs s.ds q:=λq _=>Y0 λx _ c=>by
  have c:=of_decide_eq_true c;rw[gd]at c;calc decide_eq_true ?_;split at c
  .rename_i e;subst e;show si (jO _ k) 06
  .show c
 have u:∀x∈s.lr,decide (s.t+n<aP cs x)=Zj->decide (s.t<aP cs x)=Zj:=λx _ c=>decide_eq_true<|by simp_all
 have l2:=xV m;have D:=Y0 u;have B:(s.lr++if s.ds.getD p 0+n=cb cs p then s.wa.erase p else s.wa).length<=(s.lr++s.wa).length:=by
  rw[Z7,Z7];split
  .have:=Ec hp;show qj (Zl _)<|Zb (Zi this)<|nF _ _
  .show Zl _
 change(s.lr++if s.ds.getD p 0+n=cb cs p then s.wa.erase p else s.wa).length+((ZM cs.length).map<|VL rs cs<|s.ds.set p<|s.ds.getD p 0+n).sum+(s.lr.filter λx=>decide (s.t+n<aP cs x)).length<(s.lr++s.wa).length+((ZM cs.length).map<|VL rs cs s.ds).sum+(s.lr.filter λx=>decide (s.t<aP cs x)).length;rcases j with e|⟨a,ha,la,e⟩|⟨q,hq,e⟩
 .rw[if_pos e,Z7,Z7];have:=Ec hp;have:=List.length_pos_of_mem hp;omega
 .have:=Lr (hU.mpr lp) (DG ha (decide_eq_false<|by simp_all) (decide_eq_true la) λx _ c=>by have c:=of_decide_eq_true c;rw[gd,if_pos rfl]at c;show decide_eq_true<|si (ZF la<|ZA e.symm) c) m;show D9 (yf B this) D
 .have:=DG hq (decide_eq_false<|cT.mpr<|ZA e.symm) (decide_eq_true<|gt q hq) u;show yf (qj B l2) this
section
seal L4.run
abbrev nI(n:Nat):IV:=.int (n:Int)
noncomputable abbrev tupS (a:Nat×Int×Int):IV:=.tup [.int (a.1:Int),.int a.2.1,.int a.2.2]
noncomputable def cM (bD R D L W:Nat)(t:Int)(S:Nat):Wo:=[("order",.ref bD),("row",.ref R),("dones",.ref D),("later",.ref L),("waiting",.ref W),("turn",.int t),("stretches",.ref S)]
section
variable{bD R D L W S:Nat}{t u:Int}
theorem Ls:(cM bD R D L W t S).lookup ("order":Str)=V (.ref bD):=02
theorem xW:(cM bD R D L W t S).lookup ("row":Str)=V (.ref R):=02
theorem xX:(cM bD R D L W t S).lookup ("dones":Str)=V (.ref D):=02
theorem tU:(cM bD R D L W t S).lookup ("later":Str)=V (.ref L):=02
theorem tV:(cM bD R D L W t S).lookup ("waiting":Str)=V (.ref W):=02
theorem rr:(cM bD R D L W t S).lookup ("turn":Str)=V (.int t):=02
theorem tW:(cM bD R D L W t S).lookup ("stretches":Str)=V (.ref S):=02
theorem bn0:(cM bD R D L W t S).lookup ("next_ready":Str)=Zg:=02
theorem bn1:(cM bD R D L W t S).lookup ("let_in":Str)=Zg:=02
theorem bn2:(cM bD R D L W t S).lookup ("turns_for":Str)=Zg:=02
theorem bn3:(cM bD R D L W t S).lookup ("tell":Str)=Zg:=02
theorem bn4:(cM bD R D L W t S).lookup ("go_on":Str)=Zg:=02
theorem Lu:bz "turn" (.int u) (cM bD R D L W t S)=cM bD R D L W u S:=02
end
structure Bg(h0:IH)(kind:Int)(rs:Tx)(cs:Tz)(bD R:Nat):Prop where
 o:d4 h0 kind bD rs
 r:h0[R]?=V (.lst<|cs.map aB)
 c:∀c∈cs,c.at_<rs.length
 l6:∀r∈rs,r.2.length<=6
 p1:h0[0]?=V (.tab "Order.pick")
 n:cs.length<=200
structure Bn(h0 h:IH)(bC bD R D L W S:Nat)(s:Bs):Prop where
 x:Ex h0 h
 ap:h0.length<=bC/\bC<D/\D<L/\L<W/\W<S
 b:h[bC]?=V (.ins "Bench"<|cM bD R D L W s.t S)
 d:h[D]?=V (.lst<|s.ds.map .int)
 l:h[L]?=V (.lst<|s.lr.reverse.map nI)
 w:h[W]?=V (.lst<|s.wa.map nI)
 s:h[S]?=V (.lst<|s.sr.reverse.map tupS)
def QA(x:Ex h0 h)(l:h0.length<=i):Ex h0 (h.set i o):=by let#[g,rfl]:=x;show#[g.set (i-h0.length) o,by rw[List.set_append_right _ _ l]]
def J8{h:IH}(e:h[j]?=V o)(n:i≠j):(h.set i o')[j]?=V o:=by rw[hL n];show e
theorem Qe{h:IH}(e:h[i]?=V o):(h.set i o')[i]?=V o':=iV<|JJ e
section
variable{h0 h h':IH}{bC bD R D L W S:Nat}{s:Bs}
theorem Bn.ex(b:Bn h0 h bC bD R D L W S s)(x:Ex h h'):Bn h0 h' bC bD R D L W S s:=#[b.x.trans x,b.ap,x.get b.b,x.get b.d,x.get b.l,x.get b.w,x.get b.s]
theorem Bn.tX(b:Bn h0 h bC bD R D L W S s)(u):Bn h0 (h.set bC<|.ins "Bench"<|cM bD R D L W u S) bC bD R D L W S #[s.ds,s.lr,s.wa,u,s.sr]:=
 have ap:=b.ap
 #[QA b.x<|ap.1,ap,Qe b.b,J8 b.d<|Zv ap.2.1,J8 b.l<|Zv<|Z3<|Zb (Zc ap.2.1 1) ap.2.2.1,J8 b.w<|Zv<|Zb (Zk _ 2)<|Zb (Zc (Zb (Zc ap.2.1 1) ap.2.2.1) 1) ap.2.2.2.1,J8 b.s<|Zv<|Zb (Zk _ 3)<|Zb (Zc (Zb (Zc (Zb (Zc ap.2.1 1) ap.2.2.1) 1) ap.2.2.2.1) 1) ap.2.2.2.2]
theorem Bn.DH(b:Bn h0 h bC bD R D L W S s)(ds):Bn h0 (h.set D<|.lst<|ds.map .int) bC bD R D L W S #[ds,s.lr,s.wa,s.t,s.sr]:=
 have ap:=b.ap
 #[QA b.x<|Z3<|Zb (Zc ap.1 1) ap.2.1,ap,J8 b.b<|dC ap.2.1,Qe b.d,J8 b.l<|Zv ap.2.2.1,J8 b.w<|Zv<|Z3<|Zb (Zc ap.2.2.1 1) ap.2.2.2.1,J8 b.s<|Zv<|Zb (Zk _ 2)<|Zb (Zc (Zb (Zc ap.2.2.1 1) ap.2.2.2.1) 1) ap.2.2.2.2]
theorem Bn.DI(b:Bn h0 h bC bD R D L W S s)(lr):Bn h0 (h.set L<|.lst<|lr.reverse.map nI) bC bD R D L W S #[s.ds,lr,s.wa,s.t,s.sr]:=
 have ap:=b.ap
 #[QA b.x<|Zb (Zk _ 2)<|Zb (Zc (Zb (Zc ap.1 1) ap.2.1) 1) ap.2.2.1,ap,J8 b.b<|dC<|Z3<|Zb (Zc ap.2.1 1) ap.2.2.1,J8 b.d<|dC ap.2.2.1,Qe b.l,J8 b.w<|Zv ap.2.2.2.1,J8 b.s<|Zv<|Z3<|Zb (Zc ap.2.2.2.1 1) ap.2.2.2.2]
theorem Bn.tY(b:Bn h0 h bC bD R D L W S s)(wa):Bn h0 (h.set W<|.lst<|wa.map nI) bC bD R D L W S #[s.ds,s.lr,wa,s.t,s.sr]:=
 have ap:=b.ap
 #[QA b.x<|Zb (Zk _ 3)<|Zb (Zc (Zb (Zc (Zb (Zc ap.1 1) ap.2.1) 1) ap.2.2.1) 1) ap.2.2.2.1,ap,J8 b.b<|dC<|Zb (Zk _ 2)<|Zb (Zc (Zb (Zc ap.2.1 1) ap.2.2.1) 1) ap.2.2.2.1,J8 b.d<|dC<|Z3<|Zb (Zc ap.2.2.1 1) ap.2.2.2.1,J8 b.l<|dC ap.2.2.2.1,Qe b.w,J8 b.s<|Zv ap.2.2.2.2]
theorem Bn.tZ(b:Bn h0 h bC bD R D L W S s)(sr):Bn h0 (h.set S<|.lst<|sr.reverse.map tupS) bC bD R D L W S #[s.ds,s.lr,s.wa,s.t,sr]:=
 have ap:=b.ap
 #[QA b.x<|Zb (Zk _ 4)<|Zb (Zc (Zb (Zc (Zb (Zc (Zb (Zc ap.1 1) ap.2.1) 1) ap.2.2.1) 1) ap.2.2.2.1) 1) ap.2.2.2.2,ap,J8 b.b<|dC<|Zb (Zk _ 3)<|Zb (Zc (Zb (Zc (Zb (Zc ap.2.1 1) ap.2.2.1) 1) ap.2.2.2.1) 1) ap.2.2.2.2,J8 b.d<|dC<|Zb (Zk _ 2)<|Zb (Zc (Zb (Zc ap.2.2.1 1) ap.2.2.2.1) 1) ap.2.2.2.2,J8 b.l<|dC<|Z3<|Zb (Zc ap.2.2.2.1 1) ap.2.2.2.2,J8 b.w<|dC ap.2.2.2.2,Qe b.s]
end
def Lv:a7 ((p::lr).reverse.map f) (-1)=V (f p):=by have e:(-1+((lr.length:Int)+1)).toNat=lr.length:=05;have l:(1:Int)<=(lr.length:Int)+1:=Ep<|iL _;simp[a7,jS,e,l]
theorem Xy{cs:Tz}(lp:p<cs.length):a7 (cs.map aB) (p:Int)=V (aB<|cs.getD p cd):=JE<|by simp_all
theorem DJ{ds:To}(lp:p<ds.length):a7 (ds.map IV.int) (p:Int)=V (.int<|ds.getD p 0):=JE<|by simp_all
section
variable{k:Nat}{h0 h:IH}{kind:Int}{rs:Tx}{cs:Tz}{bC bD R D L W S:Nat}{s:Bs}{P:IV->IH->Prop}
def J7n(g:Bg h0 kind rs cs bD R)(b:Bn h0 h bC bD R D L W S s)(e:s.lr=p::lr)(lp:p<cs.length):B3 (k+2) [.ref bC] h=.ok (.int<|aP cs p) h:=by have bl:=b.l;rw[e]at bl;calc Ju ?_;rw[Jc3];show aq<|ax<|Jf (Jx (ak<|aT (au rfl b.b xW) (aT (au rfl b.b tU) rfl bl Lv) (b.x.get g.r)<|Xy lp) Lp) #[rfl,rfl]
theorem DK(g:Bg h0 kind rs cs bD R)(b:Bn h0 h bC bD R D L W S s)(e:s.lr=p::lr)(lp:p<cs.length):Jp (pg<|k+2) "next_ready" 0 'a' Je (V (.ref bC)::Pn) h=.ok (.int<|aP cs p) h:=dO rfl b.b bn0 (Jc2 _) rfl (J7n g b e lp)
theorem Jtg:bR cs t (p::lr) wa=if aP cs p<=t then bR cs t lr (wa++[p])else(p::lr,wa):=rfl
def Lw(g:Bg h0 kind rs cs bD R)(u:∀p∈s.lr,p<cs.length)(B:s.lr.length+s.wa.length<=1000)(b:Bn h0 h bC bD R D L W S s):WS (Kg (k+2) [V<|.ref bC] h) (λ_ h'=>Bn h0 h' bC bD R D L W S #[s.ds,(bR cs s.t s.lr s.wa).1,(bR cs s.t s.lr s.wa).2,s.t,s.sr]) P:=by
 have Z:=J4;calc Dx (λm U h'=>∃lr wa,U=[V<|.ref bC]/\Bn h0 h' bC bD R D L W S #[s.ds,lr,wa,s.t,s.sr]/\lr.length=m/\lr.length+wa.length<=1000/\(∀p∈lr,p<cs.length)/\bR cs s.t lr wa=bR cs s.t s.lr s.wa) ?_ (show s.lr.length<1000000 by show Zb (Zb (Zc (Zk _ _) 1)<|Zc B 1)<|Zk _ 998999) #[s.lr,s.wa,rfl,b,rfl,B,u,rfl];rintro m _ G ⟨lr,wa,rfl,b,F,l2,u,j⟩;refine KI<|Jf (km (dh (au rfl b.b tU) b.l) rfl)<|iA (λc=>?_) λc=>?_
 .cases lr with|nil=>show absurd c 03|cons p lr=>
   rw[Jtg]at j;refine Jf (xy (DK g b rfl (u p 03))<|au rfl b.b rr)<|iA (λc=>?_) λc=>?_
   .calc#[lr.length,by simpa using F.symm,?_];calc Ql<|QO (au rfl b.b tV) b.w Xc<|xb<|QO (au rfl b.b tU) b.l KL<|Jf rfl (tJ (y:=nI p) b.l 03 ?_);have e:(((p::lr).reverse.map nI).dropLast)=lr.reverse.map nI:=03;rw[e];have C:=b.DI lr;calc xb (Jf rfl (Jf rfl (jr C.w (by simp at l2 ⊢;show Zb (Zk _ 999000)<|Zb (Zc (Zb (Zc (iI _ _) 1)<|Zc l2 1) 999000) Z) #[lr,wa++[p],rfl,?_,rfl,by simp at l2 ⊢;lia,λq E=>u q<|Zt _ E,by rw[<-j,if_pos c]])));have:=C.tY<|wa++[p];rw[jv]at this;show this
   .rw[if_neg c]at j;rw[<-j];show b
 .cases lr with|nil=>show#[(λz=>by cases z),λ_=>by rw[<-j];show b]|cons p lr=>show absurd 03 c
def J7l(g:Bg h0 kind rs cs bD R)(u:∀p∈s.lr,p<cs.length)(C:s.lr.length+s.wa.length<=1000)(ne:¬(s.lr=[]/\s.wa=[]))(b:Bn h0 h bC bD R D L W S s):
  WR (B4 (k+3) [.ref bC] h) λv h'=>v=.af/\Bn h0 h' bC bD R D L W S (bt cs s):=by
 rw[Jgo];refine aq<|ae<|jo (rm (dh (au rfl b.b tV) b.w) rfl) (λc=>?_) λc=>?_
 .have B:s.wa=[]:=yo.mp<|by simpa using c
  cases j:s.lr with|nil=>show absurd #[j,B] ne|cons p lr=>
   have m:bo cs s=if aP cs p>s.t then aP cs p else s.t:=by unfold bo;rw[B,j]
   calc Qs (nt (au rfl b.b rr)<|DK g b j<|u p<|by rw[j];simp) rfl b.b (by change(7:Nat)<1000;decide) ?_;rw[Lu];have E:=b.tX (if aP cs p>s.t then aP cs p else s.t);refine WS.mono (Lw (s:=#[s.ds,s.lr,s.wa,if aP cs p>s.t then aP cs p else s.t,s.sr]) g u C E) (λ_ h' q=>#[rfl,?_]) λ_ _ z=>z
   unfold bt;rw[m];show q
 .have m:bo cs s=s.t:=by
   unfold bo;split
   .rename_i e _;rw[e]at c;show absurd rfl c
   .rfl
  refine aE<|WS.mono (Lw g u C b) (λ_ h' q=>#[rfl,?_]) λ_ _ z=>z
  unfold bt;rw[m];show q
end
end
section
seal L4.run
noncomputable def DL (d:Int):IV->Bool|.tup [_,_,.int e]=>decide (d<e)|_=>Zn
noncomputable def Lx:IV->IV|.tup [_,_,e]=>e|_=>.af
def J3d(hs:Tw)(d):((hs.map ao).filter<|DL d).map Lx=((hs.filter λa=>decide (d<a.2.2)).map (·.2.2)).map .int:=by
 induction hs with|nil=>rfl|cons a hs j=>
  simp![ZN,qr];rw[show DL d (ao a)=decide (d<a.2.2)from rfl];split
  .simp only[ZN,j];rfl
  .show j
section
variable{k:Nat}{h0 h:IH}{kind:Int}{rs:Tx}{cs:Tz}{bC bD R D L W S:Nat}{s:Bs}{P:IV->IH->Prop}
def J7o(u:h[w]?=V (.ins "Work"<|gZ name gap ln bK ag<|hs.map ao))(l6:hs.length<=6):WR (B1 (k+2) [.ref w,.int d,.int len] h) λv h'=>v=.int (QX hs d len)/\Ex h h':=by
 have Z:=J4;rw[Jl1];have m:Ex h (h++[.lst [.int len]]):=.one _ _;calc aq (ax<|xb<|xb<|xb<|nr<|Jf (ak rfl) #[by simp;show lI 06,xb ?_]);refine WR.mono (YS (h:=h++[.lst [.int len]]++[.lst<|hs.map ao]) (xs:=hs.map ao) (ba:=λh'=>h'[(h++[IX.lst [IV.int len]]).length]?=V (.lst<|hs.map ao)) (p:=DL d) (f:=Lx) ?_ (by rw[Zm];show Zb (Zk _ 999994)<|Zb (Zc (Zc l6 1) 999994) Z) (λJ q=>q _ _ Jo) ?_ ?_) ?_
 .rw[JN];show Jf (dO rfl (m.get u) xG (xw _) rfl (xH<|m.get u))<|(JR _).mpr #[_,Jo,rfl,rfl,rfl]
 .intro v j J q;let#[a,_,rfl]:=Z9.mp j;show Jf (km (ai rfl rfl Qj) rfl) #[rfl,.refl _]
 .intro v j _ J q;let#[a,_,rfl]:=Z9.mp j;show Jf (ai rfl rfl Qj) #[rfl,.refl _]
 .rintro _ _ ⟨rfl,g,rfl⟩;rw[J3d];have C:=nH (λa:Hd=>decide (d<a.2.2)) hs;have B:Ex (h++[.lst [.int len]]) (h++[.lst [.int len]]++[.lst<|hs.map ao]++.lst (((hs.filter λa=>decide (d<a.2.2)).map (·.2.2)).map .int)::g):=(Ex.one _ _).trans<|.cons _ _ _;calc(wJ ..).mpr #[_,B.get Jo,_,J1,by simp;(rw[nE];show Zb (Zk _ 999994)<|Zb (Zc (Zb (Zc C 1)<|Zc l6 1) 999994) Z),?_];calc xb<|Jf rfl (Jf rfl ?_);rw[By,show[IV.int len]++((hs.filter λa=>decide (d<a.2.2)).map (·.2.2)).map .int=(Q7 hs d len).map .int from rfl,Lk Jo<|by simp[Q7]];show#[rfl,(m.trans B).trans<|.one _ _]
def J8m(g:Bg h0 kind rs cs bD R)(I:∀p∈s.lr,p<cs.length)(b:Bn h0 h bC bD R D L W S s)(lp:p<cs.length)(ld:s.ds.length=cs.length):WR (B5 (k+3) [.ref bC,nI p] h) λv h'=>v=.int (Qi rs cs s p)/\Ex h h':=by
 let#[O,#[M,F,w],H]:=Ln<|g.o.kp b.x.kp;have ca:(cs.getD p cd).at_<rs.length:=g.c _<|by rw[Zq,Zd lp];show Z4 lp
 have l6:=g.l6 _<|Z4 ca;let#[j,J,u]:=w.get<|Zd ca;have G:a7 M ((cs.getD p cd).at_:Int)=V (.ref j):=JE J;have E:eN rs cs p=(rs[(cs.getD p cd).at_]).2:=by unfold eN;rw[Qp ca]
 rw[<-E]at l6;rw[Jdw];calc aq<|ae<|aj<|Jf (aT (au rfl b.b xW) rfl (b.x.get g.r) (Xy lp))<|ae<|aj<|Jf (aT (au rfl b.b xX) rfl b.d (DJ<|Zb lp<|Zi ld.symm)) ?_;calc ae<|aj<|xb<|xb<|xb<|Jf (dO (H _ _<|au rfl b.b Ls) F Dc (CS _) (ak<|ai rfl rfl JU)<|Dd F G)<|xb<|Jf (ar rfl (ai rfl rfl Xb))<|Jf rfl ?_;have u:h[j]?=V (.ins "Work"<|gZ _ _ _ _ _<|(rs[(cs.getD p cd).at_]).2.map ao):=u;rw[<-E]at u;calc WR.mono (J7o (k:=k) u l6) ?_;rintro _ P ⟨rfl,C⟩;have B:=b.ex C;refine xb<|Jf rfl (Jf rfl (ae<|jo (km (dh (au rfl B.b tU) B.l) rfl) (λc=>?_) λc=>?_))
 .cases m:s.lr with|nil=>rw[m]at c;show absurd c 03|cons q lr=>calc aj (Jf (CW rfl (dB (DK g B m<|I q<|by rw[m];simp)<|au rfl B.b rr))<|ax<|Jf rfl #[?_,C]);unfold Qi;rw[m];rfl
 .calc aE<|ax<|Jf rfl #[?_,C];have m:s.lr=[]:=by cases m:s.lr with|nil=>rfl|cons q lr=>rw[m]at c;show absurd 03 c
  unfold Qi;rw[m];rfl
def J8l(b:Bn h0 h bC bD R D L W S s)(sl:s.sr.length<100000):WR (B6 (k+1) [.ref bC,nI p,.int u] h) λv h'=>v=.af/\Bn h0 h' bC bD R D L W S #[s.ds,s.lr,s.wa,s.t,Vo p s.t u s.sr]:=by
 have Z:=J4;have fin:∀{C:IH}{m:Int}{r:Wa},Bn h0 C bC bD R D L W S #[s.ds,s.lr,s.wa,s.t,r]->r.length<=s.sr.length->Vo p s.t u s.sr=(p,m,u)::r ->WS (Kh k [V<|.ref bC,V<|nI p,V<|.int u,V<|.int m] C) (λ_ h'=>IV.af=.af/\Bn h0 h' bC bD R D L W S #[s.ds,s.lr,s.wa,s.t,Vo p s.t u s.sr]) λv h'=>v=.af/\Bn h0 h' bC bD R D L W S #[s.ds,s.lr,s.wa,s.t,Vo p s.t u s.sr]:=by intro C m r B lr E;calc Ql (QO (au rfl B.b tW) B.s Xc<|xb<|nq<|xb<|Jf rfl (xb<|Jf (ar rfl rfl)<|Jf rfl #[by simp;show iI _ _,xb<|Jf rfl (Jf rfl (jr B.s (by simp;show Zb (Zk _ 900001)<|Zb (Zc (Zb (Zc lr 1) sl) 900001) Z) #[rfl,?_]))]));have:=B.tZ<|(p,m,u)::r;rw[mF,jv]at this;rw[E];show this
 rw[Jjl];refine aq<|ae<|aj<|Jf (au rfl b.b rr)<|ae<|tE<|KI<|Jf (km (dh (au rfl b.b tW) b.s) rfl)<|iA (λc=>?_) λc=>?_
 .cases j:s.sr with|nil=>rw[j]at c;show absurd c 03|cons a r=>
   have bs:=b.s;rw[j]at bs;refine Jf (rm (ai (aT (au rfl b.b tW) rfl bs Lv) rfl JU) rfl)<|iA (λc=>?_) λc=>?_
   .calc aj<|xb<|QO (au rfl b.b tW) bs KL<|Jf rfl (tJ (y:=tupS a) bs 03<|xb<|Jf rfl (tF JI ?_));have e:((a::r).reverse.map tupS).dropLast=r.reverse.map tupS:=03;rw[e];rw[<-j];calc fin (r:=r) (b.tZ r) (by rw[j];simp) ?_;rw[j];show if_pos 05
   .calc aE ?_;rw[<-j];calc fin (r:=s.sr) b (Zl _) ?_;rw[j];show if_neg λz=>c<|by rw[z]
 .calc#[(λz=>by cases z),λ_=>aE<|fin (r:=s.sr) b (Zl _) ?_];cases j:s.sr with|nil=>rfl|cons a r=>rw[j]at c;show absurd 03 c
theorem Ly:∀(l:List α)(j:Nat),(l.map f).eraseIdx j=(l.eraseIdx j).map f|[],_=>rfl|_::_,0=>rfl|a::l,j+1=>congrArg (f a:: ·)<|Ly l j
def Jry{wa:Tp}{p j:Nat}(e:(wa.map λn:Nat=>(n:Int)).findIdx? (· ==(p:Int))=V j):wa.eraseIdx j=wa.erase p:=by
 rw[List.findIdx?_map]at e;have e:wa.findIdx? (· ==p)=V j:=by rw[<-e];congr 1;funext x;change(x==p)=((x:Int)==(p:Int));rw[se,beq_iff_eq,beq_iff_eq];lia
 rw[List.erase_eq_eraseIdx,show List.idxOf? p wa=V j from e]
def J67(g:Bg h0 kind rs cs bD R)(w:Wf cs s)(ne:¬(s.lr=[]/\s.wa=[]))(sl:s.sr.length<100000)(b:Bn h0 h bC bD R D L W S s):WR (B7 (k+6) [.ref bC] h) λv h'=>v=.af/\Bn h0 h' bC bD R D L W S (QW kind rs cs s):=by
 have Q:(s.lr++s.wa).length<=cs.length:=by
  have:=w.nd.length_le_of_subset (l₂:=ZM cs.length) λp B=>hU.mpr<|w.mem p B
  rwa [nJ]at this
 rw[Z7]at Q;have cn:=g.n;have E:=w.let;have n1:=DB (cs:=cs) ne;rw[Jhj];calc aq<|ae<|Ql<|VZ rfl b.b bn1 (Jgj _) (Jf rfl (WR.mono (J7l (k:=k+2) g (λp B=>w.mem p<|iJ _ B) (Zb (Zb Q cn)<|Zk _ 800) ne b) ?_));rintro _ G ⟨rfl,u⟩;have X:=g.o.kp u.x.kp;unfold QW;have O:(bt cs s).sr.length<100000:=sl;generalize bt cs s=m at *;calc ae (aj<|Jpc X (au rfl u.b Ls) (by rw[show ∀(a b c:E1)(U:aI),Jb a (Jb b<|Jb c Je) U G=(a U G).bind λx G=>((Jb b<|Jb c Je) U G).bind λxs J=>.ok (x::xs) J from λ_ _ _ _=>rfl,au rfl u.b xW];show congrArg (λr=>Res.bind r _)<|ar (au rfl u.b tV)<|au rfl u.b xX)<|WR.mono (J08 (k:=k) (u.x.get g.p1) X g.l6 g.c (u.x.get g.r) u.w u.d E.ld n1 λp B=>E.mem p<|Zo _ B) ?_);rintro _ J ⟨p,B,rfl,lm,x2⟩;have ep:=Vp.eq #[B,lm];have lp:=E.mem p<|Zo _ B;have ld:=E.ld;have M:=u.ex x2;calc ae<|aj<|VZ rfl M.b bn2 (Jds _) (Jf (ak rfl)<|WR.mono (J8m (k:=k+2) g (λq hq=>E.mem q<|iJ _ hq) M lp ld) ?_);rintro _ h3 ⟨rfl,x3⟩;have I:=M.ex x3;unfold xU;rw[ep];generalize Qi rs cs m p=n;calc ae<|Ql<|VZ rfl I.b bn3 (Jji _) (Jf (ar rfl (aN (au rfl I.b rr) rfl))<|WR.mono (J8l (k:=k+4) I O) ?_);rintro _ h4 ⟨rfl,H⟩;calc ae (J8y rfl H.b rr rfl H.b (by change(7:Nat)<1000;decide) ?_);rw[Lu];have F:Bn h0 _ bC bD R D L W S #[m.ds,m.lr,m.wa,m.t+n,Vo p m.t (m.t+n) m.sr]:=H.tX<|m.t+n;calc ae (J8z (au rfl F.b xX) rfl F.d (DJ (by change p<m.ds.length;show Zb lp<|Zi ld.symm)) (iL _) rfl F.d (j:=p) (by rw[Zm];simp[jS];show Zb lp<|Zi ld.symm) ?_);have C:Bn h0 _ bC bD R D L W S #[m.ds.set p<|m.ds.getD p 0+n,m.lr,m.wa,m.t+n,Vo p m.t (m.t+n) m.sr]:=F.DH<|m.ds.set p<|m.ds.getD p 0+n;rw[<-List.map_set];refine jo (rm (aT (au rfl C.b xX) rfl C.d (DJ<|by rw[oR];show Zb lp<|Zi ld.symm))<|ai (aT (au rfl C.b xW) rfl (C.x.get g.r) (Xy lp)) rfl Xb) (λc=>?_) λc=>?_
 .rw[XB,if_pos #[rfl,Zb lp<|Zi ld.symm]]at c;have Y:m.wa.map nI=(m.wa.map λn:Nat=>(n:Int)).map .int:=by rw[eO];rfl
  have Z:=C.w;obtain⟨j,P⟩:∃j,(m.wa.map λn:Nat=>(n:Int)).findIdx? (· ==(p:Int))=V j:=by cases z:(m.wa.map λn:Nat=>(n:Int)).findIdx? (· ==(p:Int))with|none=>have:=uj.mp z p<|Z9.mpr #[p,B,rfl];simp at this|some j=>show#[j,rfl]
  calc Ql (QO (au rfl C.b tV) Z Jq6<|Jf (ak rfl)<|C1 (ns:=m.wa.map λn:Nat=>(n:Int)) (by rw[<-Y];show Z) P #[rfl,?_]);have b7:=C.tY<|m.wa.erase p;unfold lz;rw[if_pos<|show _=cb cs p from c,<-Y,Ly,Jry P];show b7
 .rw[XB,if_pos #[rfl,Zb lp<|Zi ld.symm]]at c;calc aE #[rfl,?_];unfold lz;rw[if_neg<|show ¬_=cb cs p from c];show C
end
end
section
seal L4.run
section
variable{bD R D L W S:Nat}
theorem bp0:bz "order" (.ref bD) ([]:Wo)=(cM bD 0 0 0 0 0 0).take 1:=02
theorem bp1:bz "row" (.ref R) ((cM bD 0 0 0 0 0 0).take 1)=(cM bD R 0 0 0 0 0).take 2:=02
theorem bp2:bz "dones" (.ref D) ((cM bD R 0 0 0 0 0).take 2)=(cM bD R D 0 0 0 0).take 3:=02
theorem bp3:bz "later" (.ref L) ((cM bD R D 0 0 0 0).take 3)=(cM bD R D L 0 0 0).take 4:=02
theorem bp4:bz "waiting" (.ref W) ((cM bD R D L 0 0 0).take 4)=(cM bD R D L W 0 0).take 5:=02
theorem bp5:bz "turn" (.int 0) ((cM bD R D L W 0 0).take 5)=(cM bD R D L W 0 0).take 6:=02
theorem bp6:bz "stretches" (.ref S) ((cM bD R D L W 0 0).take 6)=cM bD R D L W 0 S:=02
end
theorem Lz:∀{ys:Tu}{ks:To},(∀y∈ys,mk y h=.ok (.int<|kf y) h)->QS mk ys ks h=.ok (ks++ys.map kf) h|[],ks,_=>by simp[QS]|y::ys,ks,q=>by unfold QS;rw[q y 03];change QS mk ys (ks++[kf y]) h=_;rw[Lz λz j=>q z<|Zt _ j];simp
theorem LA:∀p∈hb cs,p<cs.length:=λp j=>by let#[i,k,rfl]:=Z9.mp j;have:=YC _ i k;omega
def J4h(cs):(cW (cs.map jt).reverse cs.length).map (λi=>(aX 0 (cs.length:Int)).reverse.getD i .af)=(hb cs).map nI:=by
 unfold hb;rw[eO];refine yr λi m=>?_
 have j:=YC _ i m;rw[XO];have l2:i<(((ZM cs.length).map λk=>((k:Nat):Int)).map IV.int).reverse.length:=by simpa using j
 rw[lX,Zq,Zd l2,List.getElem_reverse];simp
def LB(cs):(hb cs).Perm (ZM cs.length):=by
 by_cases j:cs.length=0
 .unfold hb;rw[j,we];show .refl _
 have:=(GO (cs.map jt).reverse<|yg j).map λi=>cs.length-1-i
 calc this.trans ?_;have e:(ZM cs.length).map (λi=>cs.length-1-i)=(ZM cs.length).reverse:=by
  refine mI 03 λi k J=>?_
  simp
 rw[e];show List.reverse_perm _
def J0s(cs):(hb cs).Pairwise λp q=>aP cs p<=aP cs q:=by
 unfold hb;rw[uo];calc(S6 (cs.map jt).reverse cs.length).imp_of_mem λ{i j} B m h=>?_;have k:=YC _ i B;have u:=YC _ j m;have e:∀i,i<cs.length->(cs.map jt).reverse.getD i 0=aP cs (cs.length-1-i):=λi k=>by
  have l2:i<(cs.map jt).reverse.length:=by simpa using k
  unfold aP;rw[Zq,Zd l2,List.getElem_reverse,Zq,Zd<|show cs.length-1-i<cs.length by omega];simp
 rwa [e i k,e j u]at h
def LD(l1:∀c∈cs,1<=c.len):Wf cs (s0 cs):=by
 have m:∀p,((s0 cs).ds.getD p 0:Int)=0:=λp=>by change(cs.map λ_=>(0:Int)).getD p 0=0;rw[Zq,ZK];cases cs[p]?<;>rfl
 have k:=LB cs;refine#[by simp[s0],λp j=>?_,?_,J0s cs,λp j=>?_,λp lp j=>?_,λp j=>m p,λp j=>?_]
 .rw[show(s0 cs).lr++(s0 cs).wa=hb cs from jK _]at j;show LA p j
 .rw[show(s0 cs).lr++(s0 cs).wa=hb cs from jK _];show k.nodup_iff.mpr yB
 .rw[show(s0 cs).lr++(s0 cs).wa=hb cs from jK _]at j;have lp:=LA p j;rw[m];have:1<=cb cs p:=l1 _<|by simp_all
  lia
 .rw[show(s0 cs).lr++(s0 cs).wa=hb cs from jK _]at j;show absurd (k.mem_iff.mpr<|hU.mpr lp) j
 .cases j
def Wf.step(w:Wf cs s)(ne:¬(s.lr=[]/\s.wa=[])):Wf cs (QW kind rs cs s)/\lA rs cs (QW kind rs cs s)<lA rs cs s:=by have k:=w.let;have m:=DC w;have le:=J0u rs cs s;let#[p,j]:=DE<|DB ne;unfold QW xU;rw[j.eq];let#[a,b]:=DD m (k.z p<|Zo _ j.1).2;have u:=Dy (eN rs cs p) ((bt cs s).ds.getD p 0)<|cb cs p;show#[k.do j.1 a<|ZE b u,ZL (J4l k m j.1) le]
def Jxc(p)(t u)(sr):(Vo p t u sr).length<=sr.length+1:=by
 unfold Vo;split
 .simp
 .split<;>simp
def LF(h:s.lr=[]/\s.wa=[]):runM kind rs cs m s=s:=by cases m with|zero=>rfl|succ m=>show if_pos h
def t6(l6:∀r∈rs,r.2.length<=6)(u:∀c∈cs,c.at_<rs.length):lA rs cs (s0 cs)<=8*cs.length:=by
 have m:((ZM cs.length).map<|VL rs cs (s0 cs).ds).sum<=((ZM cs.length).map λ_=>6).sum:=xV λp k=>by
  have lp:=hU.mp k;have ca:(cs.getD p cd).at_<rs.length:=u _<|by simp_all
  have:=l6 _<|Z4 ca;calc Zb (nH _ _) ?_;unfold eN;rw[Qp ca];show this
 have C:=nH (λp=>decide ((s0 cs).t<aP cs p)) (s0 cs).lr;have j:(s0 cs).lr.length=cs.length:=by have:=(LB cs).length_eq;rwa [nJ]at this
 have B:((s0 cs).lr++(s0 cs).wa).length=cs.length:=by rw[show(s0 cs).lr++(s0 cs).wa=(s0 cs).lr from jK _];show j
 rw[List.map_const',List.sum_replicate_nat,nJ]at m;unfold lA;lia
def ds0(cs)(p):(s0 cs).ds.getD p 0=0:=by change(cs.map λ_=>(0:Int)).getD p 0=0;rw[Zq,ZK];cases cs[p]?<;>rfl
section
variable{k:Nat}{h:IH}{kind:Int}{rs:Tx}{cs:Tz}{bD R:Nat}
def J0h(g:Bg h kind rs cs bD R)(U:h[1]?=V (.tab "Bench.__init__"))(kj:cs.length<64):WR (B2 (k+2) [.ref h.length,.ref bD,.ref R]<|h++[.ins "Bench" []]) λv h'=>v=.af/\∃D L W S,Bn h h' h.length bD R D L W S (s0 cs):=by
 have Z:=J4;rw[Jjk];calc aq<|ae<|Qs rfl rfl Jo 01 ?_;rw[bp0,VS];calc ae (Qs rfl rfl Jo (by change(1:Nat)<1000;decide) ?_);rw[bp1,VS];have G:Ex h (h++[.ins "Bench"<|(cM bD R 0 0 0 0 0).take 2]):=.one _ _;have g1:(h++[IX.ins "Bench"<|(cM bD R 0 0 0 0 0).take 2])[h.length]?=V (.ins "Bench"<|(cM bD R 0 0 0 0 0).take 2):=Jo;generalize h++[IX.ins "Bench"<|(cM bD R 0 0 0 0 0).take 2]=u at G g1;calc ae ?_;rw[YU];refine WR.mono (Qg (h:=u) (xs:=cs.map aB) (ba:=λh'=>h'[R]?=V (.lst<|cs.map aB)) (f:=λ_=>.int 0) ?_ (by rw[Zm];show Zb (Zk _ 999937)<|Zb (Zc kj 999937) Z) (λJ q=>q _ _<|G.get g.r) λv hv J q=>Jf rfl #[rfl,.refl _]) ?_
 .rw[JN];show Jf rfl ((JR _).mpr #[_,G.get g.r,rfl,rfl,rfl])
 rintro _ _ ⟨rfl,H,rfl⟩;have j:=JJ g1;calc Jf rfl #[_,_,_,rfl,grow g1,by change(2:Nat)<1000;decide,?_];rw[bp2];have E:=QA (i:=h.length) (o:=.ins "Bench"<|(cM bD R u.length 0 0 0 0).take 3) (G.trans<|Ex.cons u (.lst<|(cs.map aB).map λ_=>.int 0) H)<|Zl _;have g2:=Qe (o':=.ins "Bench"<|(cM bD R u.length 0 0 0 0).take 3)<|grow g1 (g:=.lst ((cs.map aB).map λ_=>.int 0)::H);have d2:=J8 (i:=h.length) (o':=.ins "Bench"<|(cM bD R u.length 0 0 0 0).take 3) (J1 (h:=u) (o:=.lst<|(cs.map aB).map λ_=>.int 0) (g:=H))<|Zv j;generalize u.length=D at *;generalize (u++IX.lst ((cs.map aB).map λ_=>.int 0)::H).set h.length (.ins "Bench"<|(cM bD R D 0 0 0 0).take 3)=J at E g2 d2;have ks:QS (λv h'=>X2 (k+1) [V v,V<|.ref R] h') (aX 0 (cs.length:Int)) [] J=.ok (cs.map jt) J:=by
  have:=Lz (mk:=λv h'=>X2 (k+1) [V v,V<|.ref R] h') (kf:=λv=>match v with|.int p=>aP cs p.toNat|_=>0) (h:=J) (ys:=aX 0 (cs.length:Int)) (ks:=[]) λy Q=>by rw[XO,lX,eO]at Q;let#[p,hp,rfl]:=Z9.mp Q;have lp:=hU.mp hp;change X2 (k+1) [V<|nI p,V<|.ref R] J=.ok (.int<|aP cs<|uV (p:Int)) J;rw[lX];show Jx (ak<|aT rfl rfl (E.get g.r) (Xy lp)) Lp
  rw[this,lK,XO,lX,eO,eO];congr 1;refine mI 03 λi u J=>?_
  have X:i<cs.length:=by simpa using J
  simp![ZO,rJ,Function.comp,lX,aP];rw[Zq,Zd X];rfl
 have Y:Yy "Bench.__init__" 1 [2] (Jb (aW (aO aS)<|Jb 'c' Je) Je) (X2<|k+1) [V<|.ref h.length,V<|.ref bD,V<|.ref R] J=.ok (.ref J.length) (J++[.lst<|(hb cs).reverse.map nI]):=by unfold Yy;rw[ak<|dh rfl (E.get g.r),Zm];change(match [IV.int (cs.length:Int)],J[1]? with|[.int n],V (.tab q')=>_|_,_=>_)=_;rw[E.get U];change(if _ then _ else _)=_;rw[if_pos #[rfl,iL _,lZ.mpr 06]];change(QS (λv h'=>X2 (k+1) [V v,V<|.ref R] h') (aX 0 (cs.length:Int)) [] J).bind _=_;rw[ks];change YJ (aX 0 (cs.length:Int)).reverse (cs.map jt).reverse J=_;unfold YJ;rw[show(aX 0 (cs.length:Int)).reverse.length=cs.length by rw[qq,XO];simp,J4h,List.map_reverse]
 calc ae (Qs Y rfl (grow g2) (by change(3:Nat)<1000;decide) ?_);rw[bp3];have m:=JJ d2;have M:=QA (i:=h.length) (o:=.ins "Bench"<|(cM bD R D J.length 0 0 0).take 4) (E.trans<|Ex.one J<|.lst<|(hb cs).reverse.map nI)<|Zl _;have F:=Qe (o':=.ins "Bench"<|(cM bD R D J.length 0 0 0).take 4)<|grow g2 (g:=[.lst<|(hb cs).reverse.map nI]);have O:=J8 (i:=h.length) (o':=.ins "Bench"<|(cM bD R D J.length 0 0 0).take 4) (grow d2 (g:=[.lst<|(hb cs).reverse.map nI]))<|Zv j;have I:=J8 (i:=h.length) (o':=.ins "Bench"<|(cM bD R D J.length 0 0 0).take 4) (Jo (h:=J) (o:=.lst<|(hb cs).reverse.map nI))<|Zv<|Z3<|Zb (Zc j 1) m;generalize J.length=L at *;generalize (J++[IX.lst<|(hb cs).reverse.map nI]).set h.length (.ins "Bench"<|(cM bD R D L 0 0 0).take 4)=C at M F O I;have B:=JJ I;calc ae ?_;rw[YU];calc nr (Jf rfl #[ZW _,Jf rfl #[_,_,_,rfl,grow F,by change(4:Nat)<1000;decide,?_]]);rw[bp4];calc ae (Qs rfl rfl (Qe<|grow F) (by change(5:Nat)<1000;decide) ?_);rw[bp5,uB];unfold Kf;rw[YU];calc nr (Jf rfl #[ZW _,Jf rfl #[_,_,_,rfl,grow<|Qe<|grow F,by change(6:Nat)<1000;decide,rfl,?_]]);rw[bp6];have P:=Jo (h:=C) (o:=.lst []);have lw:=JJ P;rw[Z7,oO]at lw;have ln:(List.set (C++[IX.lst []]) h.length<|.ins "Bench"<|(cM bD R D L C.length 0 0).take 6).length=C.length+1:=by rw[oR,Z7,oO]
 calc#[D,L,C.length,_,QA ((QA (M.trans<|.one _ _)<|Zl _).trans<|.one _ _)<|Zl _,#[Zl _,j,m,B,Zi<|Eq.symm 06],Qe<|grow<|Qe<|grow F,J8 (grow<|J8 (grow ?_)<|Zv j)<|Zv j,J8 (grow<|J8 (grow I)<|Zv<|Z3<|Zb (Zc j 1) m)<|Zv<|Z3<|Zb (Zc j 1) m,J8 (grow<|J8 P<|Zv<|Zb (Zk _ 2)<|Zb (Zc (Zb (Zc j 1) m) 1) B)<|Zv<|Zb (Zk _ 2)<|Zb (Zc (Zb (Zc j 1) m) 1) B,J8 Jo 05];rw[O];simp[s0]
def J5a(g:Bg h kind rs cs bD R)(E:h[1]?=V (.tab "Bench.__init__"))(L:fW rs cs)(kj:cs.length<64):
  WR (B8 (k+7) [.ref bD,.ref R] h) λv h'=>∃j,v=.ref j/\h.length<=j/\h'[j]?=V (.lst<|(p8 kind rs cs).sr.reverse.map tupS)/\Ex h h':=by
 let#[Du,M,I]:=Ln g.o;have P:Wf cs (s0 cs):=LD λc H=>(L.ok c H).n1
 rw[J3l];calc aq<|ae<|Ql<|xb<|Jf (ar (I _ _ rfl) rfl)<|WR.mono (J22 (k:=k+1) M g.r L g.n) ?_;rintro _ B ⟨rfl,u⟩;have g1:Bg B kind rs cs bD R:=#[g.o.kp u.kp,u.get g.r,g.c,g.l6,u.get g.p1,g.n];calc ae<|aj ?_;rw[YT];calc Jf (ar rfl rfl)<|WR.mono (J0h (k:=k+4) g1 (u.get E) kj) ?_;rintro _ J ⟨rfl,D,F,W,S,b0⟩;calc#[rfl,ae ?_];have O:=t6 g.l6 g.c;have cn:=g.n;calc Dx (λm U h'=>∃s,U=[V<|.ref bD,V<|.ref R,V<|.ref B.length]/\Bn B h' B.length bD R D F W S s/\Wf cs s/\lA rs cs s<=m/\s.sr.length+m<=8*cs.length/\runM kind rs cs m s=p8 kind rs cs) ?_ (show 8*cs.length<1000000 by lia) #[s0 cs,rfl,b0,P,O,by simp[s0],rfl];rintro m _ h3 ⟨s,rfl,b,w,Z,Y,C⟩;refine Jf (km (aN (dh (au rfl b.b tU) b.l)<|dh (au rfl b.b tV) b.w) rfl)<|iA (λc=>?_) λc=>?_
 .have ne:¬(s.lr=[]/\s.wa=[]):=λ⟨a,z⟩=>by rw[a,z]at c;show absurd c 03
  let#[Q,lt]:=w.step (rs:=rs) ne;cases m with|zero=>lia|succ m=>
   calc#[m,rfl,Ql<|VZ rfl b.b bn4 (Jhg _) (Jf rfl (WR.mono (J67 (k:=k) g1 w ne 05 b) ?_))];rintro _ X ⟨rfl,G⟩;refine#[_,rfl,G,Q,uc<|ZL 06 06,?_,?_]
   .have:=Jxc (XL kind rs cs (bt cs s).ds (bt cs s).wa) (bt cs s).t ((bt cs s).t+Qi rs cs (bt cs s) (XL kind rs cs (bt cs s).ds (bt cs s).wa)) s.sr;have:(QW kind rs cs s).sr.length<=s.sr.length+1:=this;lia
   .rw[<-C];show(if_neg ne).symm
 .have ne:s.lr=[]/\s.wa=[]:=by simp at c;show#[yo.mp 05,yo.mp 05]
  rw[LF ne]at C;refine ax<|Jf (au rfl b.b tW) #[S,rfl,?_,?_,u.trans b.x]
  .have:=b.ap;have:=JJ b0.b;let#[gg,rfl]:=u;rw[Z7]at *;lia
  .rw[<-C];show b.s
end
end
abbrev DM:=Nat×Int×Int
theorem LG:rk hss zs a<=a:=Yn (λi=>(cX hss zs a).getD i 0) _ 0<|by simp[cX]
def J8a(k:z∈zs):rk hss zs a<=fZ hss z:=by
 let#[i,j,rfl]:=ZX.mp k;have e:(cX hss zs a).getD (i+1) 0=fZ hss zs[i]:=by simp[cX,j]
 unfold rk;rw[<-e];show Yn (λi=>(cX hss zs a).getD i 0) (cX hss zs a).length (i+1)<|by simp[cX,j]
def dj(cs:Tz)(p:Nat):Int:=((cs.getD p cd).at_:Int)
def lB(rs:Tx)(cs:Tz)(ds:To)(p:Nat):Tj:=act (eN rs cs p)<|ds.getD p 0
def ju(rs:Tx)(cs:Tz)(ds:To)(p:Nat):Int:=rk (rs.map (·.2)) (lB rs cs ds p) (cs.getD p cd).at_
theorem J2w(j:x∈eN rs cs p)(h1:x.2.1<ds.getD p 0)(J:ds.getD p 0<x.2.2):x.1∈lB rs cs ds p:=Z9.mpr #[x,j9.mpr #[j,by change(decide _&&decide _)=Zj;rw[decide_eq_true h1,decide_eq_true J];rfl],rfl]
def DN(j:Vp kind rs cs ds wa p)(k:q∈wa):ju rs cs ds p<=ju rs cs ds q/\(ju rs cs ds q=ju rs cs ds p->lB rs cs ds p=[]->lB rs cs ds q=[]):=by
 have h:=j.2 q k;change c5 [ju rs cs ds q,if (!(lB rs cs ds q).isEmpty)=Zj then 0 else 1,(q:Int)] [ju rs cs ds p,if (!(lB rs cs ds p).isEmpty)=Zj then 0 else 1,(p:Int)]=Zn at h;unfold c5 at h;by_cases e:ju rs cs ds q=ju rs cs ds p
 .calc#[ZA e.symm,λ_ a=>?_];rw[if_pos e,a]at h;cases b:lB rs cs ds q with|nil=>rfl|cons z l=>rw[b]at h;cases h
 .rw[if_neg e,decide_eq_false_iff_not]at h;show#[cT.mp h,λz=>absurd z e]
def J8b(l:rk hss zs a<a):∃z∈zs,rk hss zs a=fZ hss z:=by
 let#[j,m,e]:=Dq (λi=>(cX hss zs a).getD i 0) (cX hss zs a).length<|by simp[cX]
 have e:rk hss zs a=(cX hss zs a).getD j 0:=e;cases j with|zero=>rw[e]at l;show absurd l<|yT _|succ j=>
  have k:j<zs.length:=by simpa[cX]using m
  calc#[zs[j],Z4 k,?_];rw[e];simp[cX,k]
def LH(k:x∈hs)(l:d<x.2.2):QX hs d len<=x.2.2:=by
 have m:x.2.2∈(hs.filter λa=>decide (d<a.2.2)).map (·.2.2):=Z9.mpr #[x,j9.mpr #[k,decide_eq_true l],rfl];let#[i,j,e]:=ZX.mp m;have b:=Yn (λi=>(Q7 hs d len).getD i 0) (Q7 hs d len).length (i+1)<|by simpa[Q7]using j
 have q:(Q7 hs d len).getD (i+1) 0=x.2.2:=by rw[<-e,Zq];change(((hs.filter λa=>decide (d<a.2.2)).map (·.2.2))[i]?).getD 0=_;rw[Zd j];rfl
 rw[<-q];show b
def Jxe(w:s.lr.Pairwise λp q=>aP cs p<=aP cs q)(j:q∈s.lr):Qi rs cs s p<=aP cs q-s.t:=by
 unfold Qi;cases e:s.lr with|nil=>rw[e]at j;cases j|cons a r=>
  rw[e]at j w;have:aP cs a<=aP cs q:=by
   rcases ZC.mp j with rfl|j
   .show ZJ _
   .show(rK.mp w).1 q j
  dsimp only;split<;>(first|show Int.sub_le_sub this (ZJ _)|lia|omega)
theorem LI(I:Bs->Prop)(step:∀s,Wf cs s->¬(s.lr=[]/\s.wa=[])->I s->I (QW kind rs cs s)):∀(m:Nat)(s:Bs),Wf cs s->lA rs cs s<=m->I s->Wf cs (runM kind rs cs m s)/\(runM kind rs cs m s).lr=[]/\(runM kind rs cs m s).wa=[]/\I (runM kind rs cs m s)
 |m,s,w,lm,i=>by
  by_cases ne:s.lr=[]/\s.wa=[]
  .rw[LF ne];show#[w,ne.1,ne.2,i]
  .let#[j,lt]:=w.step (kind:=kind) (rs:=rs) ne;cases m with
   |zero=>lia
   |succ m=>rw[show runM kind rs cs (m+1) s=runM kind rs cs m (QW kind rs cs s)from if_neg ne];show LI I step m _ j (uc<|ZL 06 06)<|step s w ne i
def sR(n:Nat)(f:Nat->Int):Int:=((ZM n).map f).sum
def Vl:sR (n+1) f=sR n f+f n:=by simp[sR,uw]
theorem VQ:∀{n:Nat},(∀q,q<n->f q<=g q)->sR n f<=sR n g
 |0,_=>ZJ _
 |n+1,h=>by
  have:=VQ (n:=n) λq j=>h q<|fP 06
  have:=h n<|ZS _;rw[Vl,Vl];show sh 06 this
theorem LJ:∀{n:Nat},(∀q,q<n->f q<=g q)->p<n->f p<g p->sR n f<sR n g
 |n+1,h,hp,lt=>by
  rw[Vl,Vl];by_cases e:p=n
  .subst e;have:=VQ (n:=p) λq j=>h q<|fP 06
   show Int.add_lt_add_of_le_of_lt this lt
  .have:=LJ (n:=n) (λq j=>h q<|fP 06) (iH (ZZ (b:=1) hp) e) lt;have:=h n<|ZS _;show Eo 06 this
theorem DO:∀{n:Nat},(∀q,q≠p->g q=f q)->p<n->sR n g=sR n f+(g p-f p)
 |n+1,h,hp=>by
  rw[Vl,Vl];by_cases e:p=n
  .subst e;have k:=VQ (n:=p) (f:=f) (g:=g) λq j=>by rw[h q<|Zv j];show ZJ _
   have J:=VQ (n:=p) (f:=g) (g:=f) λq j=>by rw[h q<|Zv j];show ZJ _
   lia
  .rw[DO (n:=n) h<|iH (ZZ (b:=1) hp) e,h n<|bI e];lia
theorem YG:∀{n:Nat},(∀q,q<n->f q=0)->sR n f=0
 |0,_=>rfl
 |n+1,h=>by rw[Vl,YG λq j=>h q<|fP 06,h n<|ZS _];rfl
def dM(cs:Tz)(a:Nat)(b T:Int):Int:=sR cs.length λp=>if dj cs p<=a/\b<=aP cs p/\aP cs p<T then cb cs p else 0
def J1r(w:Wf cs s)(ne:¬(s.lr=[]/\s.wa=[])):∃p n,Vp kind rs cs s.ds (bt cs s).wa p/\QW kind rs cs s=lz rs cs (bt cs s) p n/\p<cs.length/\0<n/\s.ds.getD p 0+n<=QX (eN rs cs p) (s.ds.getD p 0) (cb cs p)/\(∀q∈(bt cs s).lr,n<=aP cs q-bo cs s)/\(0<=s.ds.getD p 0/\s.ds.getD p 0<cb cs p)/\aP cs p<=bo cs s /\ ∀q,(lz rs cs (bt cs s) p n).ds.getD q 0=if p=q then s.ds.getD p 0+n else s.ds.getD q 0:=by
 have j:=w.let;have D:=DC w;let#[p,m]:=DE (kind:=kind) (rs:=rs) (cs:=cs) (ds:=(bt cs s).ds)<|DB (cs:=cs) ne;have k:=m.1;have u:=j.z p<|Zo _ k;have lp:=j.mem p<|Zo _ k;let#[C,n1]:=DD (rs:=rs) D u.2;calc#[p,Qi rs cs (bt cs s) p,m,by unfold QW xU;rw[m.eq],lp,C,n1,λq B=>Jxe (rs:=rs) (p:=p) j.rq (q:=q) B,u,j.rw p k,λq=>?_];have ld:=w.ld;change(s.ds.set p _).getD q 0=_;rw[XB];by_cases e:p=q
 .subst e;rw[if_pos #[rfl,Zb lp<|Zi ld.symm],if_pos rfl];rfl
 .rw[if_neg λz=>e z.1,if_neg e]
def cR(p:Nat):List DM->Wz|[]=>Zg|a::l=>match cR p l with|some e=>V e|none=>if a.1=p then V a.2.2 else Zg
theorem VJ:∀{l:List DM},cR p (l++[a])=if a.1=p then V a.2.2 else cR p l
 |[]=>by simp[cR]
 |b::l=>by
  rw[iY,cR,VJ,cR];by_cases e:a.1=p
  .rw[if_pos e,if_pos e]
  .rw[if_neg e,if_neg e]
def Jrt{l:List DM}(e:l[n]?=V a):cR p (l.take<|n+1)=if a.1=p then V a.2.2 else cR p (l.take n):=by have hn:=(Zs.mp e).1;rw[nG hn,VJ,(Zs.mp e).2]
structure iF(rs:Tx)(cs:Tz)(a P:Nat)(T g bC:Int):Prop where
 lp:P<cs.length
 ap:dj cs P=a
 rp:aP cs P=T
 g0:0<=g
 b0:0<=bC
 tg:g<=T
 st:∀q,q<cs.length->dj cs q<=a->T<=aP cs q
 one:∀q,q<cs.length->dj cs q=a->q=P
 pe:∀x∈eN rs cs P,x.2.2<cb cs P
 wk:(g=0/\bC=0/\∀q,q<cs.length->dj cs q<=a)\/∃H,H<cs.length/\(a:Int)<dj cs H/\(∀q,q<cs.length->(a:Int)<dj cs q->q=H)/\aP cs H=T-g/\g+bC<cb cs H/\∃x∈eN rs cs H,fZ (rs.map (·.2)) x.1<=a/\x.2.1+1=g/\x.2.2=g+bC/\∀y∈eN rs cs H,fZ (rs.map (·.2)) y.1<=a->y.2.2-y.2.1-1<=bC/\(x.2.1<y.2.1->y.2.1<x.2.2->y.2.2<=x.2.2)
section
variable{kind:Int}{rs:Tx}{cs:Tz}{a P:Nat}{T g bC:Int}
def fF(cs:Tz)(a:Nat)(T g bC τ:Int)(q:Nat):Int:=(if dj cs q<=a/\T<=aP cs q/\aP cs q<τ then cb cs q else 0)+if (a:Int)<dj cs q then g+bC else 0
theorem LK{f g:Nat->Int}:∀{n:Nat},sR n (λp=>f p+g p)=sR n f+sR n g|0=>rfl|n+1=>by rw[Vl,Vl,Vl,LK];lia
def DP(h:H<n)(c):sR n (λq=>if q=H then c else 0)=c:=by rw[DO (f:=λ_=>0) (p:=H) (λq z=>if_neg z) h,YG λ_ _=>rfl,if_pos rfl];lia
theorem DQ{f g:Nat->Int}(h:∀q,q<n->f q=g q):sR n f=sR n g:=i7 (VQ λq l=>ZA<|h q l)<|VQ λq l=>ZA (h q l).symm
def iF.sum(h:iF rs cs a P T g bC)(τ):sR cs.length (fF cs a T g bC τ)=dM cs a T τ+(g+bC):=by
 unfold fF;rw[LK];change dM cs a T τ+_=_;congr 1;rcases h.wk with⟨m,u,k⟩|⟨H,lH,aH,uq,_⟩
 .rw[YG λq j=>if_neg (by have:=k q j;show cT.mpr this)]
  (subst_vars;rfl)
 .calc Eq.trans (DQ λq j=>?_)<|DP lH<|g+bC;by_cases e:q=H
  .rw[e,if_pos aH,if_pos rfl]
  .rw[if_neg λz=>e<|uq q j z,if_neg e]
def iF.low(h:iF rs cs a P T g bC){ds:To}(hτ:T<τ)(eq:τ-(T-g)=sR cs.length λq=>ds.getD q 0)(le:∀q,q<cs.length->ds.getD q 0<=cb cs q)(rd:∀q,q<cs.length->0<ds.getD q 0->aP cs q<τ)(u:ds.getD P 0<cb cs P)(C:∀q,q<cs.length->(a:Int)<dj cs q->ds.getD q 0<=g+bC):τ-T<bC+dM cs a T τ:=by
 have s:=h.sum τ;have ap:=h.ap;have rp:=h.rp;have lt:sR cs.length (λq=>ds.getD q 0)<sR cs.length (fF cs a T g bC τ):=by
  refine LJ (p:=P) (λq j=>?_) h.lp ?_
  .have D:=le q j;have J:=rd q j;have B:=C q j;have m:=h.st q j;unfold fF;by_cases c:dj cs q<=a
   .rw[if_neg<|show ¬(a:Int)<dj cs q by show cT.mpr c];by_cases k:aP cs q<τ
    .rw[if_pos #[c,m c,k]];show ZE D<|o4 01
    .rw[if_neg λz=>k z.2.2];lia
   .rw[if_pos (show(a:Int)<dj cs q by show d9.mp c),if_neg λz=>c z.1];have:=B<|d9.mp c;show ZE this<|Ep 01
  .unfold fF;rw[if_pos #[ZA ap,ZA rp.symm,Zy (ZA rp) hτ],if_neg<|cT.mpr<|ZA ap];show ZF u<|o4 01
 lia
structure Fx(cs:Tz)(a:Nat)(T bC e:Int):Prop where
 t:T<e
 lo:∀t,1<=t->T+t<e->t<bC+dM cs a T (T+t)
 eq:e-T=bC+dM cs a T e
structure Hq(rs:Tx)(cs:Tz)(a P:Nat)(T g bC:Int)(s:Bs):Prop where
 nn:∀q,q<cs.length->0<=s.ds.getD q 0
 rd:∀q,q<cs.length->0<s.ds.getD q 0->aP cs q<s.t
 pr:s.ds.getD P 0<cb cs P->(T-g<=s.t->s.t-(T-g)=sR cs.length λq=>s.ds.getD q 0)/\(∀q,q<cs.length->(a:Int)<dj cs q->s.ds.getD q 0<=g+bC/\(T<=s.t->g<=s.ds.getD q 0))/\∀t,1<=t->T+t<=s.t->t<bC+dM cs a T (T+t)
 po:cb cs P<=s.ds.getD P 0->∃e,cR P s.sr.reverse=V e/\Fx cs a T bC e
def J5w(w:Wf cs s)(B:q<cs.length)(k:s.ds.getD q 0<cb cs q)(C:aP cs q<=s.t):bo cs s=s.t:=by
 have m:q∈s.lr++s.wa:=mO λm=>by rw[w.dn q B m]at k;show d9.mpr k<|ZJ _
 have sr:=w.rq;unfold bo;split
 .rename_i _ _ c r u j;rw[u,j,jK]at m;rw[j]at sr;have:aP cs c<=aP cs q:=by
   rcases ZC.mp m with rfl|m
   .show ZJ _
   .show(rK.mp sr).1 q m
  rw[if_neg 05]
 .rfl
def J5x(w:Wf cs s)(E:q<cs.length)(B:s.ds.getD q 0<cb cs q)(D:aP cs q=b)(u:∀p,p<cs.length->b<=aP cs p)(lt:s.t<b):bo cs s=b:=by
 have m:q∈s.lr++s.wa:=mO λm=>by rw[w.dn q E m]at B;show d9.mpr B<|ZJ _
 have k:s.wa=[]:=by
  cases e:s.wa with|nil=>rfl|cons p r=>
   have C:=w.rw p<|by rw[e];show ZD ..
   have J:=u p (w.mem p<|Zo _<|by rw[e];show ZD ..);lia
 have sr:=w.rq;unfold bo;rw[k];rw[k,jK]at m;cases j:s.lr with|nil=>rw[j]at m;cases m|cons c r=>
  rw[j]at m sr;have C:aP cs c<=aP cs q:=by
   rcases ZC.mp m with rfl|m
   .show ZJ _
   .show(rK.mp sr).1 q m
  have J:=u c (w.mem c<|iJ _<|by rw[j];show ZD ..);change(if aP cs c>s.t then aP cs c else s.t)=b;rw[if_pos<|ZF lt J];show i7 (ZE C<|ZA D) J
def Jru(ne:p≠P):cR P (Vo p t u l).reverse=cR P l.reverse:=by
 cases l with|nil=>change cR P ([]++[(p,t,u)])=_;rw[VJ,if_neg ne];rfl|cons c r=>
  change cR P (if c.1=p then(p,c.2.1,u)::r else(p,t,u)::c::r).reverse=_;split
  .rename_i e;rw[mF,mF,VJ,VJ,if_neg ne,if_neg<|by rw[e];show ne]
  .rw[mF,VJ,if_neg ne]
def Ju7:cR P (Vo P t u l).reverse=V u:=by cases l with|nil=>change cR P ([]++[(P,t,u)])=_;rw[VJ,if_pos rfl]|cons c r=>change cR P (if c.1=P then(P,c.2.1,u)::r else(P,t,u)::c::r).reverse=_;split<;>rw[mF,VJ,if_pos rfl]
def Hq.at_(h:iF rs cs a P T g bC)(w:Wf cs s)(v:Hq rs cs a P T g bC s)(u:s.ds.getD P 0<cb cs P):(T-g<=bo cs s/\bo cs s-(T-g)=sR cs.length λq=>s.ds.getD q 0)/\(∀q,q<cs.length->(a:Int)<dj cs q->s.ds.getD q 0<=g+bC/\(T<=bo cs s->g<=s.ds.getD q 0))/\∀t,1<=t->T+t<=bo cs s->t<bC+dM cs a T (T+t):=by
 let#[e,Z,lo]:=v.pr u;have rp:=h.rp;have g0:=h.g0;have b0:=h.b0;have k:∀p,p<cs.length->T-g<=aP cs p:=λp lp=>by
  by_cases c:dj cs p<=a
  .have:=h.st p lp c;show ZE (yS _ g0) this
  .rcases h.wk with⟨_,_,z⟩|⟨H,_,_,uq,rH,_⟩
   .show absurd (z p lp) c
   .rw[uq p lp<|d9.mp c,rH];show ZJ _
 obtain⟨E,l0,m,B⟩:∃q,q<cs.length/\aP cs q=T-g/\s.ds.getD q 0<cb cs q:=by
  rcases h.wk with⟨z,_,_⟩|⟨H,lH,aH,_,rH,sH,_⟩
  .show#[P,h.lp,05,u]
  .have:=(Z H lH aH).1;show#[H,lH,rH,Zy this sH]
 by_cases c:T-g<=s.t
 .rw[J5w w l0 B<|ZE (ZA m) c];show#[#[c,e c],Z,lo]
 .rw[J5x w l0 B m k<|d9.mp c];have z:∀q,q<cs.length->s.ds.getD q 0=0:=λq j=>by
   have D:=v.nn q j;have J:=k q j;by_cases y:0<s.ds.getD q 0
   .have:=v.rd q j y;lia
   .show i7 (cT.mp y) D
  refine#[#[ZJ _,?_],λq j C=>#[(Z q j C).1,λy=>?_],λt t1 t2=>05]
  .rw[YG z];lia
  .rw[z q j];lia
def Hq.step(h:iF rs cs a P T g bC)(hn:∀q,q<cs.length->0<cb cs q)(w:Wf cs s)(ne:¬(s.lr=[]/\s.wa=[]))(v:Hq rs cs a P T g bC s):Hq rs cs a P T g bC (QW kind rs cs s):=by
 have w1:=w.let;have tg:=DA cs s;have lP:=h.lp;have rP:=h.rp;have Q:=h.ap;have b0:=h.b0;let#[p,n,ip,es,lp,O,n1,n2,zp,rp,gd]:=J1r (kind:=kind) (rs:=rs) w ne;rw[es];have sl:=Dy (eN rs cs p) (s.ds.getD p 0)<|cb cs p;have le:∀q,q<cs.length->s.ds.getD q 0<=cb cs q:=λq k=>by
  by_cases m:q∈s.lr++s.wa
  .show ZG (w.z q m).2
  .rw[w.dn q k m];show ZJ _
 have L:∀q,q<cs.length->s.ds.getD q 0<cb cs q->aP cs q<=bo cs s->q∈(bt cs s).wa:=λq k lt r=>by
  rcases ZY.mp (mO λm=>by have:s.ds.getD q 0=_:=w1.dn q k m;show cT.mpr (ZA this) (ZF (Zy (ZA this.symm) lt)<|ZA this.symm):q∈(bt cs s).lr++(bt cs s).wa)with m|m
  .have:bo cs s<aP cs q:=DC w q m;lia
  .show m
 have U:∀q,q<cs.length->s.ds.getD q 0<cb cs q->bo cs s<aP cs q->n<=aP cs q-bo cs s:=λq k lt r=>by
  rcases ZY.mp (mO λm=>by have:s.ds.getD q 0=_:=w1.dn q k m;show cT.mpr (ZA this) (ZF (Zy (ZA this.symm) lt)<|ZA this.symm):q∈(bt cs s).lr++(bt cs s).wa)with m|m
  .show n2 q m
  .have:aP cs q<=bo cs s:=w1.rw q m;lia
 have rd:∀q,q<cs.length->0<s.ds.getD q 0->aP cs q<bo cs s:=λq k y=>by have:=v.rd q k y;show ZF this tg
 -- p has had j XY more
 have C:∀j q,(s.ds.set p<|s.ds.getD p 0+j).getD q 0=if p=q then s.ds.getD p 0+j else s.ds.getD q 0:=λj q=>by
  have ld:=w.ld;rw[XB];by_cases e:p=q
  .subst e;rw[if_pos #[rfl,Zb lp<|Zi ld.symm],if_pos rfl]
  .rw[if_neg λz=>e z.1,if_neg e]
 have S:∀j,(sR cs.length λq=>(s.ds.set p<|s.ds.getD p 0+j).getD q 0)=(sR cs.length λq=>s.ds.getD q 0)+j:=λj=>by rw[DO (f:=λq=>s.ds.getD q 0) (p:=p) (λq z=>by rw[C,if_neg<|bI z]) lp,C,if_pos rfl];lia
 have rj:∀j,0<j->∀q,q<cs.length->0<(s.ds.set p<|s.ds.getD p 0+j).getD q 0->aP cs q<bo cs s+j:=λj j0 q k y=>by
  rw[C]at y;split at y
  .rename_i e;subst e;show Zy rp (jO _ j0)
  .have:=rd q k y;show si this<|jO _ j0
 have nn':∀q,q<cs.length->0<=(lz rs cs (bt cs s) p n).ds.getD q 0:=λq k=>by have:=v.nn q k;rw[gd];split<;>(first|show ZG (Zy zp.1 (jO _ O))|show this|omega)
 refine#[nn',rj n O,λB=>?_,λB=>?_]
 ·-- not done yet
  have B:(s.ds.set p<|s.ds.getD p 0+n).getD P 0<cb cs P:=B;have M:s.ds.getD P 0<cb cs P:=by
   rw[C]at B;split at B
   .rename_i e;subst e;show zp.2
   .show B
  let#[#[e1,Y],Z,lo]:=v.at_ h w M;have hH:∀q,q<cs.length->(a:Int)<dj cs q->(s.ds.set p<|s.ds.getD p 0+n).getD q 0<=g+bC/\(T<=bo cs s+n->g<=(s.ds.set p<|s.ds.getD p 0+n).getD q 0):=λq k D=>by
   let#[R,G]:=Z q k D;by_cases c:T<=bo cs s
   .have G:=G c;by_cases e:p=q
    .subst e;rw[C,if_pos rfl];calc#[?_,λ_=>ZG<|Zy G<|jO _ O];rcases h.wk with⟨_,_,z⟩|⟨H,lH,aH,uq,rH,sH,x,hx,fx,x1,x2,mx⟩
     .have:=z p lp;lia
     obtain rfl:=uq p lp D;have hw:=L P lP M<|ZE (ZA rP) c;have F:=(DN ip hw).1;have E:ju rs cs s.ds P<=dj cs P:=LG;let#[z,hz,ez]:=J8b (hss:=rs.map (·.2)) (zs:=lB rs cs s.ds p) (a:=(cs.getD p cd).at_) (by change ju rs cs s.ds p<dj cs p;show Zy (ZE (ZE F E)<|ZA Q) aH);have ez:ju rs cs s.ds p=fZ (rs.map (·.2)) z:=ez;let#[y,I,rfl]:=Z9.mp hz;let#[I,W]:=j9.mp I;simp![nv,Zr,decide_eq_true_eq]at W;by_cases c2:s.ds.getD p 0<x.2.2
     .have:=LH (len:=cb cs p) hx c2;show ZE (ZE n1 this)<|ZA x2
     .let#[m1,m2]:=mx y I<|ZE (ZE (ZE (ZA ez.symm) F) E)<|ZA Q;have:=m2 05<|ZF (ZF W.1 R)<|ZA x2.symm;lia
    .rw[C,if_neg e];show#[R,λ_=>G]
   .have tn:=U P lP M<|ZF (d9.mp c)<|ZA rP.symm;have ep:p=q:=by
     rcases h.wk with⟨_,_,z⟩|⟨H,lH,aH,uq,_⟩
     .have:=z q k;lia
     .calc(uq p lp<|mO λz=>?_).trans (uq q k D).symm;have:=h.st p lp<|cT.mp z;show cT.mpr this<|Zy rp<|d9.mp c
    subst ep;have one:s.ds.getD p 0<=bo cs s-(T-g):=by
     rw[Y,<-DP lp (s.ds.getD p 0)];refine VQ λq k=>?_
     split
     .rename_i e;rw[e];show ZJ _
     .show v.nn q k
    calc#[by rw[C,if_pos rfl];lia,λy=>?_];have:(sR cs.length λq=>(s.ds.set p<|s.ds.getD p 0+n).getD q 0)<=(s.ds.set p<|s.ds.getD p 0+n).getD p 0:=by
     rw[<-DP lp ((s.ds.set p<|s.ds.getD p 0+n).getD p 0)];refine VQ λq k=>?_
     split
     .rename_i e;rw[e];show ZJ _
     .rename_i e;refine mO λz=>?_
      have h1:=rj n O q k<|d9.mp z;have J:dj cs q<=a:=mO λz=>by
       rcases h.wk with⟨_,_,y⟩|⟨H,lH,aH,uq,_⟩
       .show z<|y q k
       .show e<|(uq q k<|d9.mp z).trans (uq p lp D).symm
      have:=h.st q k J;lia
    rw[S]at this;lia
  refine#[λ_=>?_,hH,λt t1 t2=>?_]
  .have:=S n;change bo cs s+n-(T-g)=_;rw[show(lz rs cs (bt cs s) p n).ds=s.ds.set p (s.ds.getD p 0+n)from rfl,this];lia
  .have t2:T+t<=bo cs s+n:=t2;by_cases c:T+t<=bo cs s
   .show lo t t1 c
   .obtain⟨j,rfl⟩:∃j,t=bo cs s+j-T:=#[T+t-bo cs s,05];have:=h.low (ds:=s.ds.set p<|s.ds.getD p 0+j) (τ:=bo cs s+j) 05 (by rw[S];lia) (λq k=>by
     have:=le q k;rw[C];split
     .rename_i e;subst e;lia
     .show this) (rj j 05) (by
     rw[C]at B ⊢;split
     .rename_i e;rw[if_pos e]at B;lia
     .show M) λq k D=>by
      have:=(hH q k D).1;have J:=(Z q k D).1;rw[C]at this ⊢;split
      .rename_i e;rw[if_pos e]at this;lia
      .show J
    rw[show T+(bo cs s+j-T)=bo cs s+j by lia];show this
 .have B:cb cs P<=(s.ds.set p<|s.ds.getD p 0+n).getD P 0:=B;by_cases e:p=P
  .subst e;rw[C,if_pos rfl]at B;have M:=zp.2;let#[#[e1,Y],Z,lo]:=v.at_ h w M;refine#[bo cs s+n,Ju7,Zy (ZE (ZA rP.symm) rp)<|jO _ O,λt t1 t2=>?_,?_]
   .by_cases c:T+t<=bo cs s
    .show lo t t1 c
    .obtain⟨j,rfl⟩:∃j,t=bo cs s+j-T:=#[T+t-bo cs s,05];have:=h.low (ds:=s.ds.set p<|s.ds.getD p 0+j) (τ:=bo cs s+j) 05 (by rw[S];lia) (λq k=>by
      have:=le q k;rw[C];split
      .rename_i e;subst e;lia
      .show this) (rj j 05) (by rw[C,if_pos rfl];lia) λq k D=>by rw[C,if_neg λe=>by subst e;show d9.mpr D<|ZA Q];show(Z q k D).1
     rw[show T+(bo cs s+j-T)=bo cs s+j by lia];show this
   .have s1:=h.sum<|bo cs s+n;have ac:lB rs cs s.ds p=[]:=by
     cases e:lB rs cs s.ds p with|nil=>rfl|cons z l=>
      have hz:z∈lB rs cs s.ds p:=by rw[e];show ZD ..
      let#[y,I,rfl]:=Z9.mp hz;let#[I,W]:=j9.mp I;simp![nv,Zr,decide_eq_true_eq]at W;have F:=LH (len:=cb cs p) I W.2;have E:=h.pe y I;lia
    have kp:ju rs cs s.ds p=dj cs p:=by unfold ju;rw[ac];rfl
    have key:sR cs.length (λq=>(s.ds.set p<|s.ds.getD p 0+n).getD q 0)=sR cs.length (fF cs a T g bC<|bo cs s+n):=DQ λq k=>by
     rw[C];unfold fF;by_cases c:dj cs q<=a
     .rw[if_neg<|show ¬(a:Int)<dj cs q by show cT.mpr c];have X:=h.st q k c;by_cases eq:p=q
      .subst eq;rw[if_pos rfl,if_pos #[c,X,sh 06 06]];lia
      .rw[if_neg eq];have lt:dj cs q<a:=mO λz=>eq (h.one q k<|i7 c<|cT.mp z).symm
       by_cases d:s.ds.getD q 0<cb cs q
       .have r1:bo cs s<aP cs q:=mO λz=>by have F:=(DN ip<|L q k d<|cT.mp z).1;have E:ju rs cs s.ds q<=dj cs q:=LG;show cT.mpr E<|ZF (ZF (ZF lt<|ZA Q.symm)<|ZA kp.symm) F
        have r2:=U q k d r1;have F:=v.nn q k;have E:=rd q k;rw[if_neg λz=>by have:=z.2.2;lia];by_cases y:0<s.ds.getD q 0
        .have:=E y;lia
        .lia
       .have F:=le q k;have E:aP cs q<bo cs s:=rd q k (by
         have:0<cb cs q:=by
          by_cases m:q∈s.lr++s.wa
          .have:=w.z q m;show Zy this.1 this.2
          .show hn q k
         show ZF this<|cT.mp d)
        rw[if_pos #[c,X,si E<|jO _ O]];lia
     .have D:(a:Int)<dj cs q:=d9.mp c;rw[if_neg λe=>by subst e;show d9.mpr D<|ZA Q,if_pos D,if_neg λz=>c z.1];let#[h1,J]:=Z q k D;have J:=J<|ZE (ZA rP.symm) rp;rcases h.wk with⟨_,_,z⟩|⟨H,lH,aH,uq,rH,sH,x,hx,fx,x1,x2,mx⟩
      .show absurd (z q k) c
      obtain rfl:=uq q k D;by_cases d:s.ds.getD q 0<g+bC
      .have m:=J2w (ds:=s.ds) hx (ZF (ZA x1) J)<|ZF d<|ZA x2.symm;have F:ju rs cs s.ds q<=fZ (rs.map (·.2)) x.1:=J8a m;let#[E,k3]:=DN ip<|L q k (Zy h1 sH)<|ZE (ZA rH) e1;have:=k3 (i7 (ZE (ZE (ZE F fx)<|ZA Q.symm)<|ZA kp.symm) E) ac;rw[this]at m;cases m
      .lia
    rw[S]at key;lia
  .rw[C,if_neg e]at B;let#[u,e1,Y]:=v.po B;show#[u,(Jru e).trans e1,Y]
def Jvi(h:iF rs cs a P T g bC)(j:fW rs cs)(six:∀r∈rs,r.2.length<=6):∃e,cR P (p8 kind rs cs).sr.reverse=V e/\Fx cs a T bC e:=by
 have z0:∀q,(s0 cs).ds.getD q 0=0:=ds0 cs;have hn:∀q,q<cs.length->0<cb cs q:=λq m=>by have:=(j.ok (cs.getD q cd)<|by rw[Zq,Zd m];show Z4 m).n1;change 0<(cs.getD q cd).len;assumption
 have g0:=h.g0;have b0:=h.b0;have tg:=h.tg;have D:=hn P h.lp;have r:=LI (kind:=kind) (rs:=rs) (cs:=cs) (Hq rs cs a P T g bC) (λs w ne v=>v.step h hn w ne) (8*cs.length) (s0 cs) (LD λc k=>(j.ok c k).n1) (t6 six λc k=>(j.ok c k).at_) #[λq _=>by rw[z0];show ZJ _,λq _ y=>by rw[z0]at y;lia,λ_=>#[λy=>?_,λq _ _=>#[by rw[z0];show Int.add_nonneg 06 06,λy=>?_],λt t1 t2=>?_],λy=>by rw[z0]at y;omega]
 .let#[B,C,u,i]:=r;show i.po (ZA (B.dn P h.lp<|by rw[C,u];simp).symm)
 .rw[YG λq _=>z0 q];have y:T-g<=0:=y;change 0-(T-g)=0;show i7 (yS _<|uT tg)<|uT y
 .have y:T<=0:=y;rw[z0];show ZE tg y
 .have t2:T+t<=0:=t2;lia
end
section
seal L4.run L4.WS
def tn(b:Hd):Int:=b.2.2-b.2.1-1
def hE(p:Nat×Hd):IV:=.tup [.int (p.1:Int),ao p.2]
noncomputable def oF (v:IV):Int:=match v with|.tup [_,.tup [_,.int s,.int e]]=>e-s-1|_=>0
def Jzh(l):(l=[]/\Ym oF .af (l.map hE)=.af)\/∃p∈l,Ym oF .af (l.map hE)=hE p/\∀p'∈l,tn p'.2<=tn p.2:=by
 cases l with|nil=>show .inl #[rfl,rfl]|cons j r=>
  calc .inr ?_;rw[ZN];change ∃p∈j::r,QI oF (hE j) (r.map hE)=hE p/\_;let#[u,J]:=BM oF (r.map hE)<|hE j;have m:∀p,QI oF (hE j) (r.map hE)=hE p->∀p'∈j::r,tn p'.2<=tn p.2:=λp e p' k=>by
   rw[e]at u J;rcases ZC.mp k with rfl|k
   .show u
   .show J _<|Z9.mpr #[p',k,rfl]
  rcases BL oF (r.map hE) (hE j)with e|e
  .show#[j,ZD,e,m j e]
  .let#[p,B,e]:=Z9.mp e;show#[p,Zt _ B,e.symm,m p e.symm]
def rA(hss:Wm)(a:Nat)(b:Hd):Bool:=decide (fZ hss b.1<=a)
def DR(hss:Wm)(a:Nat)(v:IV):Bool:=match v with|.tup [.str x,.int s,.int e]=>rA hss a (x,s,e)|_=>Zn
def LL(o:Int)(v:IV):IV:=.tup [.int o,v]
theorem DS(hss)(a o:Nat):∀hs:Tw,((hs.map ao).filter<|DR hss a).map (LL (o:Int))=((hs.filter<|rA hss a).map λb=>(o,b)).map hE
 |[]=>rfl
 |b::hs=>by
  rw[ZN,qr,qr];have e:DR hss a (ao b)=rA hss a b:=rfl;rw[e];split
  .rw[ZN,ZN,ZN,DS hss a o hs];rfl
  .show DS hss a o hs
def dP(rs:Tx)(a:Nat):Nat->List (Nat×Hd)
 |0=>[]
 |n+1=>dP rs a n++((rs.getD (a+1+n) rd).2.filter (rA (rs.map (·.2)) a)).map λb=>(a+1+n,b)
theorem LM:∀{n:Nat},x∈dP rs a n->a<x.1/\x.1<a+1+n/\x.2∈(rs.getD x.1 rd).2/\fZ (rs.map (·.2)) x.2.1<=a
 |0,h=>by cases h
 |n+1,h=>by
  rcases ZY.mp h with h|h
  .let#[j,J,k]:=LM h;show#[j,fP 06,k]
  .let#[b,Z,rfl]:=Z9.mp h;show#[by change a<a+1+n;show Zk _ _,by change a+1+n<_;show ZS _,(j9.mp Z).1,of_decide_eq_true (j9.mp Z).2]
theorem xY{a w:Nat}(l:a<w)(Z:b∈(rs.getD w rd).2)(f:fZ (rs.map (·.2)) b.1<=a):∀{n:Nat},w<a+1+n->(w,b)∈dP rs a n
 |0,h=>absurd 06<|ue 06
 |n+1,h=>by
  by_cases e:w=a+1+n
  .show Zo _ (Z9.mpr #[b,j9.mpr #[e▸Z,decide_eq_true f],by rw[e]])
  .show iJ _<|xY l Z f 05
theorem LN(six:∀r∈rs,r.2.length<=6):∀{n:Nat},(dP rs a n).length<=6*n
 |0=>Zl _
 |n+1=>by
  have:=LN (a:=a) six (n:=n);have J:=nH (rA (rs.map (·.2)) a) (rs.getD (a+1+n) rd).2;have j:(rs.getD (a+1+n) rd).2.length<=6:=by
   rw[Zq];cases e:rs[a+1+n]? with
   |none=>show ZW _
   |some r=>show six r<|oP e
  rw[dP,Z7,Zm];lia
def p9(rs:Tx)(a:Nat):IV:=Ym oF .af<|(dP rs a<|rs.length-(a+1)).map hE
def oV:Wg->IV|none=>.af|some p=>hE p
def HO(rs:Tx)(a:Nat)(o:Wg):Prop:=match o with|none=>dP rs a (rs.length-(a+1))=[]|some p=>p∈dP rs a (rs.length-(a+1))/\∀x∈dP rs a (rs.length-(a+1)),tn x.2<=tn p.2
def LO(rs)(a):∃o,p9 rs a=oV o/\HO rs a o:=by
 rcases Jzh (dP rs a<|rs.length-(a+1))with⟨e,e2⟩|⟨p,hp,e2,mx⟩
 .show#[Zg,e2,e]
 .show#[V p,e2,hp,mx]
section
variable{k:Nat}{h:IH}
theorem LP(b):w6 (k+1) [ao b] h=.ok (.int<|tn b) h:=Ju<|by rw[Jjs];show aq<|ax<|Jf (dB (dB (ai rfl rfl Qj)<|ai rfl rfl JI) rfl) #[rfl,rfl]
def J2c(k:h[j]?=V (.tab q))(hi:U[i]?=V (V<|.ref a)):WR (Yx gt q j js (Jb (Ja i) Je) m (eC d) U h) Q=WR (QR gt (λv h'=>m (V v::js.map λj=>(U[j]?).join) h') a (V d) h) Q:=by
 have e:Jb (Ja i) Je U h=.ok [.ref a] h:=by unfold Jb Ja Je;rw[hi];rfl
 unfold Yx;rw[e];change WR (match h[j]? with|some (.tab q')=>_|_=>_) Q=_;rw[k];dsimp only;rw[if_pos rfl];rfl
def LQ(ha:a<rs.length)(hd:bX h D rs)(cq:rs.length<=12)(six:∀r∈rs,r.2.length<=6)(h0:h[2]?=V (.tab "longest_hold")):
  WR (w7 (k+3) [.ref D,.int (a:Int)] h) λv h'=>v=p9 rs a/\Ex h h':=by
 have Z:=J4;let#[Y,gD,w]:=hd;let#[_,I,e1,t,u,rfl,gt,tv,O]:=(Lc (k:=k) gD w cq six).eq;have C:=O.get gD;have w1:=w.kp O.kp;have wl:=w.len;rw[Jgr];calc aq<|ae<|aj<|Jf (Jx (ak rfl) e1)<|ae<|aj<|Jf rfl (ae<|eW ?_);rw[Vz];calc Jf (ar (aN rfl rfl)<|dO rfl (grow C) xO (xx _) rfl (xP<|grow C)) ?_;rw[WK];calc#[05,?_];refine Qx (λm U h'=>∃(c:Te),U=[V<|.ref D,V<|.int (a:Int),V<|.ref t,V<|.ref I.length,c]/\h'[I.length]?=V (.lst<|(dP rs a m).map hE)/\Kp I h') (λ_ _ _ _=>trivial) ?_ ?_ #[Zg,rfl,Jo,(Ex.one _ _).kp]
 .rintro n hn _ J ⟨c,rfl,g2,B⟩;rw[Qw];rw[JH]at hn;have F:a+1+n<rs.length:=00;rw[show(a:Int)+1+(n:Int)=((a+1+n:Nat):Int) by push_cast;rfl];have L:rs[a+1+n]?=V rs[a+1+n]:=Zd F;have M:=Z4 F;have eg:rs.getD (a+1+n) rd=rs[a+1+n]:=by rw[Zq,L];rfl
  generalize rs[a+1+n]=r at L M eg;let#[j,ej,W]:=w1.get L;have av:a7 Y ((a+1+n:Nat):Int)=V (.ref j):=JE ej;have l6:=six r M;let#[_,_,S,rfl,gg,rfl]:=(YS (it:=Jw<|Jp (pg<|k+2) "held" 0 (Jp (pg<|k+2) "work" 1 'a'<|Jb 'e' Je) Je) (js:=[1,2,4]) (t:=CK<|k+2) (e:=Kj<|k+2) (U:=[V<|.ref D,V<|.int (a:Int),V<|.ref t,V<|.ref I.length,V<|.int ((a+1+n:Nat):Int)]) (h0:=J) (h:=J++[IX.lst<|r.2.map ao]) (xs:=r.2.map ao) (ba:=λh'=>h'[J.length]?=V (.lst<|r.2.map ao)) (p:=DR (rs.map (·.2)) a) (f:=LL ((a+1+n:Nat):Int))
   (by
    rw[JN];show Jf (dO (lu (B _ _ C) rfl rfl av) (B _ _ W) xG (xw _) rfl (xH<|B _ _ W))<|(JR _).mpr #[_,Jo,rfl,rfl,rfl]) (by rw[Zm];show Zb (Zk _ 999994)<|Zb (Zc (Zc l6 1) 999994) Z) (λG q=>q _ _ Jo) (by
    intro v H G q;let#[b,R,rfl]:=Z9.mp H;have z:=tv b.1;have Q:G[t]?=V (.a8 u):=q _ _<|grow<|B _ _ gt;cases E:cD (rs.map (·.2)) b.1 with|none=>unfold cD at E;rw[uj]at E;have:=E r.2<|Z9.mpr #[r,M,rfl];show absurd (show has b.1 r.2=Zj from mH.mpr #[b,R,decide_eq_true rfl])<|by rw[this];show Zx|some m=>
     rw[E]at z;have ev:aJ u (.inr b.1)=V (.int (m:Int)):=by cases w:aJ u (.inr b.1)with|none=>rw[w]at z;cases z|some v'=>rw[w]at z;show congrArg V z
     have fz:fZ (rs.map (·.2)) b.1=m:=by unfold fZ;rw[E]
     unfold CK;calc Jf (xy ((aG rfl (ai rfl rfl JU)).trans<|Ju<|by rw[Ll Q ev];show#[rfl,rfl]) rfl) #[?_,.refl _];change decide ((m:Int)<=a)=decide (fZ (rs.map (·.2)) b.1<=a);rw[fz]) (by
    intro v H _ G q;show Jf (iC (ar rfl rfl) rfl) #[rfl,.refl _])).eq
  have lr:=nH (rA (rs.map (·.2)) a) r.2;have lf:=LN (a:=a) six (n:=n);rw[DS]at S;have P:∀{i:Nat}{o o':IX}{g:IH},J[i]?=V o->(J++[IX.lst<|r.2.map ao]++o'::g)[i]?=V o:=λe=>(Ex.cons _ _ _).get<|grow e
  calc gH rfl (Ql<|QO rfl g2 BD (Jf (ak S) ?_));rw[BH (xs:=(dP rs a n).map hE) (P g2) J1 (by rw[Zm,Zm,Zm];lia),<-jv];calc#[_,rfl,?_,λj o e=>J8 (P<|B _ _ e) (by have:=JJ e;show dC this)];rw[dP,eg];show Qe<|P g2
 .rintro _ J ⟨c,rfl,g2,B⟩;rw[JH,show((Y.length:Int)-((a:Int)+1)).toNat=rs.length-(a+1) by omega]at g2;have x2:=O.trans<|xQ B;calc ax ?_;rw[J2c (x2.get h0) rfl];refine WR.mono (W9 (kf:=oF) g2 ?_) ?_
  .intro v H G X;let#[p,hp,rfl]:=Z9.mp H;show Jf (Jx (ak<|ai rfl rfl JI)<|LP p.2) #[rfl,.refl _]
  .rintro v G ⟨rfl,X⟩;show#[rfl,x2.trans X]
end
end
section
seal L4.run L4.WS L4.WR
def cA(s:Int)(d:WD):Int:=if 1<=s then iD (s+d.ag) d.gap else 0
def Q8(rs:Tx)(s:Int):Int:=(rs.map λr=>cA s r.1*r.1.len).sum
def Jpa{rs:Tx}(hn:n<rs.length):Q8 (rs.take<|n+1) s=Q8 (rs.take n) s+cA s (rs[n]).1*(rs[n]).1.len:=by unfold Q8;rw[nG hn,jv,ux];simp
def cm(s:Int)(a:Nat)(d:WD)(x:Int):Cm:=#[a,x,if s-x>0 then s-x else 0,d.len]
noncomputable def Qu (s:Int)(d:WD)(n:Nat):To:=(ZM n).map λ(t:Nat)=>s-d.ag+(t:Int)*d.gap
def iG(s:Int)(a:Nat)(d:WD)(n:Nat):Tz:=(Qu s d n).map<|cm s a d
def Jj(rs:Tx)(n:Nat):WD:=(rs.getD n rd).1
def QG(hn:n<rs.length):Jj rs n=(rs[n]).1:=by unfold Jj;rw[Zq,Zd hn];rfl
def xZ(s)(a)(d)(n):(iG s a d n).length=n:=by simp[iG,Qu]
noncomputable def gO:Wg->Int|none=>0|some p=>p.2.2.1+1
def QE(rs:Tx)(a:Nat)(o:Wg):To:=(rs.take<|a+1).map (λr=>r.1.ag)++[gO o]
def tO(rs:Tx)(a:Nat)(o:Wg):Int:=JM (λi=>(QE rs a o).getD i 0) (QE rs a o).length
def cP(rs:Tx)(a:Nat):Int:=(Jj rs a).bK-(Jj rs a).ag
def kW(rs:Tx)(T:Int)(o:Wg):Tz:=match o with|none=>[]|some p=>[#[p.1,T-gO (V p),0,(Jj rs p.1).len]]
def hJ(rs:Tx)(T sp:Int):Nat->Tz|0=>[]|n+1=>hJ rs T sp n++iG T n (Jj rs n) (cA sp<|Jj rs n).toNat
def JA(rs:Tx)(a:Nat)(o:Wg):Tz:=kW rs (tO rs a o) o++hJ rs (tO rs a o) (cP rs a) a++iG (tO rs a o) a (Jj rs a) 1
theorem DT{T sp:Int}(c:∀n,n<a->(cA sp<|Jj rs n).toNat<=m):∀n,n<=a->(hJ rs T sp n).length<=m*n|0,_=>Zl _|n+1,h=>by have:=DT (T:=T) c n 00;have:=c n 00;rw[hJ,Z7,xZ,Nat.mul_succ];omega
noncomputable def DU (s:Int)(d:WD)(v:IV):IV:=match v with|.int t=>.int<|s-d.ag+t*d.gap|_=>.af
def LR(s:Int)(a:Nat)(d:WD)(v:IV):IV:=match v with|.int x=>aB<|cm s a d x|_=>.af
section
variable{k:Nat}{h:IH}{s:Int}
def LS(j:h[w]?=V (.ins "Work"<|gZ d.name d.gap d.len d.bK d.ag hs))(m:0<d.gap)(u:d.gap.natAbs.log2<9000):w8 (k+2) [.ref w,.int s] h=.ok (.int<|cA s d) h:=by
 calc Ju ?_;rw[Jjo];refine aq<|ax<|jn<|Jf (KJ rfl rfl)<|iA (λq=>?_) λq=>?_
 .calc Jf (Jx (ar (aN rfl (au rfl j kn))<|au rfl j pX)<|KR m u) #[?_,rfl];unfold cA;rw[if_pos q]
 .calc Jf rfl #[?_,rfl];unfold cA;rw[if_neg q]
def LU{D a n:Nat}(hd:bX h D rs)(ha:a<rs.length)(hn:n<=100):
  WR (xg (k+2) [.ref D,.int (a:Int),.int s,.int (n:Int)] h) λv h'=>∃i,v=.ref i/\h.length<=i/\h'[i]?=V (.lst<|(iG s a (Jj rs a) n).map aB)/\Ex h h':=by
 have Z:=J4;let#[O,H,w]:=hd;let#[j,M,m]:=w.get<|Zd ha;rw[QG ha];generalize rs[a]=r at m;have L:a7 O (a:Int)=V (.ref j):=JE M;let#[_,_,E,rfl,g1,rfl]:=(Qg (it:=c4 Qd<|Jb 'd' Je) (js:=[2,4]) (e:=CL<|k+1) (U:=[V<|.ref D,V<|.int (a:Int),V<|.int s,V<|.int (n:Int),V<|.ref j,Zg]) (h0:=h) (h:=h) (xs:=aX 0 (n:Int)) (ba:=λ_=>True) (f:=DU s r.1)
  (by
   rw[Vz];calc Jf (ak rfl) ?_;rw[Xs];show#[00,rfl,rfl,rfl]) (by rw[JH];omega) (λ_ _=>trivial) (by
   intro v B J q;let#[t,I,rfl]:=ZX.mp B;rw[JH]at I;rw[Qw];unfold CL;show Jf (aN (dB rfl (au rfl (q _ _ m) kn))<|gG rfl (au rfl (q _ _ m) pX) (.inl 00)) #[rfl,.refl _])).eq
 have G:(aX 0 (n:Int)).map (DU s r.1)=(Qu s r.1 n).map IV.int:=by
  refine mI (by simp[JH,Qu]) λi F J=>?_
  rw[ZO,Qw];simp[Qu,DU]
 rw[G]at E;have u:Ex h (h++IX.lst ((Qu s r.1 n).map IV.int)::g1):=.cons _ _ _;have g2:(h++IX.lst ((Qu s r.1 n).map IV.int)::g1)[h.length]?=V (.lst<|(Qu s r.1 n).map IV.int):=J1;generalize h++IX.lst ((Qu s r.1 n).map IV.int)::g1=F at u g2 E;rw[Jnd];calc aq<|ae<|aj<|Jf (lu H rfl rfl L)<|ae<|aj<|Jf E<|ax ?_;refine WR.mono (Qg (h:=F) (xs:=(Qu s r.1 n).map IV.int) (ba:=λh'=>h'[h.length]?=V (.lst<|(Qu s r.1 n).map IV.int)) (f:=LR s a r.1) ?_ (by rw[Zm];simp[Qu];omega) (λJ q=>q _ _ g2) ?_) ?_
 .rw[JN];show Jf rfl ((JR _).mpr #[_,g2,rfl,rfl,rfl])
 .intro v B J q;let#[x,Q,rfl]:=Z9.mp B;unfold Km;show Jf (iC (gF rfl rfl (nt rfl (dB rfl rfl)) (au rfl (q _ _<|u.get m) oy)) rfl) #[rfl,.refl _]
 .rintro _ _ ⟨rfl,P,rfl⟩;have C:((Qu s r.1 n).map IV.int).map (LR s a r.1)=(iG s a r.1 n).map aB:=by unfold iG;rw[eO,eO];rfl
  rw[C];show#[_,rfl,u.len,J1,u.trans<|.cons _ _ _]
end
end
section
seal L4.run L4.WS L4.WR
section
variable{k:Nat}{h:IH}{U:aI}
theorem DV(e:Ja 2 U h=.ok (oV o) h):kM (Ji aR<|Jc mZ 'c'<|eC .af) '0' (Jc Jr (Jc Jg (Jc Jg 'c' '1') '1') '1') U h=.ok (.int<|gO o) h:=Ju (by cases o with|none=>show jn (Jf (br<|(aG e rfl).trans rfl) #[λ_=>Jf rfl #[rfl,rfl],λz=>by cases z])|some p=>show jn<|Jf (br<|(aG e rfl).trans rfl) #[(λz=>by cases z),λ_=>Jf (aN (ai (ai e rfl JI) rfl JI) rfl) #[rfl,rfl]])
theorem t7(k:a U h=.ok (.ref i) h1)(m:b U h1=.ok (.ref j) J)(u:J[i]?=V (.lst xs))(B:J[j]?=V (.lst ys))(l:xs.length+ys.length<=1000):Jc Jr a b U h=.ok (.ref J.length) (J++[.lst<|xs++ys]):=(aG k m).trans (Ju<|(wJ ..).mpr #[_,u,_,B,by have:=J4;omega,rfl,rfl])
def DX(j:a U h=.ok (.ref i) h1)(g:h1[i]?=V (.lst<|ms.map .int))(ne:ms≠[]):aW (aO Vh) (Jb a Je) U h=.ok (.int<|JM (λi=>ms.getD i 0) ms.length) h1:=by rw[eE<|ak j];show Ju (by change WR (Vh (.ref i) h1) _;rw[J2e g ne];show#[rfl,rfl])
def Yp(j:0<d.gap)(k:0<=d.ag):0<=cA s d:=by
 unfold cA;split
 .unfold iD;show sg 00 00
 .show ZJ _
def Jsf{T:Int}(ha:a<rs.length)(cq:rs.length<=12)(gl:∀r∈rs,0<r.1.gap/\r.1.gap.natAbs.log2<9000/\0<=r.1.ag)(hm:m<=12)(cn:∀n,n<a->(cA (cP rs a)<|Jj rs n).toNat<=m)(d:bX h D rs)(k5:Kp h h5)(l1:cs.length<=1)(X:h5[h.length]?=V (.lst<|cs.map aB))(q:∀h',h'[h.length]?=V (.lst<|(cs++hJ rs T (cP rs a) a++iG T a (Jj rs a) 1).map aB)->Kp h h'->Q (.tup [.ref h.length,.int<|((cs++hJ rs T (cP rs a) a++iG T a (Jj rs a) 1).length:Nat)-1]) h'):
  WS (CO (k+3) [V<|.ref D,V<|.int (a:Int),v2,v3,V<|.int T,V<|.ref h.length,Zg,Zg] h5) N Q:=by
 have Z:=J4;have wk:∀{h':IH},Kp h h'->∀n,n<rs.length->∃j,(∀{k:Nat}{o e:E1}{U:aI},o U h'=.ok (.ref D) h'->e U h'=.ok (.int (n:Int)) h'->Jp (pg<|k+1) "work" 1 o (Jb e Je) U h'=.ok (.ref j) h')/\h'[j]?=V (wo<|rs.getD n rd):=λ{h'} kp n hn=>by let#[vs,gD,w]:=d.kp kp;let#[j,J,F]:=w.get<|Zd hn;show#[j,λS ee=>lu gD S ee<|JE J,by rw[Qp hn];show F]
 let#[ja,O,ga]:=wk k5 a ha;calc ae<|aj<|Jf (dB (au (O rfl rfl) ga rn)<|au (O rfl rfl) ga kn)<|ae<|lh (n:=a) rfl 00 ?_;have M:∀n,n<=a->(cs++hJ rs T (cP rs a) n).length<=150:=λn hn=>by have:=DT (T:=T) cn n hn;have:m*n<=12*12:=Nat.mul_le_mul hm 00;rw[Z7];omega
 refine Qx (λn U h'=>∃c,U=[V<|.ref D,V<|.int (a:Int),v2,v3,V<|.int T,V<|.ref h.length,V<|.int<|cP rs a,c]/\Kp h h'/\h'[h.length]?=V (.lst<|(cs++hJ rs T (cP rs a) n).map aB)) (λ_ _ _ _=>trivial) ?_ ?_ #[Zg,rfl,k5,by rw[hJ,jK];show X]
 .rintro n hn _ h6 ⟨c,rfl,E,B⟩;rw[JH]at hn;have G:n<a:=00;have u:n<rs.length:=00;rw[Qw,show(0+(n:Int))=(n:Int) by omega];let#[j,J,F]:=wk E n u;obtain⟨P,Y,y3⟩:0<(rs.getD n rd).1.gap/\(rs.getD n rd).1.gap.natAbs.log2<9000/\0<=(rs.getD n rd).1.ag:=by rw[Qp u];show gl _<|Z4 u
  have c1:=cn n G;have ec:cA (cP rs a) (Jj rs n)=((cA (cP rs a)<|Jj rs n).toNat:Int):=by have:0<=cA (cP rs a) (Jj rs n):=Yp P y3;omega
  let#[_,W,H,i,rfl,R,I,C]:=(LU (k:=k+1) (s:=T) (n:=(cA (cP rs a)<|Jj rs n).toNat) (d.kp E) u 00).eq;calc gH rfl (Ql<|QO rfl B BD (Jf (ak<|Jx (gF rfl rfl rfl (dq (Jx (ar (J rfl rfl) rfl)<|LS F P Y)<|congrArg IV.int ec)) H) ?_));rw[BH (C.get B) I (by have:=M n 00;rw[Zm,Zm,xZ];omega)];calc#[_,rfl,λi ob e=>J8 (C.get<|E _ _ e) (by have:=JJ e;omega),?_];rw[hJ,<-iW,jv (l₂:=iG _ _ _ _)];show Qe<|C.get B
 .rintro _ h6 ⟨c,rfl,E,B⟩;rw[JH,show((a:Int)-0).toNat=a by omega]at B;let#[_,W,H,i,rfl,R,I,C]:=(LU (k:=k+1) (s:=T) (n:=1) (d.kp E) ha 01).eq;calc ae<|Ql<|QO rfl B BD (Jf (ak<|Jx (gF rfl rfl rfl rfl) H) ?_);rw[BH (C.get B) I (by have:=M a (Zl _);rw[Zm,Zm,xZ];omega),<-jv];have L:=Qe (o':=IX.lst<|(cs++hJ rs T (cP rs a) a++iG T a (Jj rs a) 1).map aB)<|C.get B;calc ax<|Jf (iC (ar rfl (dB (dh rfl L) rfl)) rfl) ?_;rw[Zm];show q _ L λi ob e=>J8 (C.get<|E _ _ e) (by have:=JJ e;omega)
def Jpw(ha:a<rs.length)(hd:bX h D rs)(cq:rs.length<=12)(six:∀r∈rs,r.2.length<=6)(gl:∀r∈rs,0<r.1.gap/\r.1.gap.natAbs.log2<9000/\0<=r.1.ag)(t0:h[2]?=V (.tab "longest_hold"))(X:p9 rs a=oV o)(lo:∀p,o=V p->p.1<rs.length)(hm:m<=12)(cn:∀n,n<a->(cA (cP rs a)<|Jj rs n).toNat<=m):
  WR (Ce (k+4) [.ref D,.int (a:Int)] h) λv h'=>∃R,v=.tup [.ref R,.int<|(JA rs a o).length-1]/\h.length<=R/\h'[R]?=V (.lst<|(JA rs a o).map aB)/\Ex h h':=by
 have Z:=J4;let#[_,u,e1,rfl,O]:=(LQ (k:=k) ha hd cq six t0).eq;rw[X]at e1;let#[M,Y,w]:=id<|hd.kp O.kp;have wl:=w.len;have wk:∀n:Nat,n<rs.length->∃j,a7 M (n:Int)=V (.ref j)/\u[j]?=V (wo<|rs.getD n rd):=λn hn=>by let#[j,G,E]:=w.get<|Zd hn;show#[j,JE G,by rw[Qp hn];show E]
 let#[ja,aa,ga]:=wk a ha;let#[_,_,e2,rfl,g2,rfl]:=(Qg (it:=Jw<|gX ir (Jq "works" 'a') Q5<|Qq<|Jc Jr 'b' '1') (js:=[]) (e:=CM<|k+3) (U:=[V<|.ref D,V<|.int (a:Int),V<|oV o,V<|.int<|gO o,Zg,Zg,Zg,Zg]) (h0:=u) (h:=u) (xs:=M.take<|a+1) (ba:=λ_=>True) (f:=lj "late" u)
  (by
   rw[JN];calc(VE ..).mpr<|Jf (au rfl Y tM)<|Jf rfl ((wH ..).mpr<|Jf (aN rfl rfl) #[_,rfl,Jf rfl ?_]);rw[show(V<|(a:Int)+1)=V ((a+1:Nat):Int)from rfl,Yq];show(Hk _).mpr #[rfl,rfl,rfl]) (by rw[e9];show Zb (Zk _ 999988)<|Zb (Zc (Zb (Zb (Zc (jI _ _) 1)<|Zc (Zi wl) 1)<|Zc cq 1) 999988) Z) (λ_ _=>trivial) (by
   intro v hv J q;let#[d,_,j,hs,rfl,e]:=w.w.of<|oQ hv;unfold CM;show Jf (au rfl (q _ _ e) kn) #[by rw[lj,QB e,kn];rfl,.refl _])).eq
 have em:(M.take<|a+1).map (lj "late" u)=((rs.take<|a+1).map λr=>r.1.ag).map IV.int:=by rw[uA,w.w.nu (F:=lj "late" u) (g:=λd=>.int d.ag) λj d hs e=>by rw[lj,QB e,kn];rfl,<-uA,<-uA,eO,eO];rfl
 rw[em]at e2;have l3:((rs.take<|a+1).map λr=>r.1.ag).length<=12:=by rw[Zm,e9];show Zb (jI _ _) cq
 generalize hl:((rs.take<|a+1).map λr=>r.1.ag)=C at e2 l3;have e3:=t7 (U:=[V<|.ref D,V<|.int (a:Int),V<|oV o,V<|.int<|gO o,Zg,Zg,Zg,Zg]) e2 (cO (ak (a:=Ja 3) rfl) rfl) (grow J1) Jo (by rw[Zm];change _+1<=_;show Zb (Zc l3 1)<|Zk _ 987);have L:Ex u (u++IX.lst (C.map IV.int)::g2++[IX.lst [IV.int<|gO o]]++[IX.lst<|C.map IV.int++[IV.int<|gO o]]):=(Ex.cons _ _ _).trans<|(Ex.one _ _).trans<|.one _ _;have g3:(u++IX.lst (C.map IV.int)::g2++[IX.lst [IV.int<|gO o]]++[IX.lst<|C.map IV.int++[IV.int<|gO o]])[(u++IX.lst (C.map IV.int)::g2++[IX.lst [IV.int<|gO o]]).length]?=V (.lst<|(QE rs a o).map .int):=by rw[QE,hl,jv];show Jo
 have I:=DX e3 g3<|by unfold QE;simp
 generalize u++IX.lst (C.map IV.int)::g2++[IX.lst [IV.int<|gO o]]++[IX.lst<|C.map IV.int++[IV.int<|gO o]]=B at L I;have I:_=Res.ok (IV.int<|tO rs a o) B:=I;have d3:=(hd.kp O.kp).kp L.kp;have W:=(O.trans L).len;have S:∀{h':IH},Kp B h'->Ex h h':=λq=>(O.trans L).trans<|xQ q
 have Q:∀n,n<rs.length->∃j,(∀{k:Nat}{h':IH}{o e:E1}{U:aI},Kp B h'->o U h'=.ok (.ref D) h'->e U h'=.ok (.int (n:Int)) h'->Jp (pg<|k+1) "work" 1 o (Jb e Je) U h'=.ok (.ref j) h')/\B[j]?=V (wo<|rs.getD n rd):=λn hn=>by let#[M,Y,w]:=d3;let#[j,G,E]:=w.get<|Zd hn;show#[j,λkp X ee=>lu (kp _ _ Y) X ee<|JE G,by rw[Qp hn];show E]
 rw[Jpn];calc aq<|ae<|aj<|Jf (Jx (ar rfl rfl) e1)<|ae<|aj<|Jf (DV rfl)<|ae<|aj<|Jf I<|ae<|aj<|Jf (cO rfl rfl)<|ae ?_;have fin:∀(P:IH)(H:Tz),H=kW rs (tO rs a o) o->Kp B P->H.length<=1->P[B.length]?=V (.lst<|H.map aB)->WS (CO (k+3) [V<|.ref D,V<|.int (a:Int),V<|oV o,V<|.int<|gO o,V<|.int<|tO rs a o,V<|.ref B.length,Zg,Zg] P) (λ_ h'=>∃R,IV.af=.tup [.ref R,.int<|(JA rs a o).length-1]/\h.length<=R/\h'[R]?=V (.lst<|(JA rs a o).map aB)/\Ex h h') λv h'=>∃R,v=.tup [.ref R,.int<|(JA rs a o).length-1]/\h.length<=R/\h'[R]?=V (.lst<|(JA rs a o).map aB)/\Ex h h':=λP H e k5 l1 g5=>by subst e;show Jsf ha cq gl hm cn d3 k5 l1 g5 λh' g' k'=>#[_,rfl,W,g',S k']
 cases o with|none=>show aL (br rfl)<|aE<|fin _ [] rfl (Ex.one _ _).kp (ZW _) Jo|some p=>
  let#[j,G,E]:=Q p.1<|lo p rfl;have e0:∀h',Jc Jg 'c' '0' [V<|.ref D,V<|.int (a:Int),V<|oV<|V p,V<|.int<|gO<|V p,V<|.int<|tO rs a<|V p,V<|.ref B.length,Zg,Zg] h'=.ok (.int (p.1:Int)) h':=λh'=>ai rfl rfl JU
  calc jq (br rfl) (Ql<|QO rfl Jo Xc (Jf (ak<|iC (gF (e0 _) (dB rfl rfl) rfl (au (G (Ex.one _ _).kp rfl (e0 _)) (grow E) oy)) rfl)<|jr Jo (by change 0<_;show lI 06) ?_));rw[VS];show fin _ [#[p.1,tO rs a (V p)-gO (V p),0,(Jj rs p.1).len]] rfl (λi ob e=>grow e) (Zl _) Jo
end
end
def nest(ok:fN len hs)(m:x∈hs)(u:y∈hs)(l1:x.2.1<y.2.1)(l2:y.2.1<x.2.2):y.2.2<=x.2.2:=by
 let#[i,B,rfl]:=ZX.mp m;let#[j,k,rfl]:=ZX.mp u;have C:=(ok.each _<|Z4 k).2.2.1;rcases Nat.lt_trichotomy i j with h|h|h
 .rcases ok.tK i j h k with z|z|⟨_,z|z⟩<;>omega
 .subst h;show ZJ _
 .rcases ok.tK j i h B with z|z|⟨_,z|z⟩<;>omega
section
variable{rs:Tx}{a:Nat}{T sp:Int}
def x8(h:c∈iG T n d m):∃t:Nat,t<m/\c=cm T n d (T-d.ag+(t:Int)*d.gap):=by unfold iG Qu at h;let#[x,k,rfl]:=Z9.mp h;let#[t,j,rfl]:=Z9.mp k;show#[t,hU.mp j,rfl]
theorem XQ:∀{n:Nat},c∈hJ rs T sp n->∃w t:Nat,w<n/\t<(cA sp<|Jj rs w).toNat/\c=cm T w (Jj rs w) (T-(Jj rs w).ag+(t:Int)*(Jj rs w).gap)
 |0,h=>by cases h
 |n+1,h=>by
  rcases ZY.mp h with h|h
  .let#[w,t,k,J]:=XQ h;show#[w,t,fP 06,J]
  .let#[t,j,e]:=x8 h;show#[n,t,ZS _,j,e]
def DY(rs:Tx)(x y:Cm):Prop:=x.at_=y.at_->x.cj+(Jj rs x.at_).gap<=y.cj
def LV(g:0<(Jj rs n).gap):(iG T n (Jj rs n) m).Pairwise (DY rs):=by unfold iG Qu;rw[eO,uo];calc List.pairwise_lt_range.imp λ{i j} l _=>?_;change T-_+(i:Int)*(Jj rs n).gap+(Jj rs n).gap<=T-_+(j:Int)*(Jj rs n).gap;obtain⟨e,rfl⟩:∃e:Nat,j=i+1+e:=#[j-i-1,by(rw[Nat.sub_sub];show ZQ (Zi (lE l).symm)<|iT l<|Zl _)];have:=Int.mul_nonneg (iL e)<|ZG g;simp![yR,o7];lia
theorem LX(g:∀n,n<a->0<(Jj rs n).gap):∀n,n<=a->(hJ rs T sp n).Pairwise (DY rs)|0,_=>.nil|n+1,h=>qp.mpr #[LX g n<|Z3 h,LV<|g n<|h,λx k y j e=>by let#[w,t,hw,_,rfl]:=XQ k;let#[_,_,rfl]:=x8 j;show absurd (show w=n from e)<|Zv hw]
def DZ:jt (cm T n d x)=if T<x then x else T:=by unfold jt cm;dsimp only;split<;>split<;>lia
structure Wk(rs:Tx)(a:Nat)(o:Wg)(m:Nat):Prop where
 ha:a<rs.length
 ok:∀r∈rs,0<r.1.gap/\0<=r.1.ag/\1<=r.1.len/\fN r.1.len r.2
 ho:HO rs a o
 cn:∀n,n<a->(cA (cP rs a)<|Jj rs n).toNat<=m
variable{o:Wg}{m:Nat}
def Wk.at_(W:Wk rs a o m)(hn:n<rs.length):0<(Jj rs n).gap/\0<=(Jj rs n).ag/\1<=(Jj rs n).len:=by rw[QG hn];have:=W.ok _<|Z4 hn;show#[this.1,this.2.1,this.2.2.1]
def Wk.p(W:Wk rs a o m){p:Nat×Hd}(e:o=V p):a<p.1/\p.1<rs.length/\p.2∈(rs.getD p.1 rd).2/\fZ (rs.map (·.2)) p.2.1<=a/\fN (Jj rs p.1).len (rs.getD p.1 rd).2/\∀y∈(rs.getD p.1 rd).2,fZ (rs.map (·.2)) y.1<=a->tn y<=tn p.2:=by subst e;have ha:=W.ha;let#[B,C]:=W.ho;let#[j,J,u,k]:=LM B;have J:p.1<rs.length:=Zb J<|iT ha<|Zl _;calc#[j,J,u,k,?_,λy D E=>C (p.1,y)<|xY j D E 00];unfold Jj;rw[Qp J];show(W.ok _<|Z4 J).2.2.2
def LY(rs)(a)(o):gO o<=tO rs a o/\∀n,n<=a->n<rs.length->(Jj rs n).ag<=tO rs a o:=by
 have j:∀x∈QE rs a o,x<=tO rs a o:=λx m=>by
  let#[i,k,rfl]:=ZX.mp m;have:=BG (λi=>(QE rs a o).getD i 0) (QE rs a o).length i k;have e:(QE rs a o).getD i 0=(QE rs a o)[i]:=by rw[Zq,Zd k];rfl
  rw[<-e];show this
 calc#[j _<|Zo _<|Z6.mpr rfl,λn u J=>j _<|iJ _<|Z9.mpr #[rs[n],?_,(congrArg WD.ag<|QG J).symm]];show oP (i:=n)<|by rw[yn<|lG 06,Zd J]
def LZ(W:Wk rs a o m):0<=gO o:=by cases o with|none=>show ZJ _|some p=>let#[_,_,j,_,k,_]:=W.p rfl;have:=(k.each _ j).2.1;change 0<=p.2.2.1+1;show ZG<|Zy this<|jO _ 01
def x9(h:c∈JA rs a o):(∃p,o=V p/\c=#[p.1,tO rs a o-gO o,0,(Jj rs p.1).len])\/∃w t:Nat,(w<a/\t<(cA (cP rs a)<|Jj rs w).toNat\/w=a/\t=0)/\c=cm (tO rs a o) w (Jj rs w) (tO rs a o-(Jj rs w).ag+(t:Int)*(Jj rs w).gap):=by
 rcases ZY.mp h with h|h
 .rcases ZY.mp h with h|h
  .cases o with|none=>cases h|some p=>show .inl #[p,rfl,Z6.mp h]
  .let#[w,t,j,J,e]:=XQ h;show .inr #[w,t,.inl #[j,J],e]
 .let#[t,k,e]:=x8 h;show .inr #[a,t,.inr #[rfl,by show qg 06],e]
def L1(W:Wk rs a o m):fW rs (JA rs a o):=by
 have ha:=W.ha;let#[tg,L]:=LY rs a o;refine#[λc O=>?_,λi j x y E ex P e r I=>?_]
 .rcases x9 O with⟨p,e,rfl⟩|⟨w,t,B,rfl⟩
  .let#[_,J,_]:=W.p e;let#[_,G,D]:=W.at_ J;rw[QG J]at *;show#[J,by change 0<=_-_;show uT tg,ZJ _,G,D,ZJ _]
  .have C:w<rs.length:=B.elim (λu=>(Z3<|Zb (Zc u.1 1) ha)) λu=>(Zb (Zc (Zi u.1) 1) ha)
   let#[J,G,D]:=W.at_ C;have Q:=L w (B.elim (λu=>(Z3 u.1)) λu=>(Zi u.1)) C;have:=Int.mul_nonneg (iL t)<|ZG J;rw[QG C]at *;refine#[C,by change 0<=_-_+_;show ZE (uT Q)<|o4 this,?_,?_,D,ZJ _]
   .unfold cm;dsimp only;split<;>(first|show ZJ _|show ZG 06|omega)
   .unfold cm;dsimp only;split<;>omega
 .have S:(JA rs a o).Pairwise (DY rs):=by
   refine qp.mpr #[qp.mpr #[?_,LX (a:=a) (λn hn=>(W.at_<|qk 06 06).1) a<|Zl _,λx k y F e=>?_],LV (W.at_ ha).1,λx k y F e=>?_]
   .cases o with|none=>show .nil|some p=>show List.pairwise_singleton _ _
   .cases o with|none=>cases k|some p=>let#[w,t,B,_,rfl]:=XQ F;rw[Z6.mp k]at e;have:=(W.p rfl).1;show absurd (show p.1=w from e)<|dC<|Z3<|Zb (Zc B 1) this
   .let#[_,_,rfl]:=x8 F;rcases ZY.mp k with k|k
    .cases o with|none=>cases k|some p=>rw[Z6.mp k]at e;have:=(W.p rfl).1;show absurd (show p.1=a from e)<|dC this
    .let#[w,t,B,_,rfl]:=XQ k;show absurd (show w=a from e)<|Zv B
  let#[R,rfl]:=Zs.mp ex;let#[H,rfl]:=Zs.mp P;have:=(Eb.mp S) i j R H E e;let#[M,rfl]:=Zs.mp I;rw[QG M]at this;show this
def bO:Wg->Int|none=>0|some p=>tn p.2
def pre(rs:Tx)(a:Nat)(o:Wg):Tz:=kW rs (tO rs a o) o++hJ rs (tO rs a o) (cP rs a) a
theorem Xj:JA rs a o=pre rs a o++[cm (tO rs a o) a (Jj rs a)<|tO rs a o-(Jj rs a).ag+((0:Nat):Int)*(Jj rs a).gap]:=rfl
def L6(W:Wk rs a o m)(j:q<(pre rs a o).length):((JA rs a o).getD q cd).at_≠a/\(a<((JA rs a o).getD q cd).at_->q=0):=by
 have e:(JA rs a o).getD q cd=(pre rs a o)[q]:=by rw[Xj,Zq,ZV j,Zd j];rfl
 rw[e];by_cases l:q<(kW rs (tO rs a o) o).length
 .have k:(pre rs a o)[q]=(kW rs (tO rs a o) o)[q]:=List.getElem_append_left l;rw[k];cases o with|none=>show absurd l<|oM _|some p=>
   have z:q=0:=by have:q<1:=l;show qg 06
   subst z;have:=(W.p rfl).1;show#[by change p.1≠a;show dC this,λ_=>rfl]
 .have B:(pre rs a o)[q]∈hJ rs (tO rs a o) (cP rs a) a:=by have k:(pre rs a o)[q]=(hJ rs (tO rs a o) (cP rs a) a)[q-(kW rs (tO rs a o) o).length]'(by unfold pre at j;rw[Z7]at j;show Nat.sub_lt_left_of_lt_add (ZI l) j):=List.getElem_append_right<|ZI l;rw[k];show Z4 _
  let#[w,t,u,_,C]:=XQ B;rw[C];show#[by change w≠a;show Zv u,λz=>absurd (show a<w from z)<|ue<|Z3 u]
def Jse(W:Wk rs a o m):iF rs (JA rs a o) a (pre rs a o).length (tO rs a o) (gO o) (bO o):=by
 have ha:=W.ha;let#[tg,I]:=LY rs a o;have g0:=LZ W;have len:(JA rs a o).length=(pre rs a o).length+1:=by rw[Xj,Z7];rfl
 have F:(JA rs a o).getD (pre rs a o).length cd=cm (tO rs a o) a (Jj rs a) (tO rs a o-(Jj rs a).ag+((0:Nat):Int)*(Jj rs a).gap):=by rw[Xj,Zq,ZU<|Zl _,uh];rfl
 have mem:∀q,q<(JA rs a o).length->(JA rs a o).getD q cd∈JA rs a o:=λq H=>by rw[Zq,Zd H];show Z4 H
 let#[wa,Q,R]:=W.at_ ha;have P:=I a (Zl _) ha;refine#[Zi len.symm,by unfold dj;rw[F];rfl,?_,g0,?_,tg,λq u j=>?_,λq u j=>?_,λx k=>?_,?_]
 .unfold aP;rw[F,DZ,if_neg 05]
 .cases o with|none=>show ZJ _|some p=>let#[_,_,D,_,E,_]:=W.p rfl;have:=(E.each _ D).2.2.1;change 0<=tn p.2;unfold tn;lia
 .rcases x9 (mem q u)with⟨p,e,e2⟩|⟨w,t,_,e2⟩
  .have:=(W.p e).1;unfold dj at j;rw[e2]at j;have j:(p.1:Int)<=a:=j;lia
  .unfold aP;rw[e2,DZ];split<;>(first|show ZJ _|show ZG 06|omega)
 .by_cases l:q<(pre rs a o).length
  .have:=(L6 W l).1;unfold dj at j;lia
  .show ZQ (ZZ (b:=1)<|Zb u<|Zi len)<|ZI l
 .unfold eN at k;unfold cb;rw[F]at k ⊢;have k:x∈(rs.getD a rd).2:=k;rw[Qp ha]at k;have:=((W.ok _<|Z4 ha).2.2.2.each x k).2.2.2;change x.2.2<(Jj rs a).len;rw[QG ha];show this
 .cases o with
  |none=>
   calc .inl #[rfl,rfl,λq u=>?_];rcases x9 (mem q u)with⟨p,e,_⟩|⟨w,t,hw,e2⟩
   .cases e
   .unfold dj;rw[e2];change(w:Int)<=a;show hw.elim (λG=>(ZG<|lY.mpr G.1)) λG=>(lY.mpr<|Zi G.1)
  |some p=>
   let#[S,J,D,L,E,O]:=W.p rfl;have C:(JA rs a<|V p).getD 0 cd=#[p.1,tO rs a (V p)-gO (V p),0,(Jj rs p.1).len]:=rfl;have k:=E.each _ D;refine .inr #[0,nA 06,by unfold dj;rw[C];change(a:Int)<p.1;show lZ.mpr 06,λq u j=>?_,?_,?_,p.2,?_,L,rfl,?_,λy B M=>#[?_,λl1 l2=>?_]]
   .by_cases l:q<(pre rs a<|V p).length
    .calc(L6 W l).2 ?_;unfold dj at j;show lZ.mp 06
    .obtain rfl:q=(pre rs a<|V p).length:=ZQ (ZZ (b:=1)<|Zb u<|Zi len)<|ZI l;unfold dj at j;rw[F]at j;show absurd (show(a:Int)<a from j)<|yT _
   .unfold aP jt;rw[C];change _-_+0=_;lia
   .unfold cb;rw[C];change p.2.2.1+1+tn p.2<(Jj rs p.1).len;have:=k.2.2.2;unfold tn;lia
   .unfold eN;rw[C];show D
   .change p.2.2.2=p.2.2.1+1+tn p.2;unfold tn;lia
   .unfold eN at B;rw[C]at B;show O y B M
   .unfold eN at B;rw[C]at B;show nest E D B l1 l2
end
section
variable{rs:Tx}{a:Nat}{T τ:Int}
def fC(a:Nat)(T τ:Int)(c:Cm):Int:=if (c.at_:Int)<=a/\T<=jt c/\jt c<τ then c.len else 0
def Jzo(cs):dM cs a T τ=(cs.map<|fC a T τ).sum:=by
 change((ZM cs.length).map λp=>fC a T τ<|cs.getD p cd).sum=_;congr 1;refine mI 03 λi j J=>?_
 rw[Zm]at J;rw[ZO,ZO,rJ,Zq,Zd J];rfl
theorem D0:∀{m:Nat}{C:Int},0<=C->C<=m->sR m (λi=>if (i:Int)<C then L else 0)=C*L
 |0,C,h0,h1=>by obtain rfl:C=0:=05;rw[yU];rfl
 |m+1,C,h0,h1=>by
  rw[Vl];by_cases e:C<=m
  .rw[D0 h0 e,if_neg<|cT.mpr e];lia
  .obtain rfl:C=(m:Int)+1:=05;rw[DQ (g:=λi=>if (i:Int)<(m:Int)then L else 0) λi j=>by rw[if_pos<|si (lY.mpr j)<|d9.mp e,if_pos<|lZ.mpr 06],D0 (iL m)<|ZJ _,if_pos 06,o7,uU]
def ya(t1:1<=t)(g:0<d.gap):(i:Int)<cA t d↔(i:Int)*d.gap<t+d.ag:=by unfold cA iD;rw[if_pos t1];have:=Es (a:=(i:Int)+1) (b:=t+d.ag+d.gap-1) g;rw[o7,uU]at this;omega
def L7{w m:Nat}(wa:w<=a)(t1:1<=t)(g:0<d.gap)(l:0<=d.ag)(j:0<=cA t d)(c:cA t d<=m):((iG T w d m).map<|fC a T<|T+t).sum=cA t d*d.len:=by
 rw[<-D0 (L:=d.len) j c];unfold iG Qu sR;rw[eO,eO];congr 1;refine yr λi _=>?_
 have k:=ya (i:=i) t1 g;change fC a T (T+t) (cm T w d<|T-d.ag+(i:Int)*d.gap)=_;unfold fC;rw[DZ];have wa:(w:Int)<=a:=lY.mpr wa;by_cases z:(i:Int)<cA t d
 .rw[if_pos z,if_pos #[wa,by split<;>(first|show ZJ _|show ZG 06|omega),by split<;>lia]];rfl
 .rw[if_neg z,if_neg λy=>by have:=y.2.2;split at this<;>lia]
theorem L8(t1:1<=t)(t2:t<=sp)(ok:∀n,n<rs.length->0<(Jj rs n).gap/\0<=(Jj rs n).ag)(ha:a<=rs.length):∀n,n<=a->((hJ rs T sp n).map<|fC a T<|T+t).sum=Q8 (rs.take n) t
 |0,_=>rfl
 |n+1,h=>by
  have hn:n<rs.length:=ZL 06 06;let#[g,l]:=ok n hn;have j:=Yp (s:=t) g l;have k:cA t (Jj rs n)<=cA sp (Jj rs n):=by unfold cA iD;rw[if_pos t1,if_pos<|ZE t1 t2];show Int.ediv_le_ediv g 05
  rw[hJ,jv,ux,L8 t1 t2 ok ha n<|Z3 h,L7 (Z3 h) t1 g l j<|ZE k<|o6 _,Jpa hn,QG hn]
def J60(W:Wk rs a o m)(t1:1<=t)(t2:t<=cP rs a)(dg:(Jj rs a).bK<=(Jj rs a).gap):dM (JA rs a o) a (tO rs a o) (tO rs a o+t)=Q8 (rs.take a) t+(Jj rs a).len:=by
 have ha:=W.ha;let#[g,l,_]:=W.at_ ha;have k:t<=(Jj rs a).bK-(Jj rs a).ag:=t2;have u:cA t (Jj rs a)=1:=by
  have j:=(ya (i:=0) t1 g).mpr (by change 0*_<_;lia);have B:¬((1:Nat):Int)<cA t (Jj rs a):=λz=>by have:=(ya (i:=1) t1 g).mp z;have:((1:Nat):Int)*(Jj rs a).gap=(Jj rs a).gap:=uU _;lia
  lia
 have j:((kW rs (tO rs a o) o).map<|fC a (tO rs a o)<|tO rs a o+t).sum=0:=by
  cases o with
  |none=>rfl
  |some p=>have:=(W.p rfl).1;change fC a _ _ _+0=0;unfold fC;rw[if_neg λz=>by have z:=z.1;have z:(p.1:Int)<=a:=z;show cT.mpr z<|lY.mpr this];rfl
 rw[Jzo,JA,jv,jv,ux,ux,j,L8 t1 t2 (λn hn=>#[(W.at_ hn).1,(W.at_ hn).2.1]) (Z3 ha) a<|Zl _,L7 (Zl _) t1 g l 05<|ZA 06,u];lia
end
section
seal L4.run L4.WS L4.WR
def Jwr(j:0<g)(h:x<=y):iD x g<=iD y g:=by unfold iD;show Int.ediv_le_ediv j<|Int.sub_le_sub (yP h _) 01
def X4(j:0<d.gap)(h1:1<=s)(h:s<=t):cA s d<=cA t d:=by unfold cA;rw[if_pos h1,if_pos<|ZE h1 h];show Jwr j<|yP h _
def cnt(rs:Tx)(s:Int):Int:=(rs.map λr=>cA s r.1).sum
theorem L9(h1:1<=s)(h:s<=t):∀{rs:Tx},(∀r∈rs,0<r.1.gap)->cnt rs s<=cnt rs t
 |[],_=>ZJ _
 |r::rs,q=>by
  have:=L9 h1 h (rs:=rs) λr j=>q r<|Zt _ j
  have:=X4 (d:=r.1) (q r ZD) h1 h;unfold cnt at *;rw[ZN,ZN,nL,nL];show sh this 06
theorem D1(h1:1<=s)(h:s<=t):∀{rs:Tx},(∀r∈rs,0<r.1.gap/\0<=r.1.len)->Q8 rs s<=Q8 rs t
 |[],_=>ZJ _
 |r::rs,q=>by
  have a:=D1 h1 h (rs:=rs) λr j=>q r<|Zt _ j
  have b:=Int.mul_le_mul_of_nonneg_right (X4 (d:=r.1) (q r ZD).1 h1 h) (q r ZD).2;unfold Q8 at *;rw[ZN,ZN,nL,nL];show sh b a
theorem Ma(h1:1<=s)(h:s<=t):∀{rs:Tx},(∀r∈rs,0<r.1.gap/\0<=r.1.len)->Q8 rs s<Q8 rs t->cnt rs s<cnt rs t
 |[],_,z=>absurd z<|yT _
 |r::rs,q,z=>by
  have k:∀r∈rs,0<r.1.gap/\0<=r.1.len:=λr j=>q r<|Zt _ j
  have m:=X4 (d:=r.1) (q r ZD).1 h1 h;have B:=L9 h1 h (rs:=rs) λr j=>(k r j).1
  have u:=Ma h1 h k;unfold Q8 cnt at *;rw[ZN,ZN,nL,nL]at z ⊢;by_cases e:cA s r.1=cA t r.1
  .rw[e]at z ⊢;have:=u 05;show Int.add_lt_add_left this _
  .show Eo (yQ.mpr #[m,e]) B
theorem Mb:∀{rs:Tx},(∀r∈rs,0<r.1.gap/\0<=r.1.ag)->0<=cnt rs s
 |[],_=>ZJ _
 |r::rs,q=>by
  have a:=Mb (s:=s) (rs:=rs) λr j=>q r<|Zt _ j
  have b:=Yp (s:=s) (d:=r.1) (q r ZD).1 (q r ZD).2;unfold cnt at *;rw[ZN,nL];show Int.add_nonneg 06 06
def J64{a:Nat}(ha:a<hss.length)(Z:b∈hss[a]):fZ hss b.1<=a:=by
 unfold fZ;cases e:cD hss b.1 with
 |none=>show iL a
 |some j=>
  let#[_,_,q]:=ym.mp e;change(j:Int)<=a;by_cases l:a<j
  .show absurd (mH.mpr #[b,Z,decide_eq_true rfl])<|q a l
  .show lY.mpr<|ZI l
noncomputable def jH (rs:Tx)(n:Nat):Tj:=(rs.take n).flatMap λr=>r.2.map (·.1)
def Jxd(hn:n<rs.length):jH rs (n+1)=jH rs n++(rs[n]).2.map (·.1):=by unfold jH;rw[nG hn,List.flatMap_append];simp
def Mc{a w:Nat}(ha:a<rs.length)(C:w<rs.length)(Z:b∈(rs[w]).2):fZ (rs.map (·.2)) b.1<=a↔b.1∈jH rs (a+1):=by
 constructor
 .intro h;cases e:cD (rs.map (·.2)) b.1 with|none=>unfold cD at e;rw[uj]at e;have:=e (rs[w]).2 (Z9.mpr #[rs[w],Z4 C,rfl]);show absurd (show has b.1 (rs[w]).2=Zj from mH.mpr #[b,Z,decide_eq_true rfl])<|by rw[this];show Zx|some j=>
   have E:fZ (rs.map (·.2)) b.1=(j:Int):=by unfold fZ;rw[e]
   rw[E]at h;let#[u,m,_]:=ym.mp e;rw[Zm]at u;rw[ZO]at m;let#[c,k,B]:=mH.mp m;refine rM.mpr #[rs[j],oP (i:=j) (by rw[yn 05,Zd u]),Z9.mpr #[c,k,of_decide_eq_true B]]
 .intro h;let#[r,D,k]:=rM.mp h;let#[c,k,B]:=Z9.mp k;let#[j,m,rfl]:=ZX.mp D;rw[e9]at m;rw[nK]at k;have u:j<rs.length:=Zb m<|jI _ _;have:=J64 (hss:=rs.map (·.2)) (a:=j) (by rw[Zm];show u) (b:=c)<|by rw[ZO];show k
  rw[<-B];lia
structure ny(P:Hd->Prop)(l:Tw)(z:Int):Prop where
 nn:0<=z
 le:∀b∈l,P b->tn b<=z
 eq:z=0\/∃b∈l,P b/\tn b=z
theorem ny.no(u:ny P l z)(n:¬P b):ny P (l++[b]) z:=#[u.nn,λc k j=>by
  rcases ZY.mp k with h|h
  .show u.le c h j
  .rw[Z6.mp h]at j;show absurd j n,u.eq.imp id λ⟨c,k,e⟩=>#[c,iJ _ k,e]]
def ny.yes(u:ny P l z)(y:P b):ny P (l++[b]) (if tn b>z then tn b else z):=by
 have nn:=u.nn;refine#[by split<;>(first|show ZG (Zy nn 06)|show nn|omega),λc j k=>?_,?_]
 .rcases ZY.mp j with h|h
  .have:=u.le c h k;split<;>(first|show ZG (Zy this 06)|show this|omega)
  .rw[Z6.mp h];split<;>(first|show ZJ _|show cT.mp 06|omega)
 .split
  .show .inr #[b,Zo _<|Z6.mpr rfl,y,rfl]
  .show u.eq.imp id λ⟨c,j,e⟩=>#[c,iJ _ j,e]
def J8p(W:Wk rs a o m)(u:ny (λb=>b.1∈jH rs (a+1)) ((rs.drop<|a+1).flatMap (·.2)) z):z=bO o:=by
 have ha:=W.ha;have k:∀{b:Hd},b∈(rs.drop<|a+1).flatMap (·.2)->∃w,a<w/\w<rs.length/\b∈(rs.getD w rd).2/\(b.1∈jH rs (a+1)->fZ (rs.map (·.2)) b.1<=a):=λ{b} Z=>by let#[r,H,Z]:=rM.mp Z;let#[i,B,rfl]:=ZX.mp H;rw[lJ]at B;rw[yz]at Z;show#[a+1+i,Zk _ _,ua B,by rw[Qp<|ua B];show Z,(Mc ha (ua B) Z).mpr]
 have nn:=u.nn;cases o with
 |none=>
  have e:dP rs a (rs.length-(a+1))=[]:=W.ho;rcases u.eq with h|⟨b,Z,pb,_⟩
  .show h
  .let#[w,E,J,j,D]:=k Z;have:=xY E j (D pb) (n:=rs.length-(a+1))<|Zb J<|Zi (lE ha).symm;rw[e]at this;cases this
 |some p=>
  let#[E,J,j,D,F,M]:=W.p rfl;let#[_,L]:=W.ho;have O:=(F.each _ j).2.2.1;have C:tn p.2<=z:=by rw[Qp J]at j;calc u.le p.2 (rM.mpr #[rs[p.1],?_,j])<|(Mc ha J j).mp D;show oP (i:=p.1-(a+1)) (by rw[List.getElem?_drop,show a+1+(p.1-(a+1))=p.1 by show lE E,Zd J])
  change z=tn p.2;rcases u.eq with h|⟨b,Z,pb,eb⟩
  .unfold tn at *;lia
  .let#[w,g1,g2,I,G]:=k Z;have:=L (w,b)<|xY g1 I (G pb)<|Zb g2<|Zi (lE ha).symm;have:tn b<=tn p.2:=this;show i7 (ZE (ZA eb.symm) this) C
def gJ(rs:Tx)(a:Nat)(o:Wg)(t:Int):Int:=bO o+(Jj rs a).len+Q8 (rs.take a) t
def Md(s:Int)(v:IV):IV:=match v with|.tup [_,.int g,.int l,_,.int t,_]=>.int<|cA s #[⟨#[]⟩,g,l,0,t]*l|_=>.af
section
variable{k:Nat}{h:IH}{S lo a m:Nat}{ys:Tu}{rs:Tx}{o:Wg}{s:Int}
def J1w(hs:Tw):((hs.map ao).filter λ_=>Zj).map dQ=(hs.map (·.1)).map IV.str:=by rw[yt.mpr λ_ _=>rfl,eO,eO];rfl
def J0r(W:Wk rs a o m)(hm:m<=12)(cq:rs.length<=12)(rB:∀r∈rs,∀b∈r.2,cE b.1)(gl:∀r∈rs,r.1.gap.natAbs.log2<9000)(hS:h[S]?=V (.lst ys))(R:cL h lo ys rs)(s1:1<=s)(s2:s<=cP rs a):
  WR (CD (k+2) [.ref S,.int (a:Int),.int s] h) λv h'=>v=.int (gJ rs a o s)/\Ex h h':=by
 have Z:=J4;have ha:=W.ha;have H:=R.len;have six:∀r∈rs,r.2.length<=6:=λr hr=>(W.ok r hr).2.2.2.cq
 have get:∀(n:Nat)(hn:n<rs.length),∃q,ys[n]'(Zb hn<|Zi H.symm)=g9 rs[n] q/\h[q]?=V (.lst<|(rs[n]).2.map ao):=λn hn=>by let#[q,e,_,g]:=R.at_ n _ _ (Zd<|show n<ys.length by show Zb hn<|Zi H.symm)<|Zd hn;show#[q,e,g]
 have c1:(V<|(a:Int)+1)=V ((a+1:Nat):Int):=rfl;rw[Jm9];calc aq<|ae<|aj<|Jf (cO rfl rfl)<|ae<|eW ?_;rw[JN];calc(VE ..).mpr<|Jf rfl (Jf rfl ((wH ..).mpr<|Jf (aN rfl rfl) #[_,rfl,(Xt ..).mpr #[_,grow hS,(JR _).mpr #[_,Jo,?_]]]));rw[c1,Yq];have x1:Ex h (h++[IX.lst []]++[IX.lst<|ys.take<|a+1]):=(Ex.one _ _).trans<|.one _ _;have g1:(h++[IX.lst []]++[IX.lst<|ys.take<|a+1])[(h++[IX.lst []]).length]?=V (.lst<|ys.take<|a+1):=Jo;have g0:(h++[IX.lst []]++[IX.lst<|ys.take<|a+1])[h.length]?=V (.lst<|(jH rs 0).map .str):=grow Jo;generalize h++[IX.lst []]++[IX.lst<|ys.take<|a+1]=h1 at x1 g1 g0 ⊢;generalize (h++[IX.lst []]).length=T1 at g1 ⊢;refine Qx (λn U h'=>∃i c,U=[V<|.ref S,V<|.int (a:Int),V<|.int s,V<|.ref i,c,Zg,Zg,Zg,Zg]/\h'[i]?=V (.lst<|(jH rs n).map .str)/\(jH rs n).length<=6*n/\Ex h1 h') (λ_ _ _ ⟨_,_,_,_,_,x⟩=>x.get g1) ?_ ?_ #[_,Zg,rfl,g0,Zl _,.refl _]
 .rintro n hn _ J ⟨i,c,rfl,X,li,E⟩;rw[e9]at hn;have u:n<rs.length:=Zb (Zb hn<|jI _ _)<|Zi H;rw[nK];let#[q,G,gq]:=get n u;rw[G];have B:=E.get<|x1.get gq;have l6:=six _<|Z4 u;have es:=Jxd u;generalize rs[n]=r at B l6 es;let#[_,_,e3,rfl,Q,rfl]:=(WY (it:=Jw<|Jc Jg 'e' '5') (g:=jV 3<|gC (aV 0)<|gC (aV 1)<|gC (aV 2) gN) (t:=JB) (e:=KG<|k+1) (js:=[]) (U:=[V<|.ref S,V<|.int (a:Int),V<|.int s,V<|.ref i,V<|g9 r q,Zg,Zg,Zg,Zg]) (h0:=J) (h:=J) (xs:=r.2.map ao) (ba:=λh'=>h'[q]?=V (.lst<|r.2.map ao)) (n:=3) (st:=k4) (p:=λ_=>Zj) (f:=dQ)
   (by rw[JN];show Jf (ai rfl rfl Dm)<|(JR _).mpr #[_,B,rfl,rfl,rfl]) (by rw[Zm];show Zb (Zk _ 999994)<|Zb (Zc (Zc l6 1) 999994) Z) (λD z=>z _ _ B) (by
    intro x I ls D e;let#[b,_,rfl]:=Z9.mp I;match ls,e with|[_,_,_],_=>show#[rfl,rfl]) (λx I D _=>Jf rfl #[rfl,.refl _]) (by
    intro x I _ D _;let#[b,_,rfl]:=Z9.mp I;show Jf rfl #[rfl,.refl _])).eq
  rw[J1w]at e3;calc gH rfl (aj<|Jf (t7 rfl e3 ((Ex.cons _ _ _).get X) J1 (by rw[Zm,Zm,Zm];lia)) ?_);rw[<-jv,<-es];show#[_,_,rfl,Jo,by rw[es,Z7,Zm];show qj 06 06,E.trans<|(Ex.cons _ _ _).trans<|.one _ _]
 .rintro _ J ⟨i,c,rfl,X,li,E⟩;rw[e9,show min (a+1) ys.length=a+1 by show ZQ (gL _ _)<|qm.mpr #[(Zl _),(Zb ha<|Zi H.symm)]]at X;have nmt:∀z∈jH rs (a+1),cE z:=λz hz=>by let#[r,hr,hz]:=rM.mp hz;let#[b,hb',rfl]:=Z9.mp hz;show rB r (oQ hr) b hb'
  have E:=x1.trans E;calc ae<|aj<|Jf rfl (ae<|eW ?_);rw[JN];calc(VE ..).mpr<|Jf rfl ((wH ..).mpr<|Jf (aN rfl rfl) #[_,rfl,Jf rfl ((Xt ..).mpr #[_,E.get hS,(JR _).mpr #[_,Jo,?_]])]);rw[c1,BC];have M:Ex J (J++[IX.lst<|ys.drop<|a+1]):=.one _ _;have Q:(J++[IX.lst<|ys.drop<|a+1])[J.length]?=V (.lst<|ys.drop<|a+1):=Jo;generalize J++[IX.lst<|ys.drop<|a+1]=D at M Q ⊢;generalize J.length=T2 at Q ⊢;have gi3:=M.get X;refine Qx (λn U h'=>D=h'/\∃z c d e f,U=[V<|.ref S,V<|.int (a:Int),V<|.int s,V<|.ref i,c,V<|.int z,d,e,f]/\ny (λb=>b.1∈jH rs (a+1)) (((rs.drop<|a+1).take n).flatMap (·.2)) z) (λ_ _ _ z=>z.1▸Q) ?_ ?_ #[rfl,0,_,_,_,_,rfl,#[ZJ _,(λb Z=>by cases Z),.inl rfl]]
  .rintro n hn _ _ ⟨rfl,z,c,d,e,f,rfl,C⟩;rw[lJ]at hn;have u:a+1+n<rs.length:=Zb (ua hn)<|Zi H;rw[yz];let#[q,G,gq]:=get (a+1+n) u;rw[G];have B:=M.get<|E.get gq;have hm':n<(rs.drop<|a+1).length:=by rw[lJ];show Nat.lt_sub_iff_add_lt'.mpr u
   rw[nG hm',List.flatMap_append,yz];have O:=rB _<|Z4 u;generalize ((rs.drop<|a+1).take n).flatMap (·.2)=F at C ⊢;generalize rs[a+1+n]=r at B O ⊢;rw[show[r].flatMap (·.2)=r.2 by simp];calc gH rfl (eW ?_);rw[JN];calc Jf (ai rfl rfl Dm)<|(JR _).mpr #[_,B,?_];refine Qx (λm U h'=>D=h'/\∃z d e f,U=[V<|.ref S,V<|.int (a:Int),V<|.int s,V<|.ref i,V<|g9 r q,V<|.int z,d,e,f]/\ny (λb=>b.1∈jH rs (a+1)) (F++r.2.take m) z) (λ_ _ _ z=>z.1▸B) ?_ ?_ #[rfl,z,d,e,f,rfl,by rw[List.take_zero,jK];show C]
   .rintro j Y _ _ ⟨rfl,z,d,e,f,rfl,C⟩;rw[Zm]at Y;rw[ZO,nG Y,<-iW];have nb:=O _<|Z4 Y;generalize (r.2)[j]=b at nb ⊢;generalize F++r.2.take j=F2 at C ⊢;have L:Ji aR (Jc ot 'g' 'd') [V<|.ref S,V<|.int (a:Int),V<|.int s,V<|.ref i,V<|g9 r q,V<|.int z,V<|.str b.1,V<|.int b.2.1,V<|.int b.2.2] D=.ok ((jH rs<|a+1).any λx=>decide (x=b.1)) D:=br<|(aG rfl rfl).trans<|J0g gi3 nmt nb;calc gH rfl ?_;by_cases y:b.1∈jH rs (a+1)
    .refine jq (dq L<|mH.mpr #[_,y,decide_eq_true rfl])<|aj<|Jf (nt rfl (dB (dB rfl rfl) rfl)) #[rfl,_,_,_,_,rfl,C.yes y]
    .calc aL (dq L<|o2.mpr λw=>?_)<|aE #[rfl,_,_,_,_,rfl,C.no y];let#[x,I,ex]:=mH.mp w;show y<|of_decide_eq_true ex▸I
   .rintro _ _ ⟨rfl,z,d,e,f,rfl,C⟩;rw[Zm,yA]at C;show#[rfl,_,_,_,_,_,rfl,C]
  .rintro _ _ ⟨rfl,z,c,d,e,f,rfl,C⟩;rw[lJ,H,mC<|by rw[lJ];show Zl _]at C;rw[J8p W C];have P:=M.get<|E.get hS;have lf:∀{h':IH},Ex D h'->∀n,n<rs.length->∃q,ys[n]?=V (g9 (rs.getD n rd) q):=λ{h'} _ n hn=>by let#[q,G,_]:=get n hn;show#[q,by rw[Zd<|Zb hn<|Zi H.symm,G,Qp hn]]
   let#[qa,ea]:=lf (.refl _) a ha;have aa:a7 ys (a:Int)=V (g9 (rs.getD a rd) qa):=JE ea;let#[_,_,e5,rfl,g5,rfl]:=(Qg (it:=Jw<|gX ir 'a' Q5<|Qq 'b') (js:=[2]) (e:=CQ<|k+1) (U:=[V<|.ref S,V<|.int (a:Int),V<|.int s,V<|.ref i,c,V<|.int<|bO o,d,e,f]) (h0:=D) (h:=D++[IX.lst<|ys.take a]) (xs:=ys.take a) (ba:=λh'=>h'[D.length]?=V (.lst<|ys.take a)) (f:=Md s)
    (by
     rw[JN];calc(VE ..).mpr<|Jf rfl (Jf rfl ((wH ..).mpr<|Jf rfl #[_,rfl,(Xt ..).mpr #[_,P,?_]]));rw[Yq];show(JR _).mpr #[_,Jo,rfl,rfl,rfl]) (by rw[e9];show Zb (Zk _ 999989)<|Zb (Zc (Zb (Zb (Zc (gL _ _) 1) ha) cq) 999989) Z) (λh4 z=>z _ _ Jo) (by
     intro v hv h4 z;let#[n,hn,rfl]:=ZX.mp hv;rw[e9]at hn;have u:n<rs.length:=Z3<|Zb (Zc (Zb hn<|gL _ _) 1) ha;rw[nK];let#[q,G,_]:=get n u;let#[y1,y2,y3]:=W.at_ u;have y4:=gl _<|Z4 u;have cs:=W.cn n<|Zb hn<|gL _ _;have c0:=Yp (s:=s) y1 y2;have c2:=X4 (d:=Jj rs n) y1 s1 s2;rw[QG u]at *;rw[G];generalize rs[n]=r at *;have ec:CC (k+1) [g9 r q,.int s] h4=.ok (.int<|cA s r.1) h4:=Ju (by rw[Jhr];calc aq<|ax<|Jf (Q2 (dB (aN (aN rfl (ai rfl rfl Yk))<|ai rfl rfl JI) rfl) (ai rfl rfl JI) y1 y4) #[?_,rfl];unfold cA iD;rw[if_pos s1]);unfold CQ;show Jf (gG (Jx (ar rfl rfl) ec) (ai rfl rfl Qj)<|.inl 05) #[rfl,.refl _])).eq
   have em:(ys.take a).map (Md s)=((rs.take a).map λr=>cA s r.1*r.1.len).map IV.int:=by
    refine mI (by simp;show ZQ (qm.mpr #[(gL _ _),(Z3<|Zb (Zc (gL _ _) 1) ha)])<|qm.mpr #[(gL _ _),(Zb (jI _ _)<|Zi H.symm)]) λi p1 p2=>?_
    rw[Zm,e9]at p1;let#[q,G,_]:=get i<|Z3<|Zb (Zc (Zb p1<|gL _ _) 1) ha;rw[ZO,nK,G,ZO,ZO,nK];rfl
   rw[em]at e5;calc ax<|Jf (aN (aN rfl (ai (aT rfl rfl P aa) rfl Qj))<|(eE<|ak e5).trans<|Ju<|(BF ..).mpr #[_,J1,_,Vf _,rfl,rfl]) #[rfl,(E.trans M).trans<|(Ex.one _ _).trans<|.cons _ _ _]
end
end
section
seal L4.run L4.WS L4.WR
def nz(s:Int)(h:IH)(v:IV):IV:=match Ve "late" v h,Ve "gap" v h,Ve "length" v h with|some (.int l),V (.int g),V (.int n)=>.int<|(if 1<=s then iD (s+l) g else 0)*n|_,_,_=>.af
def yb(vs:Tu)(v:IV):IV:=match v with|.int n=>(vs[n.toNat]?).getD .af|_=>.af
def J10(vs)(a:Nat)(ha:a<=vs.length):(aX 0 (a:Int)).map (yb vs)=vs.take a:=by
 refine rL λi=>?_
 rw[ZK];by_cases j:i<a
 .have k:i<(aX 0 (a:Int)).length:=by rw[JH];show j
  rw[Zd k,Qw,yx,if_pos j,Zd<|show i<vs.length by show Zb j ha];simp![Option.map_some,yb];rw[show((0:Int)+(i:Int)).toNat=i by show nE _ _,Zd<|show i<vs.length by show Zb j ha];rfl
 .rw[um (by rw[JH];show ZI j),yx,if_neg j];rfl
section
variable{k:Nat}{h:IH}{D a m:Nat}{rs:Tx}{o:Wg}{s:Int}
theorem Jpz{d:WD}(j:h[w]?=V (.ins "Work"<|gZ d.name d.gap d.len d.bK d.ag hs)):Cd (k+1) [.ref w,.int s] h=.ok (.bl<|decide (s+d.ag<=d.bK)) h:=Ju (by rw[Jpp];show aq<|ax<|Jf (aG (aN rfl (au rfl j kn))<|au rfl j rn) #[rfl,rfl])
def D2{h h0:IH}{it:I1}{e:E1}{js:Tp}{U:aI}{xs:Tu}{ba:IH->Prop}{f:IV->IV}(k:WR (it U h0) λbB h1=>bB.xs=xs/\bB.ba=ba/\h1=h)(B:xs.length<sizeLine) (u:∀J:IH,(∀(j:Nat)(ob:IX),h[j]?=V ob->J[j]?=V ob)->ba J) (m:∀x∈xs,∀J:IH,(∀(j:Nat)(ob:IX),h[j]?=V ob->J[j]?=V ob)->WR (e (V x::js.map λj=>(U[j]?).join) J) λv h3=>v=f x/\Ex J h3):∃g,Jy it 1 js (aV 0) JB e U h0=.ok (.ref h.length) (h++.lst (xs.map f)::g):=by let#[v,h3,e,rfl,g,rfl]:=(Qg k B u m).eq;show#[g,e]
def Me(q:bX h D rs)(e:rs[a]?=V r):∃j,h[j]?=V (wo r)/\∀{k:Nat}{o x:E1}{U:aI},o U h=.ok (.ref D) h->x U h=.ok (.int (a:Int)) h->Jp (pg<|k+1) "work" 1 o (Jb x Je) U h=.ok (.ref j) h:=by let#[E,m,w]:=q;let#[j,u,B]:=w.get e;show#[j,B,λC ex=>lu m C ex<|JE u]
def Jpx(ha:a<rs.length)(hd:bX h D rs)(cq:rs.length<=12)(six:∀r∈rs,r.2.length<=6)(j:h[2]?=V (.tab "longest_hold"))(m:p9 rs a=oV o):WR (Ca (k+4) [.ref D,.int (a:Int)] h) λv h'=>v=.int (bO o)/\Ex h h':=by rw[Jpo];calc aq<|ae<|aj<|(Yb ..).mpr<|Jf (ar rfl rfl)<|WR.mono (LQ (k:=k) ha hd cq six j) ?_;rintro _ h' ⟨rfl,x⟩;rw[m];cases o with|none=>show ax (jn<|Jf (br<|(aG rfl rfl).trans rfl) #[λ_=>Jf rfl #[rfl,x],λz=>by cases z])|some p=>show ax (jn<|Jf (br<|(aG rfl rfl).trans rfl) #[(λz=>by cases z),λ_=>Jf (Jx (ak<|ai rfl rfl JI)<|LP p.2) #[rfl,x]])
def Jwm(W:Wk rs a o m)(hm:m<=12)(cq:rs.length<=12)(six:∀r∈rs,r.2.length<=6)(gl:∀r∈rs,r.1.gap.natAbs.log2<9000)(q:bX h D rs)(Y:h[2]?=V (.tab "longest_hold"))(eo:p9 rs a=oV o)(s1:1<=s)(s2:s<=cP rs a):WR (Cb (k+5) [.ref D,.int (a:Int),.int s] h) λv h'=>v=.int (gJ rs a o s)/\Ex h h':=by
 have Z:=J4;have ha:=W.ha;let#[u,gD,w]:=id q;have Q:=w.len;rw[Jzz];calc aq<|ae<|aj ?_;have G:=@D2 h h (c4 Qd<|Jb 'b' Je) (Kk<|k+4) [0] [V<|.ref D,V<|.int (a:Int),V<|.int s,Zg,Zg] (aX 0 (a:Int)) (λ_=>True) (yb u) (by
   rw[Vz];calc Jf (ak rfl) ?_;rw[Xs];show#[05,rfl,rfl,rfl]) (by rw[JH];show Zb (Zk _ 999989)<|Zb (Zc (Zb ha cq) 999989) Z) (λ_ _=>trivial) (by
   intro x P J z;let#[n,hn,rfl]:=ZX.mp P;rw[JH]at hn;rw[Qw,show(0:Int)+(n:Int)=n by show mK _ _];have hnv:n<u.length:=Z3<|Zb (Zb (Zc hn 1) ha)<|Zi Q.symm;let#[j,B,_]:=w.get (Zd<|show n<rs.length by show nD 06 06);calc Jf (lu (z _ _ gD) rfl rfl (JE B)) #[?_,.refl _];unfold yb;dsimp only;rw[show(n:Int).toNat=n by rfl,B];rfl)
 rw[J10 u a<|Z3<|Zb ha<|Zi Q.symm]at G;generalize Jy _ _ _ _ _ _ _ _=rc at G ⊢;let#[g,rfl]:=G;rw[Xr];have I:Ex h (h++IX.lst (u.take a)::g):=.cons _ _ _;have L:(h++IX.lst (u.take a)::g)[h.length]?=V (.lst<|u.take a):=J1;generalize h.length=bA at L ⊢;generalize h++IX.lst (u.take a)::g=F at I L ⊢;have w1:=w.kp I.kp;have it:∀i,i<a->∃j,(u.take a)[i]?=V (.ref j)/\∃H:i<rs.length,F[j]?=V (wo rs[i]):=λi H=>by let#[j,B,C]:=w1.get (Zd<|show i<rs.length by show qk 06 06);show#[j,by rw[yx,if_pos H,B],00,C]
 have U:∀{j:Nat}{r:RH}{h':IH},h'[j]?=V (wo r)->nz s h' (.ref j)=.int (cA s r.1*r.1.len):=λe=>by rw[nz,QB e,QB e,QB e,kn,pX,oy];rfl
 calc ae<|aj ?_;have G:=@D2 F F (Jw 'd') (Kl<|k+4) [2] [V<|.ref D,V<|.int (a:Int),V<|.int s,V<|.ref bA,Zg] (u.take a) (λh'=>h'[bA]?=V (.lst<|u.take a)) (nz s F) (by rw[JN];show Jf rfl ((JR _).mpr #[_,L,rfl,rfl,rfl])) (by rw[e9];show Zb (Zk _ 999989)<|Zb (Zc (Zb (Zb (Zc (gL _ _) 1) ha) cq) 999989) Z) (λJ z=>z _ _ L) (by intro x P J z;let#[i,H,rfl]:=ZX.mp P;rw[e9]at H;let#[j,B,E,C]:=it i<|Zb H<|gL _ _;rw[Zd<|by rw[e9];omega]at B;rw[hV B,U C];have y4:=gl _<|Z4 E;let#[O,y2,y3]:=W.at_ E;have cs:=W.cn i<|Zb H<|gL _ _;have c0:=Yp (s:=s) O y2;have c2:=X4 (d:=Jj rs i) O s1 s2;rw[QG E]at *;show Jf (gG (Jx (ar rfl rfl)<|LS (z _ _ C) O y4) (au rfl (z _ _ C) oy)<|.inl 05) #[rfl,.refl _]);have em:(u.take a).map (nz s F)=((rs.take a).map λr=>cA s r.1*r.1.len).map IV.int:=by
  refine mI (by simp;show ZQ (qm.mpr #[(gL _ _),(Z3<|Zb (Zc (gL _ _) 1) ha)])<|qm.mpr #[(gL _ _),(Zb (jI _ _)<|Zi Q.symm)]) λi p1 p2=>?_
  rw[Zm,e9]at p1;let#[j,B,E,C]:=it i<|Zb p1<|gL _ _;rw[Zd<|by rw[e9];omega]at B;rw[ZO,hV B,U C,ZO,ZO,nK]
 rw[em]at G;generalize S:Jy _ _ _ _ _ _ _ _=rc at G;let#[g2,rfl]:=G;have M:Ex F (F++IX.lst (((rs.take a).map λr=>cA s r.1*r.1.len).map IV.int)::g2):=.cons _ _ _;calc Jf ((eE<|ak S).trans<|Ju<|(BF ..).mpr #[_,J1,_,Vf _,rfl,rfl]) ?_;clear S;generalize F++IX.lst (((rs.take a).map λr=>cA s r.1*r.1.len).map IV.int)::g2=J at M ⊢;have R:=q.kp (I.trans M).kp;let#[_,h3,e3,rfl,X]:=(Jpx (k:=k) ha R cq six ((I.trans M).get Y) eo).eq;let#[j,C,wj]:=Me (R.kp X.kp)<|Zd ha;show ax (Jf (aN (aN (Jx (ar rfl rfl) e3)<|au (wj rfl rfl) C oy) rfl) #[by rw[gJ,QG ha];rfl,(I.trans M).trans X])
end
end
section
seal L4.run L4.WS L4.WR
section
variable{k:Nat}{h:IH}{S lo a m:Nat}{ys:Tu}{rs:Tx}{o:Wg}
def J0n(W:Wk rs a o m)(h1:1<=s)(le:s<=t):gJ rs a o s<=gJ rs a o t:=by
 have:=D1 h1 le (rs:=rs.take a) λr j=>by have:=W.ok r<|oQ j;show#[this.1,05]
 unfold gJ;show Int.add_le_add_left this _
def An(rs:Tx)(a:Nat)(o:Wg)(v:IV):Prop:=(∃L,v=.int L/\1<=L/\L<=cP rs a/\gJ rs a o L<=L/\∀t,1<=t->t<L->t<gJ rs a o t)\/v=.af/\∀t,1<=t->t<=cP rs a->t<gJ rs a o t
def An.uniq(x:An rs a o v)(y:An rs a o w):v=w:=by
 rcases x with⟨L,rfl,l1,l2,D,C⟩|⟨rfl,no⟩
 .rcases y with⟨M,rfl,j,k,B,m⟩|⟨rfl,no⟩
  .have:L=M:=by
    by_cases z:L<M
    .have:=m L l1 z;lia
    .by_cases u:M<L
     .have:=C M j u;lia
     .show i7 (cT.mp u)<|cT.mp z
   rw[this]
  .have:=no L l1 l2;lia
 .rcases y with⟨M,rfl,j,k,B,m⟩|⟨rfl,_⟩
  .have:=no M j k;lia
  .rfl
def Mf(W:Wk rs a o m)(hm:m<=12)(cq:rs.length<=12)
  (L:∀(h1:IH)(line:Int)(c:Te),Ex h h1->t [V<|.ref X,V<|.int (a:Int),V<|.int line,c] h1=.ok (decide (line+(Jj rs a).ag<=(Jj rs a).bK)) h1)
  (P:∀(h1:IH)(line:Int)(c:Te),Ex h h1->1<=line->line<=cP rs a->WR (e [V<|.ref X,V<|.int (a:Int),V<|.int line,c] h1) λv J=>v=.int (gJ rs a o line)/\Ex h1 J):
  WS (Jh (VR t<|Jh (Jl 3 e)<|Jh (bg (Ji aR<|Jc c7 'd' 'c') (Jk 'c') Jv)<|Jl 2 'd') (Jk<|eC .af) [V<|.ref X,V<|.int (a:Int),V<|.int 1,Zg] h) N λv h'=>An rs a o v/\Ex h h':=by
 have q1:∀r∈rs.take a,0<r.1.gap/\0<=r.1.len:=λr j=>by have:=W.ok r<|oQ j;show#[this.1,05]
 have F:∀r∈rs.take a,0<r.1.gap/\0<=r.1.ag:=λr j=>by have:=W.ok r<|oQ j;show#[this.1,this.2.1]
 have M:∀s,1<=s->s<=cP rs a->cnt (rs.take a) s<=144:=λs O G=>by
  have:=De 12 ((rs.take a).map λr=>cA s r.1) λx I=>by let#[r,j,rfl]:=Z9.mp I;let#[n,hn,rfl]:=ZX.mp j;rw[e9]at hn;have k:n<rs.length:=Zb hn<|jI _ _;rw[nK];have R:=W.cn n<|Zb hn<|gL _ _;have H:=X4 (d:=Jj rs n) (W.at_ k).1 O G;rw[QG k]at R H;lia
  rw[Zm,e9]at this;unfold cnt;lia
 calc ae ?_;refine Dx (λn U h'=>Ex h h'/\∃(line:Int)(c:Te),U=[V<|.ref X,V<|.int (a:Int),V<|.int line,c]/\1<=line/\(∀t,1<=t->t<line->t<gJ rs a o t) /\
  (line<=cP rs a->1<=n/\(gJ rs a o line=line\/147<=(n:Int)+cnt (rs.take a) line))) ?_ (m:=147) 01 #[.refl _,1,Zg,rfl,01,λt h1 J=>00,λ_=>#[01,.inr (by have:=Mb (s:=1) F;lia)]]
 rintro n _ h1 ⟨B,line,c,rfl,l1,D,cn⟩;refine Jf (L h1 line c B)<|iA (λt=>?_) λt=>?_
 .have t:line<=cP rs a:=by have t:line+(Jj rs a).ag<=(Jj rs a).bK:=t;unfold cP;lia
  have Y:=M line l1 t;let#[Q,cn]:=cn t;calc#[n-1,ZQ (oH<|Zl _)<|Zi<|qh Q,?_];let#[_,J,S,rfl,E]:=(P h1 line c B l1 t).eq;refine ae<|aj<|Jf S<|ae<|jo (xy rfl rfl) (λle=>ax<|Jf rfl #[.inl #[_,rfl,l1,t,le,D],B.trans E]) λC=>aE<|aj<|Jf rfl #[B.trans E,_,_,rfl,ZG<|Zy l1<|d9.mp C,λu u1 u2=>?_,λt2=>?_]
  .by_cases z:u<line
   .show D u u1 z
   .have:=J0n W l1 (show line<=u by show cT.mp z);show ZF u2 this
  .have cn:=cn.resolve_left<|gQ<|d9.mp C;generalize hn:gJ rs a o line=nx at *;calc#[05,?_];by_cases e:Q8 (rs.take a) line=Q8 (rs.take a) nx
   .left;unfold gJ at hn ⊢;lia
   .right;have:=D1 l1 (show line<=nx by show ZG<|d9.mp C) q1;have:=Ma l1 (show line<=nx by show ZG<|d9.mp C) q1<|yQ.mpr #[this,e];lia
 .calc ax<|Jf rfl #[.inr #[rfl,λu u1 u2=>D u u1 ?_],B];have t:¬line+(Jj rs a).ag<=(Jj rs a).bK:=t;unfold cP at u2;lia
def Jqt(W:Wk rs a o m)(hm:m<=12)(cq:rs.length<=12)(rB:∀r∈rs,∀b∈r.2,cE b.1)(gl:∀r∈rs,r.1.gap.natAbs.log2<9000)(j:h[S]?=V (.lst ys))(R:cL h lo ys rs):
  WR (xp (k+3) [.ref S,.int (a:Int)] h) λv h'=>An rs a o v/\Ex h h':=by
 let#[q,C,_]:=R.get<|Zd W.ha;have u:a7 ys (a:Int)=V (g9 (rs.getD a rd) q):=JE<|by rw[Qp W.ha];show C
 rw[Jjp];show aq<|ae<|aj<|Jf rfl (Mf W hm cq (λB _ _ x=>xy (aN rfl (ai (aT rfl rfl (x.get j) u) rfl Yk))<|ai (aT rfl rfl (x.get j) u) rfl Xb) λB _ _ x l1 t=>xb<|Jf (iB rfl rfl rfl)<|J0r (k:=k) W hm cq rB gl (x.get j) (R.kp x.kp) l1 t)
def Jqa(W:Wk rs a o m)(hm:m<=12)(cq:rs.length<=12)(six:∀r∈rs,r.2.length<=6)(gl:∀r∈rs,r.1.gap.natAbs.log2<9000)(q:bX h S rs)(u:h[2]?=V (.tab "longest_hold"))(E:p9 rs a=oV o):WR (w9 (k+6) [.ref S,.int (a:Int)] h) λv h'=>An rs a o v/\Ex h h':=by rw[Jr4];calc aq<|ae<|aj<|Jf rfl (Mf W hm cq (λC _ _ x=>?_) λC _ _ x l1 t=>xb<|Jf (iB rfl rfl rfl)<|Jwm (k:=k) W hm cq six gl (q.kp x.kp) (x.get u) E l1 t);let#[j,B,D]:=Me (q.kp x.kp)<|Zd W.ha;rw[QG W.ha];show bh<|Jx (ar (D rfl rfl) rfl)<|Jpz B
theorem J0p{F p:Nat}(g:h[F]?=V (.lst<|ss.map tupS)):CF (k+1) [.ref F,.int (p:Int)] h=.ok (.int<|(cR p ss).getD 0) h:=Ju (by
 rw[Jps];calc aq<|ae<|aj<|Jf rfl (ae<|eW ?_);rw[JN];calc Jf rfl ((JR _).mpr #[_,g,?_]);refine Qx (λn U j=>h=j/\∃c d e,U=[V<|.ref F,V<|.int (p:Int),V<|.int<|(cR p<|ss.take n).getD 0,c,d,e]) (λ_ _ _ z=>z.1▸g) ?_ ?_ #[rfl,Zg,Zg,Zg,rfl]
 .rintro n hn _ _ ⟨rfl,c,d,e,rfl⟩;rw[Zm]at hn;rw[ZO,Jrt<|Zd hn];generalize ss[n]=x;by_cases z:x.1=p
  .rw[if_pos z];show gH rfl (jq (dq (rm rfl rfl)<|decide_eq_true<|by(subst_vars;rfl))<|aj<|Jf rfl #[rfl,_,_,_,rfl])
  .rw[if_neg z];show gH rfl (aL (dq (rm rfl rfl)<|decide_eq_false 05)<|aE #[rfl,_,_,_,rfl])
 .rintro _ _ ⟨rfl,c,d,e,rfl⟩;rw[Zm,yA];show ax<|Jf rfl #[rfl,rfl])
end
end
section
seal L4.run L4.WS L4.WR
section
variable{k:Nat}{h:IH}
theorem D3(i):Yf (k+1) [.int i] h=.ok (.bl Zj) h:=Ju (by rw[Jlz];show aq<|ax<|Jf (X8 (eX rfl rfl) rfl) #[rfl,rfl])
def Jwp(E:h[S]?=V (.lst ys))(w:cL h lo ys rs)(j:Dp rs c):WR (CB (k+2) [aB c,.ref S] h) λv h'=>v=.bl Zj/\Ex h h':=by
 have Z:=J4;have M:=w.len;have ha:=j.at_;let#[q,L,_]:=w.get<|Zd ha;have B:a7 ys (c.at_:Int)=V (g9 rs[c.at_] q):=JE L;let#[_,_,G,rfl,g1,rfl]:=(Qg (it:=Jw 'a') (js:=[]) (e:=KD<|k+1) (U:=[V<|aB c,V<|.ref S,Zg,Zg,Zg,Zg]) (h0:=h) (h:=h) (xs:=[.int c.at_,.int c.cj,.int c.ag,.int c.len]) (ba:=λ_=>True) (f:=λ_=>.bl Zj) (by rw[JN];show Jf rfl ((Hk _).mpr #[rfl,rfl,rfl])) (by change 4<_;show iI _ _) (λ_ _=>trivial) (by
   intro v u J q;obtain⟨i,rfl⟩:∃i:Int,v=.int i:=by simp![ZC,fu,or_false]at u;rcases u with rfl|rfl|rfl|rfl<;>show#[_,rfl]
   show Jf (Jx (ak rfl)<|D3 i) #[rfl,.refl _])).eq
 have C:=Ex.cons h (IX.lst<|[IV.int c.at_,IV.int c.cj,IV.int c.ag,IV.int c.len].map λ_=>IV.bl Zj) g1;have m:=C.get E;have F:=(eE (f:=aO allI)<|ak G).trans<|all_map (f:=λ_=>Zj) J1;have I:aW (aO aS) (Jb 'a' Je) [V<|aB c,V<|.ref S,Zg,Zg,Zg,Zg] h=.ok (.int 4) h:=rfl;have H:bP Xx 'a' [V<|aB c,V<|.ref S,Zg,Zg,Zg,Zg] h=.ok (.bl Zj) h:=eX rfl rfl;have D:jE (.int 4) (.int 4) h=.ok (.bl Zn) h:=rfl;rw[Jly];calc aq<|ae<|aL (iS (bF<|bh H)<|br<|(aG I rfl).trans D)<|aE<|ae<|aL (bF<|bh F)<|aE<|ae ?_;calc(Bx ..).mpr (Jf rfl (gH rfl (ae<|aL (iS (bF<|br<|CZ rfl rfl (dh rfl m) (iL _) 05)<|dq (ki rfl rfl)<|decide_eq_false (by have:=j.cj;show cT.mpr this))<|aE<|ax<|Jf (X8 (xT rfl rfl (ai (aT rfl rfl m B) rfl Yk) j.l0 j.l1)<|xT rfl rfl (ai (aT rfl rfl m B) rfl Qj) j.n1 j.n2) #[rfl,C])))
def Mg(hS:h[S]?=V (.lst ys))(w:cL h lo ys rs)(L:fW rs cs)(P:h[R]?=V (.lst<|cs.map aB))(hl:cs.length<=1000):
  WR (xn (k+3) [.ref R,.ref S] h) λv h'=>v=.bl Zj/\Ex h h':=by
 have Z:=J4;have wl:=w.len;have x1:Ex h (h++[IX.a8 []]):=.one _ _;have el:bP VG 'a' [V<|.ref R,V<|.ref S,Zg,Zg] h=.ok (.bl Zj) h:=eX rfl (by rw[YO P];rfl);rw[Jlw];calc aq<|ae<|aL (bF<|bh el)<|aE<|ae<|aj<|Jf rfl (ae<|eW ?_);rw[JN];calc Jf rfl ((JR _).mpr #[_,x1.get P,?_]);refine Qx (λn U h'=>∃u C,U=[V<|.ref R,V<|.ref S,V<|.ref h.length,C]/\Kp h h'/\h'[h.length]?=V (.a8 u)/\u.length<=n/\∀(m:Nat) v,aJ u (.inl (m:Int))=V v->∃(i:Nat)(c:Cm),i<n/\cs[i]?=V c/\c.at_=m/\v=.int c.cj)
  (λn U h' ⟨_,_,_,kp,_⟩=>kp _ _ P) ?_ ?_ #[[],Zg,rfl,x1.kp,Jo,Zl _,λm v e=>by cases e]
 .rintro n hn _ h1 ⟨u,C,rfl,D,g1,W,I⟩;rw[Zm]at hn;rw[ZO];have O:=L.ok _<|Z4 hn;have B:=Zd hn;generalize cs[n]=c at O B;have ha:=O.at_;let#[_,J,e2,rfl,X]:=(Jwp (k:=k) (D _ _ hS) (w.kp D) O).eq;have g2:=X.get g1;have H:=Zd ha;let#[q,ey,_]:=w.get H;have ay:a7 ys (c.at_:Int)=V (g9 rs[c.at_] q):=JE ey;generalize rs[c.at_]=r at H ay;have Y:∀{U:aI},U[3]?=V (V<|aB c)->Ja 3 U J=.ok (aB c) J:=λ{U} e=>by change(match U[3]? with|some (V v)=>Res.ok v J|_=>.stuck)=_;rw[e]
  have F:=ai (U:=[V<|.ref R,V<|.ref S,V<|.ref h.length,V<|aB c]) (b:=eC<|.int 0) (Y rfl) rfl (JU (x:=IV.int c.at_));have last:∀{RR:IV->IH->Prop},WS (fG (Jc Jg 'd' '1') (iy 'c'<|Jc Jg 'd'<|eC<|IV.int 0) [V<|IV.ref R,V<|IV.ref S,V<|IV.ref h.length,V<|aB c] J) (λU h'=>∃u C,U=[V<|.ref R,V<|.ref S,V<|.ref h.length,C]/\Kp h h'/\h'[h.length]?=V (.a8 u)/\u.length<=n+1/\∀(m:Nat) v,aJ u (.inl (m:Int))=V v->∃(i:Nat)(c:Cm),i<n+1/\cs[i]?=V c/\c.at_=m/\v=.int c.cj) RR:=λ{RR}=>by
   calc(Bx ..).mpr (Jf (ai (Y rfl) rfl JI)<|(Lg ..).mpr<|Jf rfl (Jf F<|(Lh g2<|show u.length<sizeLine by show Zb (Zk _ 999001)<|Zb (Zc (Zb (Zb (Zc W 1) hn) hl) 999001) Z).mpr ?_));refine#[_,_,rfl,λj o z=>J8 (X.get<|D _ _ z) (by have:=JJ z;show dC this),Qe g2,?_,λm v e=>?_]
   .unfold putD;split<;>simp<;>(first|show W|show oK 06|lia)
   .rw[Ld]at e;split at e
    .rename_i G;cases e;have en:(c.at_:Int)=m:=Sum.inl.inj G;show#[n,c,ZS _,B,05,rfl]
    .let#[i,M,a1,a2,C,a4]:=I m v e;show#[i,M,fP 06,a2,C,a4]
  have E:Ji aR (Jc gy (Jc Jg 'd' '0') 'c') [V<|.ref R,V<|.ref S,V<|.ref h.length,V<|aB c] J=.ok (aJ u<|.inl (c.at_:Int)).isSome J:=br<|(aG F rfl).trans<|Ju<|(Le g2).mpr #[rfl,rfl];calc gH rfl (ae<|aL (bF<|bh<|Jx (ar rfl rfl) e2)<|aE<|ae ?_);cases ev:aJ u (.inl (c.at_:Int))with|none=>show aL (tI<|dq E<|by rw[ev];rfl)<|aE last|some v=>
   let#[i,M,hi,Q,ea,rfl]:=I _ _ ev;have tR:=L.tR i n M c hi Q B ea r<|by rw[ea];show H
   show aL (tH (dq E<|by rw[ev];rfl)<|dq (ki (ai (Y rfl) rfl JI)<|aN ((aG rfl F).trans<|Ju<|(Lf g2 ev).mpr #[rfl,rfl])<|ai (aT rfl F (X.get<|D _ _ hS) ay) rfl JI)<|decide_eq_false<|cT.mpr tR)<|aE last
 .rintro _ h1 ⟨u,C,rfl,D,g1,W,I⟩;show ax<|Jf rfl #[rfl,xQ D]
end
end
abbrev dk(n:Nat):Nat:=(Nat.toDigits 10 n).length
def yc(h:n<10):dk n=1:=by rw[dk,Nat.toDigits_of_lt_base h];rfl
def Yr(h:10<=n):dk n=dk (n/10)+1:=by rw[dk,Nat.toDigits_of_base_le 01 h,Z7];rfl
def Ju4(n):1<=dk n:=by
 by_cases h:n<10
 .rw[yc h];show Zl _
 .rw[Yr<|ZI h];show fX _
def Mh(a b)(h:a<=b):dk a<=dk b:=by
 by_cases ha:a<10
 .rw[yc ha];show Ju4 b
 .rw[Yr (n:=a)<|ZI ha,Yr (n:=b)<|Zb (ZI ha) h];have:=Mh (a/10) (b/10)<|Nat.div_le_div_right h;show lG 06
termination_by a
decreasing_by lia
def X5(b):dk (10*b)<=dk b+1:=by
 by_cases Z:b=0
 .subst Z;show fY _
 .rw[Yr 05,Nat.mul_div_cancel_left _ 01];show Zl _
def Ju3(h:a<=1000000*b):dk a<=dk b+6:=by have j:=Mh _ _ h;have e:1000000*b=10*(10*(10*(10*(10*(10*b))))):=05;rw[e]at j;have t1:=X5 b;have t2:=X5<|10*b;have u:=X5<|10*(10*b);have k:=X5<|10*(10*(10*b));have B:=X5<|10*(10*(10*(10*b)));have m:=X5<|10*(10*(10*(10*(10*b))));lia
def Jxb(n:Nat):sj (toString ((n:Int)):String)=dk n:=by have e:=ofString_length<|toString<|(n:Int);calc e.trans ?_;change(Nat.repr n).length=dk n;simp[Nat.repr]
section
seal L4.run L4.WS L4.WR
theorem Mi:∀(k n:Nat),n<10^(k+1)->dk n<=k+1
 |0,n,h=>by rw[yc<|by simpa using h];show Zl _
 |k+1,n,h=>by
  by_cases hn:n<10
  .rw[yc hn];show fX _
  .rw[Yr<|ZI hn];have:=Mi k (n/10)<|Nat.div_lt_of_lt_mul 00;show lG 06
def J7m(h:n<10^60):n.log2<1920:=by
 by_cases j:n=0
 .subst j;decide
 .rw[Nat.log2_lt j];show ZL h<|by decide +kernel
def Mj(k:0<=m)(m2:m<=40*unit)(u:unit<=10^40):∃M:Nat,m=(M:Int)/\M<10^60:=by
 have j:40*(10:Int)^40<10^60:=by decide +kernel
 let#[M,rfl]:=Er k;calc#[M,rfl,?_];have:(M:Int)<((10^60:Nat):Int):=by rw[Int.natCast_pow];generalize (10:Int)^40=y at *;generalize ((10:Nat):Int)^60=z at *;lia
 show lZ.mp 06
section
variable{k:Nat}{h:IH}
def t8(a b c d):∃m,JM (λi=>[a,b,c,d].getD i 0) 4=m/\a<=m/\b<=m/\c<=m/\d<=m/\∀bC,a<=bC->b<=bC->c<=bC->d<=bC->m<=bC:=by have f:=BG (λi=>[a,b,c,d].getD i 0) 4;calc#[_,rfl,f 0 01,f 1 01,f 2 01,f 3 01,λbC C J B k=>wK _ _ _ 01 λj u=>?_];match j,u with|0,_=>show C|1,_=>show J|2,_=>show B|3,_=>show k
def Ml(j:e U h=.ok (.int (n:Int)) h)(hn:n<10^60):aW (aO aS) (Jb (aW (aO iw)<|Jb e Je) Je) U h=.ok (.int (dk n:Nat)) h:=by have Z:=J4;have k:=(eE<|ak j).trans (Ju<|by rw[By,WO];show#[by rw[Int.natAbs_natCast];show J7m hn,rfl,rfl]);have:=Mi 59 n hn;show(eE<|ak k).trans (Ju<|by rw[By,Hi,Jxb];show#[Zb (Zk _ 999941)<|Zb (Zc this 999941) Z,rfl,rfl])
theorem Js6{cs:Tz}(W:h[S]?=V (.lst ys))(w:cL h lo ys rs)(hu:1<=unit)(E:unit<=10^40)(hf:∀r∈rs,F7 unit r)(cq:rs.length<=12)(Z:h[R]?=V (.lst<|cs.map aB))
  (hc:∀c∈cs,c.at_<rs.length/\0<=c.cj/\c.cj<40*unit/\c.ag<40*unit/\c.len<40*unit):CH (k+1) [.ref R,.ref S] h=.ok (.bl Zj) h:=Ju (by
 have wl:=w.len;rw[Je3];calc aq<|ae<|aj<|Jf rfl (ae<|eW ?_);rw[JN];calc Jf rfl ((JR _).mpr #[_,W,?_]);refine Qx (λn U L=>h=L/\∃(g:Int)(H B j C D F:Te),U=[V<|.ref R,V<|.ref S,V<|.int g,H,B,j,C,D,F,Zg]/\1<=g/\g<=40*unit/\(0<n->unit<=g)) (λ_ _ _ z=>z.1▸W) ?_ ?_ #[rfl,1,Zg,Zg,Zg,Zg,Zg,Zg,rfl,ZJ _,05,05]
 .rintro n hn _ _ ⟨rfl,g,H,B,j,C,D,F,rfl,g1,g2,_⟩;have u:n<rs.length:=by rw[<-wl];show hn
  let#[q,ey,_,_]:=w.at_ n _ _ (Zd hn)<|Zd u;have f:=hf _<|Z4 u;rw[ey];generalize rs[n]=r at f;have f1:=f.g1;have f2:=f.g2;have f3:=f.l2;have f4:=f.t2;let#[m,J,m1,I,_,_,P]:=t8 g r.1.gap r.1.len r.1.ag;refine gH rfl (aj<|Jf ((eE<|gF rfl rfl rfl rfl).trans<|show Y6 _ _=.ok (.int m) h by rw[<-J];rfl) #[rfl,m,_,_,_,_,_,_,rfl,ZE g1 m1,P _ g2 05 05 05,λ_=>ZE f1 I])
 .rintro _ _ ⟨rfl,g,H,B,j,C,D,F,rfl,g1,g2,g3⟩;let#[G,rfl,G6]:=Mj (show 0<=g by show ZG 06) g2 E;calc ae<|eW ?_;rw[JN];calc Jf rfl ((JR _).mpr #[_,Z,?_]);refine Qx (λn U L=>h=L/\∃O:Te,U=[V<|.ref R,V<|.ref S,V<|.int (G:Int),H,B,j,C,D,F,O]) (λ_ _ _ z=>z.1▸Z) ?_ ?_ #[rfl,Zg,rfl]
  .rintro n hn _ _ ⟨rfl,O,rfl⟩;rw[Zm]at hn;rw[ZO];let#[c1,Y,c3,Q,X]:=hc _<|Z4 hn;generalize cs[n]=c at c1 Y c3 Q X;have ug:unit<=(G:Int):=g3<|by rw[wl];show lI 06
   let#[m,J,m1,_,_,_,P]:=t8 (c.at_:Int) c.cj c.ag c.len;have I:=P (40*unit) 05 (ZG c3) (ZG Q)<|ZG X;let#[M,rfl,M6]:=Mj (show 0<=m by show ZE Y 06) I E;have key:=Ju3 (a:=M) (b:=G) 05;have ex:aW (aO Vh) (Jb 'j' Je) [V<|.ref R,V<|.ref S,V<|.int (G:Int),H,B,j,C,D,F,V<|aB c] h=.ok (.int (M:Int)) h:=(eE<|ak rfl).trans<|by rw[<-J];rfl
   show gH rfl (aL (dq (km (Ml ex M6)<|aN (Ml rfl G6) rfl)<|decide_eq_false 05)<|aE #[rfl,_,rfl])
  .rintro _ _ ⟨rfl,O,rfl⟩;show ax<|Jf rfl #[rfl,rfl])
end
end
section
seal L4.run L4.WS L4.WR
section
variable{k:Nat}{h:IH}
def Ay:jE (.int x) (.int x) h=.ok (.bl Zn) h:=by change Res.ok (IV.bl (!decide (x=x))) h=_;rw[decide_eq_true rfl];rfl
end
section
variable{rs:Tx}{a:Nat}{o:Wg}{c unit:Int}
structure Hw(unit:Int)(rs:Tx)(a:Nat)(o:Wg)(m:Nat):Prop where
 w:Wk rs a o m
 hm:m<=12
 kj:(JA rs a o).length<64
 yd:∀c∈JA rs a o,c.at_<rs.length/\0<=c.cj/\c.cj<40*unit/\c.ag<40*unit/\c.len<40*unit
 dg:(Jj rs a).bK<=(Jj rs a).gap
def Jpj(D:Dr c unit rs)(cq:rs.length<=12)(sm:rs.length<=5\/∀r∈rs,r.1.gap<3*unit)(ha:a<rs.length)(ho:HO rs a o):∃m,Hw unit rs a o m:=by
 have u1:=D.u1;have at_:∀n,n<rs.length->F7 unit #[Jj rs n,(rs.getD n rd).2]:=λn hn=>by unfold Jj;rw[Qp hn];show D.f _<|Z4 hn
 have C:=at_ a ha;have a1:0<=(Jj rs a).ag:=C.t1;have Y:(Jj rs a).bK<=(Jj rs a).gap:=C.d2;have u:∀K:Int,0<=K->(Jj rs a).gap<K*unit->∀n,n<a->cA (cP rs a) (Jj rs n)<=K+2:=λK I h n hn=>by
  have f:=at_ n<|qk 06 06;have B:unit<=(Jj rs n).gap:=f.g1;have F:(Jj rs n).ag<=3*(Jj rs n).gap/2:=f.t2;have Z:=uS B I;unfold cA;split
  .calc KS 05 ?_;rw[o7];unfold cP;lia
  .show ZG<|Zy I<|jO _ 01
 obtain⟨m,hm,cn,ln⟩:∃m:Nat,m<=12/\(∀n,n<a->(cA (cP rs a)<|Jj rs n).toNat<=m)/\m*a+2<64:=by
  rcases sm with h|h
  .have g2:(Jj rs a).gap<8*unit:=C.g2;show#[10,01,λn hn=>by have:=u 8 01 g2 n hn;lia,05]
  .have g2:(Jj rs a).gap<3*unit:=by rw[QG ha];show h _<|Z4 ha
   show#[5,01,λn hn=>by have:=u 3 01 g2 n hn;lia,05]
 have W:Wk rs a o m:=#[ha,λr G=>by have f:=D.f r G;have B:=f.g1;show#[ZF 06 06,f.t1,f.l1,f.ok],ho,cn];have L:=L1 W;have tT:tO rs a o<=12*unit:=by
  refine wK _ _ _ (by unfold QE;simp) λj O=>?_
  have e:(QE rs a o).getD j 0=(QE rs a o)[j]:=by rw[Zq,Zd O];rfl
  change(QE rs a o).getD j 0<=_;rw[e];rcases ZY.mp (Z4 O)with h|h
  .let#[r,G,e]:=Z9.mp h;have f:=D.f r<|oQ G;have B:=f.g2;have F:=f.t2;rw[<-e];lia
  .rw[Z6.mp h];cases o with|none=>change(0:Int)<=_;lia|some p=>let#[_,J,X,_,U,_]:=W.p rfl;have S:=U.each _ X;have h7:=S.2.2.1;have h8:=S.2.2.2;have B:(Jj rs p.1).gap<8*unit:=(at_ _ J).g2;have F:(Jj rs p.1).len<=(Jj rs p.1).gap:=(at_ _ J).l2;change p.2.2.1+1<=_;lia
 refine#[m,W,hm,?_,λc P=>?_,Y]
 .have h1:=DT (T:=tO rs a o) cn a<|Zl _;have J:(kW rs (tO rs a o) o).length<=1:=by cases o with|none=>show ZW _|some p=>show Zl _
  rw[JA,Z7,Z7,xZ];lia
 .have ok:=L.ok c P;have Q:=ok.at_;have f:=D.f _<|Z4 Q;have B:=f.g2;have F:=f.t2;have Z:=f.l2;have l1:=ok.l1;have n2:=ok.n2;calc#[Q,ok.cj,?_,05,05];have g0:=LZ W;rcases x9 P with⟨p,e,H⟩|⟨w,t,hw,H⟩
  .rw[H];change tO rs a o-gO o<_;lia
  .have lw:w<rs.length:=hw.elim (λE=>(Z3<|Zb (Zc E.1 1) ha)) λE=>(Zb (Zc (Zi E.1) 1) ha)
   have M:=at_ w lw;have w1:unit<=(Jj rs w).gap:=M.g1;have w2:0<=(Jj rs w).ag:=M.t1;have ga:(Jj rs a).gap<8*unit:=C.g2;rw[H];change tO rs a o-(Jj rs w).ag+(t:Int)*(Jj rs w).gap<_;rcases hw with⟨_,k⟩|⟨_,k⟩
   .by_cases R:1<=cP rs a
    .have:=(ya (i:=t) (d:=Jj rs w) R 05).mp<|Int.lt_toNat.mp k;unfold cP at this;lia
    .unfold cA at k;rw[if_neg R]at k;show absurd k<|oM _
   .rw[k,show((0:Nat):Int)*(Jj rs w).gap=0 from yU _];lia
end
section
variable{k:Nat}{h:IH}
def DW(h1:IH)(x y:IV)(h':IH):Prop:=∀(r:RH)(q:Nat),x=g9 r q->h1[q]?=V (.lst<|r.2.map ao)->∃w:Nat,y=IV.ref w/\w≠h1.length/\h'[w]?=V (wo r)
def Jxj(ee:e U h=.ok (.ref S) h)(G:Gd unit rs)(Q:h[S]?=V (.lst ys))(w:cL h lo ys rs):∃h',Jy (Jw e) 1 [] (aV 0) JB (xr<|k+5) U h=.ok (.ref h.length) h'/\∃vs,h'[h.length]?=V (.lst vs)/\e8 h' vs rs/\Kp h h':=by
 have Z:=J4;have cq:=G.cq;have M:=w.len;let#[v,O,ev,rfl,vs,gv,P,k3,dv]:=(WX (e:=xr<|k+5) (js:=[]) (U:=U) (h0:=h) (h:=h) (xs:=ys) (DW h) (by rw[JN];show Jf ee<|(JR _).mpr #[_,Q,rfl,rfl,rfl]) (Zb (Zk _ 999988)<|Zb (Zc (Zb (Zc (Zi M) 1)<|Zc cq 1) 999988) Z) (by
   intro x y J O kb dd r q e g;let#[w,D,H,u]:=dd r q e g;show#[w,D,H,kb _ _ H u]) (λJ q=>q _ _ Q) (by
   intro x hx J k2 l2;let#[n,hn,rfl]:=ZX.mp hx;have B:n<rs.length:=nD 06 06;let#[q,I,_,C]:=w.at_ n _ _ (Zd hn)<|Zd B;have j:=G.f _<|Z4 B;have u1:=G.u1;rw[I];generalize rs[n]=r at C j;have f1:=j.g1;have L:=k2 _ _ C;have Y:a7 (IV.str r.1.name::xM r q) 5=V (.ref q):=Dm;unfold xr;rw[YT];calc Jf (ll (ai rfl rfl JU)<|ll (ai rfl rfl JI)<|ll (ai rfl rfl Qj)<|ll (ai rfl rfl Xb)<|ll (ai rfl rfl Yk)<|ak<|C0 (ai rfl rfl Y) L) ?_;generalize m:r.2.map ao=hs;calc WR.mono (J0t (k:=k) (hs:=hs) j.nm (ZE u1 f1) j.l1 j.t1 (λh1=>Jp9 j.d1 j.d2) λh1 z=>m▸Jmb (z _ _<|by rw[m];show Jo) j.ok) ?_;rintro _ O ⟨rfl,g,rfl⟩;calc#[rfl,(Ex.one _ _).trans<|.cons _ _ _,λr' q' F E=>#[_,rfl,by rw[Z7];show dC<|Zb l2<|Zk _ _,?_]];have F:=F;simp at F;let#[D,H,u,X,R,rfl]:=F;rw[C]at E;have E:r.2.map ao=r'.2.map ao:=by simpa using E
   rw[<-m,E];unfold wo;rw[<-D,<-H,<-u,<-X,<-R];show J1)).eq
 calc#[O,ev,vs,gv,#[ZQ (Zb (Zi P)<|Zi M)<|Zb (Zi M.symm)<|Zi P.symm,λi v r a b=>?_],k3];let#[q,I,C]:=w.get b;let#[W,D,_,u]:=dv i _ _ I a r q rfl C;show#[W,D,u]
end
end
section
seal L4.run L4.WS L4.WR
def ob(rs:Tx)(a:Nat):Wg:=(LO rs a).choose
theorem D5(rs)(a):p9 rs a=oV (ob rs a)/\HO rs a (ob rs a):=(LO rs a).choose_spec
open Classical in
def dR(rs:Tx)(a:Nat):IV:=if h:∃v,An rs a (ob rs a) v then h.choose else .af
def An.ln(x:An rs a (ob rs a) v):v=dR rs a:=by have h:∃v,An rs a (ob rs a) v:=#[v,x];unfold dR;rw[dif_pos h];show x.uniq h.choose_spec
structure DF(unit:Int)(rs:Tx):Prop where
 w:∀a,a<rs.length->∃m,Hw unit rs a (ob rs a) m
 cq:rs.length<=12
 six:∀r∈rs,r.2.length<=6
 rB:∀r∈rs,∀b∈r.2,cE b.1
 gl:∀r∈rs,0<r.1.gap/\r.1.gap.natAbs.log2<9000/\0<=r.1.ag
section
variable{k:Nat}{h:IH}{unit:Int}{rs:Tx}{D a:Nat}
def DF.law(F:DF unit rs)(ha:a<rs.length)(u:h[S]?=V (.lst ys))(R:cL h lo ys rs):WR (xp (k+3) [.ref S,.int (a:Int)] h) λv h'=>v=dR rs a/\An rs a (ob rs a) v/\Ex h h':=by let#[m,W]:=F.w a ha;show WR.mono (Jqt W.w W.hm F.cq F.rB (λr j=>(F.gl r j).2.1) u R) λ_ _ x=>#[x.1.ln,x]
def DF.dH(F:DF unit rs)(ha:a<rs.length)(q:bX h D rs)(j:h[2]?=V (.tab "longest_hold")):WR (w9 (k+6) [.ref D,.int (a:Int)] h) λv h'=>v=dR rs a/\An rs a (ob rs a) v/\Ex h h':=by let#[m,W]:=F.w a ha;show WR.mono (Jqa W.w W.hm F.cq F.six (λr u=>(F.gl r u).2.1) q j (D5 rs a).1) λ_ _ x=>#[x.1.ln,x]
def Jzv:∀p:Nat,p<12->(ZP<|toString (p:Int)).length<=1000:=by decide +kernel
def Jwd{n p:Nat}(e:h[n]?=V (.exc "NotKept" []))(hp:p<12):wO (k+1) [.ref n,.int (p:Int)] h=.ok .af (h.set n<|.exc "NotKept" [("at",.int (p:Int))]):=by
 have Z:=J4;have l1:=Jzv p hp;have l0:(ZP "the work with number ").length=21:=by decide +kernel
 have l2:(ZP " has no answer").length=14:=by decide +kernel
 have E:((p:Int)).natAbs.log2<1920:=by
  have:(p:Int).natAbs.log2<=p:=by rw[Int.natAbs_natCast];show Nat.log2_le_self p
  show Zb (Zb (Zc this 1) hp)<|Zk _ 1908
 have xo:((pg k).xo "NotKept").isSome=Zj:=02;have xf:eJ T "at" "NotKept"=Zj:=02;obtain⟨t,B⟩:∃t,kZ [eC<|.str "the work with number ",jg eS 'b',eC<|.str " has no answer"] [V<|.ref n,V<|.int (p:Int)] h=.ok (.str t) h:=by
  have m:jg eS 'b' [V<|.ref n,V<|.int (p:Int)] h=.ok (.str<|toString (p:Int)) h:=by change(if ((p:Int)).natAbs.log2<1920 then Res.ok (IV.str<|toString (p:Int)) h else .stuck)=_;rw[if_pos E]
  generalize I:ZP "the work with number "=A at l0;generalize G:ZP " has no answer"=j at l2;generalize H:ZP (toString (p:Int))=F at l1 m;have q1:(iM++A).length<=sizeLine:=by rw[qO,l0];change 0+21<=_;show iI _ _
  have C:(iM++A++F).length<=sizeLine:=by rw[qO,qO,l0];change 0+21+_<=_;lia
  have u:(iM++A++F++j).length<=sizeLine:=by rw[qO,qO,qO,l0,l2];change 0+21+_+14<=_;lia
  calc#[iM++A++F++j,?_];change(if (iM++A).length<=sizeLine then XA [jg eS 'b',eC<|.str j] (iM++A) [V<|.ref n,V<|.int (p:Int)] h else .stuck)=_;rw[if_pos q1];change(jg eS 'b' [V<|.ref n,V<|.int (p:Int)] h).bind _=_;rw[m];change(if (iM++A++F).length<=sizeLine then XA [eC<|.str j] (iM++A++F) [V<|.ref n,V<|.int (p:Int)] h else .stuck)=_;rw[if_pos C];change(if (iM++A++F++j).length<=sizeLine then XA [] (iM++A++F++j) [V<|.ref n,V<|.int (p:Int)] h else .stuck)=_;rw[if_pos u];change(if (iM++A++F++j).length<=sizeLine then Res.ok (IV.str _) h else .stuck)=_;rw[if_pos u]
 have m:Yt (λc=>((pg k).xo c).isSome) (Jb 'a'<|Jb (kZ [eC<|.str "the work with number ",jg eS 'b',eC<|.str " has no answer"]) Je) [V<|.ref n,V<|.int (p:Int)] h=.ok .af h:=by unfold Yt;rw[ar rfl B];change(match h[n]? with|some (.exc c _)=>if ((pg k).xo c).isSome then Res.ok IV.af h else .stuck|_=>.stuck)=_;rw[e];change(if ((pg k).xo "NotKept").isSome then Res.ok IV.af h else .stuck)=_;rw[if_pos xo]
 have D:v9 (eJ T "at") "at" 'a' 'b' [V<|.ref n,V<|.int (p:Int)] h=.next [V<|.ref n,V<|.int (p:Int)] (h.set n<|.exc "NotKept" [("at",.int (p:Int))]):=by change(match h[n]? with|some (.exc c [])=>if eJ T "at" c&&Zj then bU.next _ (h.set n<|.exc c [("at",.int (p:Int))])else .stuck|_=>.stuck)=_;rw[e];change(if eJ T "at" "NotKept"&&Zj then _ else bU.stuck)=_;rw[if_pos<|by rw[xf];rfl]
 calc Ju ?_;rw[Jgq];calc aq<|ae<|Ql<|Jf m ?_;unfold Kb;rw[D,UL];show#[rfl,rfl]
def Jqk(e:m U h=.ok (.ref n) h1)(hn:h1[n]?=V (.exc c fs))(r:rz c=Zj)(y:YY n U h1):eK (YH rz m U h) N R YY:=by unfold YH;rw[YV,e,YW];dsimp only;rw[hn];dsimp only;rw[if_pos r];show y
def Jwj(F:DF unit rs)(q:bX h D rs)(G:h[2]?=V (.tab "longest_hold")):WE (Ck (k+7) [.ref D] h) (λv h'=>(∀a,a<rs.length->∃L,dR rs a=.int L)/\∃i,v=.ref i/\h'[i]?=V (.lst<|(ZM rs.length).map<|dR rs)/\Ex h h') λn h'=>∃a,a<rs.length/\(∀t,1<=t->t<=cP rs a->t<gJ rs a (ob rs a) t)/\dR rs a=.af/\h.length<=n/\h'[n]?=V (.exc "NotKept" [("at",.int (a:Int))])/\Ex h h':=by
 have Z:=J4;have cq:=F.cq;let#[I,C,w]:=id q;have J:=w.len;rw[Jvf];calc J55 ?_;rw[Kq,wM];calc eK.of<|aj<|Jf (cO rfl rfl) ?_;rw[Ko,wM,J2p];calc WE.of<|(Vz ..).mpr<|Jf (ak<|dO rfl (grow C) xO (xx _) rfl (xP<|grow C))<|(Xs ..).mpr #[05,?_];refine Jxs (λn U h'=>∃g a b,U=[V<|.ref D,V<|.ref h.length,a,b]/\h'=h++IX.lst ((ZM n).map<|dR rs)::g/\∀a,a<n->∃L,dR rs a=.int L) (λ_ _ _ _=>trivial) ?_ ?_ #[[],Zg,Zg,rfl,rfl,λa z=>absurd 06<|oM _]
 .rintro n hn _ _ ⟨g,a,b,rfl,rfl,j⟩;rw[JH]at hn;have m:n<rs.length:=nD 06 06;rw[Qw,show(0:Int)+(n:Int)=n by show mK _ _];calc gH rfl ?_;rw[Kn,wM,YZ,Hu];have E:Ex h (h++IX.lst ((ZM n).map<|dR rs)::g):=.cons _ _ _;calc WE.of<|Jf (ar rfl rfl)<|WE.of<|WR.mono (F.dH (k:=k) m (q.kp E.kp)<|E.get G) ?_;rintro v _ ⟨ev,H,B,rfl⟩;rw[wM,J6l];calc WE.of ?_;rw[iW,iY];rcases H with⟨L,rfl,_⟩|⟨rfl,no⟩
  .calc Jf (br<|(aG rfl rfl).trans rfl) #[(λz=>by cases z),λ_=>?_];rw[YX];calc eK.of (Ql<|QO (i:=h.length) rfl J1 Xc (Jf (ak rfl)<|jr J1 (by rw[Zm,nJ];show Zb (Zk _ 999989)<|Zb (Zc (Zb m cq) 999989) Z) ?_));rw[Xq];refine#[g++B,_,_,rfl,?_,λa z=>?_]
   .rw[uw,jv,ZN,<-ev];rfl
   .by_cases e:a=n
    .show#[L,by rw[e];show ev.symm]
    .show j a<|iH (ZZ (b:=1) z) e
  .calc Jf (br<|(aG rfl rfl).trans rfl) #[λ_=>?_,λz=>by cases z];have u:Ex h (h++IX.lst ((ZM n).map<|dR rs)::(g++B)):=.cons _ _ _;generalize h++IX.lst ((ZM n).map<|dR rs)::(g++B)=h1 at u;calc Jqk (n:=h1.length) (c:="NotKept") (fs:=[("at",.int (n:Int))]) (h1:=h1++[.exc "NotKept" [("at",.int (n:Int))]]) ?_ Jo 02 #[#[_,_,Jo],#[_,_,Jo],n,m,no,ev.symm,u.len,Jo,u.trans<|.one _ _];change((wO (k+6) [.ref h1.length,.int (n:Int)]<|h1++[.exc "NotKept" []]).bind _)=_;rw[Jwd Jo<|ZL 06 06,VS];rfl
 .rintro _ _ ⟨g,a,b,rfl,rfl,j⟩;rw[JH]at j ⊢;have e:((I.length:Int)-0).toNat=rs.length:=06;rw[e]at j ⊢;show eK.of<|ax<|Jf rfl #[j,_,rfl,J1,.cons _ _ _]
end
end
section
seal L4.run L4.WS L4.WR
def oG(rs:Tx)(cs:Tz)(p:Nat):Int:=xS rs<|cs.getD p cd
section
variable{k:Nat}{h:IH}
def D6(hd:bX h D rs)(ha:c.at_<rs.length):wV (k+2) [.ref D,aB c] h=.ok (.int<|c.cj+(rs[c.at_]).1.bK) h:=by let#[E,m,w]:=hd;let#[j,u,B]:=w.get<|Zd ha;have C:=JE u;calc Ju ?_;rw[Jr5];show aq<|ax<|Jf (aN (ai rfl rfl JI)<|au (lu m rfl (ai rfl rfl JU) C) B rn) #[rfl,rfl]
def J3b(hd:bX h D rs)(ha:c.at_<rs.length):wV (k+2) [.ref D,aB c] h=.ok (.int<|xS rs c) h:=by unfold xS;rw[Qp ha];show D6 hd ha
theorem Mn(g:h[i]?=V (.lst xs)):xj (k+1) [.ref i] h=.ok (.ref h.length) (h++[.lst xs]):=Ju (by rw[Jnc];show aq<|ax<|jn<|Jf (bh<|eX rfl (by rw[YO g];rfl)) #[λ_=>Jf (C0 rfl g) #[rfl,rfl],λz=>by cases z])
abbrev qe(R:Nat)(p d:Int):Wo:=[("row",.ref R),("place",.int p),("turn",.int d)]
theorem kp0:bz "lines" a ([]:Wo)=([("lines",a)]:Wo):=02
theorem bk0:bz "row" a ([]:Wo)=([("row",a)]:Wo):=02
theorem bk1:bz "place" b ([("row",a)]:Wo)=([("row",a),("place",b)]:Wo):=02
theorem bk2:bz "turn" c ([("row",a),("place",b)]:Wo)=([("row",a),("place",b),("turn",c)]:Wo):=02
def Jss(g:h1[i]?=V (.lst xs)):WE ((xk (k+2) (.ref h1.length::([.ref i]++[]))<|h1++[.ins "Kept" []])) (λr h'=>r=.af/\∃l,h'[h1.length]?=V (.ins "Kept" [("lines",.ref l)])/\h'[l]?=V (.lst xs)/\Ex h1 h') Z_:=by change WE (xk (k+2) [.ref h1.length,.ref i]<|h1++[.ins "Kept" []]) _ _;calc WE.of ?_;rw[Jlp];have j:Ex h1 (h1++[IX.ins "Kept" []]++[.lst xs]):=(Ex.one _ _).trans<|.one _ _;calc aq<|Qs (Jx (ak rfl)<|Mn<|grow g) rfl (grow Jo) 01 #[rfl,_,?_,J8 Jo 03,QA j<|Zl _];rw[kp0];show Qe<|grow Jo
def Jq9{D R n:Nat}(d:bX h D rs)(g:h[R]?=V (.lst<|cs.map aB))(hn:n<cs.length)(F:(cs.getD n cd).at_<rs.length):WR (Cq (k+3) [.ref D,.ref R,.int (n:Int)] h) λv h'=>∃bA R',v=.ref bA/\h'[bA]?=V (.ins "Broken"<|qe R' n<|oG rs cs n)/\h'[R']?=V (.lst<|cs.map aB)/\Ex h h':=by rw[Jlt];calc aq<|ax<|(YT ..).mpr<|Jf (iB rfl rfl (Jx (ar rfl (aT rfl rfl g (Xy hn)))<|J3b d F)) ?_;change WR (Co (k+2) [.ref h.length,.ref R,.int (n:Int),.int<|oG rs cs n]<|h++[.ins "Broken" []]) _;rw[Jhk];generalize oG rs cs n=H;have G:Ex h (h++[IX.ins "Broken" []]++[.lst<|cs.map aB]):=(Ex.one _ _).trans<|.one _ _;have g1:(h++[IX.ins "Broken" []]++[IX.lst<|cs.map aB])[h.length]?=V (.ins "Broken" []):=grow Jo;have E:(h++[IX.ins "Broken" []]++[IX.lst<|cs.map aB])[(h++[IX.ins "Broken" []]).length]?=V (.lst<|cs.map aB):=Jo;have ne:h.length≠(h++[IX.ins "Broken" []]).length:=03;calc aq<|ae<|Qs (Jx (ak rfl)<|Mn<|grow g) rfl g1 01 ?_;generalize (h++[IX.ins "Broken" []]).length=R' at ne E;rw[bk0];have C:=QA (o:=.ins "Broken" [("row",.ref R')]) G<|Zl _;have g2:=Qe (o':=.ins "Broken" [("row",.ref R')]) g1;have m:=J8 (o':=.ins "Broken" [("row",.ref R')]) E ne;generalize (h++[IX.ins "Broken" []]++[IX.lst<|cs.map aB]).set h.length (.ins "Broken" [("row",.ref R')])=J at C g2 m;calc ae (Qs rfl rfl g2 (by change 1<1000;decide) ?_);rw[bk1];have u:=QA (o:=.ins "Broken" [("row",.ref R'),("place",.int (n:Int))]) C<|Zl _;have j:=Qe (o':=.ins "Broken" [("row",.ref R'),("place",.int (n:Int))]) g2;have B:=J8 (o':=.ins "Broken" [("row",.ref R'),("place",.int (n:Int))]) m ne;generalize J.set h.length (.ins "Broken" [("row",.ref R'),("place",.int (n:Int))])=I at u j B;calc Qs rfl rfl j (by change 2<1000;decide) #[rfl,h.length,R',rfl,?_,J8 B ne,QA u<|Zl _];rw[bk2];show Qe j
variable{unit:Int}{rs:Tx}{D:Nat}
inductive Jd(rs:Tx):IV->IH->Prop|kept {bA l:Nat}{h:IH}(al:∀a,a<rs.length->∃L,dR rs a=.int L) (gV:h[bA]?=V (.ins "Kept" [("lines",.ref l)])) (gl:h[l]?=V (.lst ((ZM rs.length).map (dR rs)))):Jd rs (.ref bA) h|lD {a bA R:Nat}{h:IH}(ha:a<rs.length) (no:∀t,1<=t->t<=cP rs a->t<gJ rs a (ob rs a) t) (e:dR rs a=.af) (gV:h[bA]?=V (.ins "Broken" (qe R (pre rs a (ob rs a)).length (oG rs (JA rs a (ob rs a)) (pre rs a (ob rs a)).length)))) (gR:h[R]?=V (.lst ((JA rs a (ob rs a)).map aB))):Jd rs (.ref bA) h
def Jv0(F:DF unit rs)(q:bX h D rs)(G:h[2]?=V (.tab "longest_hold")):WR (Cr (k+8) [.ref D] h) λv h'=>Jd rs v h'/\Ex h h':=by
 rw[Jhp];calc aq<|J6k _ _ ?_;rw[Za,J13,Jxi,Hu];refine WE.of<|Jf (ak rfl)<|WE.mono (Jwj (k:=k) F q G) ?_ ?_
 .rintro _ C ⟨M,i,rfl,S,B⟩;rw[J12];refine WE.mono (Jss (k:=k+5) S) ?_ λ_ _ z=>z
  rintro _ J ⟨rfl,l,E,gl,j⟩;show#[rfl,.kept M E gl,B.trans j]
 .rintro n C ⟨a,ha,no,e,ln,gn,B⟩;calc#[_,_,gn,?_];let#[m,W]:=F.w a ha;rw[J8s 02];change WS (Xo 1 _ [V<|.ref D,V<|.ref n,Zg] C) _ _;rw[J2m rfl gn];have j:=QA (o:=.iP "NotKept" [("at",.int (a:Int))]) B ln;have g2:=Qe (o':=.iP "NotKept" [("at",.int (a:Int))]) gn;generalize C.set n (.iP "NotKept" [("at",.int (a:Int))])=J at j g2;have xf:eJ T "at" "NotKept"=Zj:=02;have O:Yv (eJ T "at") "at" 'b' [V<|.ref D,V<|.ref n,Zg] J=.ok (.int (a:Int)) J:=by
   change(match J[n]? with|some (.exc c [(g,y)])=>if eJ T "at" c&&decide (g=("at":Str))then Res.ok y J else .stuck|some (.iP c [(g,y)])=>if eJ T "at" c&&decide (g=("at":Str))then Res.ok y J else .stuck|_=>.stuck)=_;rw[g2];dsimp only;rw[xf,decide_eq_true rfl];rfl
  let#[_,Z,H,R,rfl,l3,U,I]:=(Jpw (k:=k+3) (m:=m) ha (q.kp j.kp) F.cq F.six F.gl (j.get G) (D5 rs a).1 (λp z=>(W.w.p z).2.1) W.hm W.w.cn).eq;have u:(pre rs a<|ob rs a).length<(JA rs a<|ob rs a).length:=by rw[Xj,Z7];show ZS _
  have L:((JA rs a<|ob rs a).length:Int)-1=((pre rs a<|ob rs a).length:Int):=by rw[Xj,Z7];change((_+1:Nat):Int)-1=_;lia
  rw[L]at H;refine ae<|aj<|Jf (Jx (ar rfl O) H)<|ax<|(Yb ..).mpr<|Jf (iB rfl (ai rfl rfl JU) (ai rfl rfl JI))<|WR.mono (Jq9 (k:=k+4) (q.kp (j.trans I).kp) U u ?_) ?_
  .show(W.yd _<|by rw[Zq,Zd u];show Z4 u).1
  .rintro _ X ⟨bA,Y,rfl,E,P,Q⟩;show#[.lD ha no e E P,(j.trans I).trans Q]
end
end
section
seal L4.run L4.WS L4.WR
noncomputable def gN (v:IV):kD:=match v with|.int x=>.int x|_=>.none
def nB(v:IV):Bool:=match v with|.af=>Zj|_=>Zn
def Pn(v:IV):Prop:=v=.af\/∃x,v=.int x
section
variable{h:IH}{i j:Nat}{xs:Tu}
def Mo(n)(q:Pn v):toD h (n+1) v=V (gN v)/\(gN v).canLay0=Zj:=by rcases q with rfl|⟨x,rfl⟩<;>show#[rfl,rfl]
def D7(hi:h[i]?=V (.lst xs))(q:∀x∈xs,Pn x):toD h 6 (.ref i)=V (.list<|xs.map gN):=by rw[xJ hi,xK (g:=gN) λx j=>(Mo 4<|q x j).1];rfl
theorem Mp(q:∀x∈xs,Pn x):jP (xs.map gN)=Zj:=Dh λx j=>(Mo (h:=[]) 0<|q x j).2
def J3e(hi:h[i]?=V (.lst xs))(k:h[j]?=V (.lst xs))(q:∀x∈xs,Pn x):jX (.ref i) (.ref j) h=.ok (.bl Zj) h:=by
 have l:(sv<|xs.map gN).canLay0=Zj:=by rw[l4];show Mp q
 have m:Vu (.ref i) (.ref j) h=V Zj:=by unfold Vu;rw[D7 hi q,D7 k q];dsimp only;rw[if_pos #[l,l],KU _ l]
 unfold jX;rw[show Xp (.ref i) (.ref j)=Zg from rfl];dsimp only;rw[m]
theorem Mq:∀{xs:Tu},(∀x∈xs,Pn x)->(xs.map gN).any (λy=>jy y .none)=xs.any nB
 |[],_=>rfl
 |x::xs,q=>by
  rw[ZN,lL,lL,Mq λy j=>q y<|Zt _ j];rcases q x (ZD ..)with rfl|⟨n,rfl⟩
  .congr 1
  .congr 1
def Mr(hi:h[i]?=V (.lst xs))(q:∀x∈xs,Pn x):X1 .af (.ref i) h=.ok (.bl (!xs.any nB)) h:=by unfold X1 mY;rw[D7 hi q,show toD h 6 .af=V .none from rfl];dsimp only;rw[if_pos #[Mp q,rfl],Mq q]
end
end
section
seal L4.run L4.WS L4.WR
section
variable{R:Nat}{p d:Int}
theorem bq0:(qe R p d).lookup ("row":Str)=V (.ref R):=02
theorem bq1:(qe R p d).lookup ("place":Str)=V (.int p):=02
theorem D8:(qe R p d).lookup ("turn":Str)=V (.int d):=02
theorem bq3:(qe R p d).lookup ("kept":Str)=Zg:=02
theorem Ms:([("lines",.ref l)]:Wo).lookup ("lines":Str)=V (.ref l):=02
theorem kq1:([("lines",.ref l)]:Wo).lookup ("kept":Str)=Zg:=02
end
section
variable{rs:Tx}{a m:Nat}{o:Wg}{unit:Int}
def Hw.line(W:Hw unit rs a o m)(f:Fx (JA rs a o) a (tO rs a o) (bO o) e)(no:∀t,1<=t->t<=cP rs a->t<gJ rs a o t):tO rs a o+cP rs a<e:=by
 have t:=f.t;by_cases c:e-tO rs a o<=cP rs a
 .have h:=no _ 05 c;have d:=J60 W.w (show 1<=e-tO rs a o by lia) c W.dg;rw[show tO rs a o+(e-tO rs a o)=e by lia]at d;have q:=f.eq;unfold gJ at h;lia
 .lia
end
section
variable{k:Nat}{h:IH}{S lo bA R a m Dt:Nat}{ys:Tu}{rs:Tx}{c unit:Int}
def Jq8(W:Hw unit rs a (ob rs a) m)(no:∀t,1<=t->t<=cP rs a->t<gJ rs a (ob rs a) t)(L:h[bA]?=V (.ins "Broken"<|qe R (pre rs a<|ob rs a).length<|oG rs (JA rs a<|ob rs a) (pre rs a<|ob rs a).length))(I:h[R]?=V (.lst<|(JA rs a<|ob rs a).map aB))(H:h[S]?=V (.lst ys))(w:cL h lo ys rs)(D:Dr c unit rs)(cq:rs.length<=12)(six:∀r∈rs,r.2.length<=6)(d:bX h Dt rs)(Z:h[1]?=V (.tab "Bench.__init__"))(t1:h[0]?=V (.tab "Order.pick")):WR (CG (k+8) [.ref bA,.ref S,.ref Dt] h) λv _=>v=.bl Zj:=by
 have F:=L1 W.w;let#[e,ee,fx]:=Jvi (kind:=0) (Jse W.w) F six;have ln:=W.line fx no;have kj:=W.kj;have yd:=W.yd;have ha:=W.w.ha;have lP:(pre rs a<|ob rs a).length<(JA rs a<|ob rs a).length:=by rw[Xj,Z7];show ZS _
 have Y:(JA rs a<|ob rs a).getD (pre rs a<|ob rs a).length cd=cm (tO rs a<|ob rs a) a (Jj rs a) (tO rs a (ob rs a)-(Jj rs a).ag+((0:Nat):Int)*(Jj rs a).gap):=by rw[Xj,Zq,ZU<|Zl _,uh];rfl
 have z0:((0:Nat):Int)*(Jj rs a).gap=0:=yU _;have du:oG rs (JA rs a<|ob rs a) (pre rs a<|ob rs a).length=tO rs a (ob rs a)-(Jj rs a).ag+((0:Nat):Int)*(Jj rs a).gap+(Jj rs a).bK:=by unfold oG xS;rw[Y];rfl
 have sp:cP rs a=(Jj rs a).bK-(Jj rs a).ag:=rfl;have lt:oG rs (JA rs a<|ob rs a) (pre rs a<|ob rs a).length<e:=05;have at_:=Xy lP;rw[Y]at at_;let#[q,ey,_]:=w.get<|Zd ha;have ay:a7 ys (a:Int)=V (g9 (rs.getD a rd) q):=JE<|by rw[Qp ha];show ey
 generalize JA rs a (ob rs a)=cs at *;generalize (pre rs a<|ob rs a).length=n at *;let#[_,h1,e1,rfl,B]:=(Mg (k:=k+4) H w F I<|Zb (Z3 kj)<|Zk _ 936).eq;have e2:=Js6 (k:=k+6) (B.get H) (w.kp B.kp) D.u1 D.u2 D.f cq (B.get I) yd;let#[_,E,e3,rfl,x3]:=(Mg (k:=k+4) (B.get H) (w.kp B.kp) F (B.get I)<|Zb (Z3 kj)<|Zk _ 936).eq;have j:=B.trans x3;have G:=j.get L;have u:=j.get I;have P:=j.get H;rw[Jjq];calc aq<|ae<|aj<|Jf (au rfl L bq0)<|ae<|aj<|Jf (au rfl L bq1)<|ae ?_;calc aL (iS (bF<|bh<|Jx (ar rfl rfl) e1)<|bF<|bh<|Jx (ar rfl rfl) e2)<|aE<|ae ?_;calc aL (iS (bF<|bh<|Jx (ar rfl rfl) e3)<|iS (dq (km (dh rfl u) rfl)<|decide_eq_false<|by rw[Zm];lia)<|iS (bF<|bh<|Jx (ak rfl)<|D3 (k:=k+6) (n:Int))<|bF<|bh<|Jx (ak<|au rfl G D8)<|D3 (k:=k+6) _)<|aE<|ae ?_;calc aL (iS (bF<|br<|CZ rfl rfl (dh rfl u) (iL _) (by rw[Zm];show lZ.mpr 06))<|br<|(aG (au rfl G D8)<|aN (ai (aT rfl rfl u at_) rfl JI)<|ai (aT rfl (ai (aT rfl rfl u at_) rfl JU) P ay) rfl Xb).trans<|by rw[du];show Ay)<|aE ?_;obtain⟨_,J,e5,rfl,Q,o5⟩:∃v M,Yc (k+7) [.ref E.length,.ref Dt] (E++[.ins "ByRank" []])=.ok v M/\v=.af/\Ex E M/\d4 M 0 E.length rs:=(Jtk (k:=k+3) (d.kp j.kp) cq six).eq;have U:Ex J (J++[IX.lst<|cs.map aB]):=.one _ _;have C:=j.trans<|Q.trans U;let#[_,X,e7,bB,rfl,_,g7,x7]:=(J5a (k:=k) (R:=J.length) #[o5.kp U.kp,Jo,λc hc=>(F.ok c hc).at_,six,C.get t1,Zb (Z3 kj)<|Zk _ 136] (C.get Z) F kj).eq;have le:=J0p (k:=k+6) (p:=n) g7;rw[ee]at le;have mk:Q0 "ByRank" (Yc<|k+7) [] (Jb 'c' Je) [V<|.ref bA,V<|.ref S,V<|.ref Dt,V<|.ref R,V<|.int (n:Int)] E=.ok (.ref E.length) J:=by calc Ju ?_;rw[YT];show Jf (ak rfl)<|Jf e5 #[rfl,rfl,rfl]
 have O:∀x y:Int,fE (.int x) (.int y) X=.ok (.bl<|decide (y<x)) X:=λ_ _=>rfl
 show ax<|Jf ((aG (Jx (ar (Jx (ar mk<|C0 rfl (Q.get u)) e7) rfl) le)<|au rfl ((C.trans x7).get L) D8).trans<|O _ _)<|congrArg IV.bl<|decide_eq_true lt
def J50{c:Str}(e:h[i]?=V (.ins c fs)):gp (.ref i) h=V (.ins c):=by simp[gp,e]
theorem j8{a:E1}{c:Str}(j:a U h=.ok (.ref i) h1)(g:h1[i]?=V (.ins c fs))(t:Qz ns (.ins c)=V b):bP (Qz ns) a U h=.ok (.bl b) h1:=eX j<|by rw[J50 g];show t
theorem J72:Qz ["Broken"] (.ins "Broken")=V Zj:=02
theorem J73:Qz ["Kept"] (.ins "Kept")=V Zj:=02
theorem J4x:Qz ["Broken"] (.ins "Kept")=V Zn:=02
theorem J4y:Qz ["Kept"] (.ins "Broken")=V Zn:=02
theorem J4z:Qz ["Verdict","Kept","Broken"] (.ins "Broken")=V Zj:=02
theorem J40:Qz ["Verdict","Kept","Broken"] (.ins "Kept")=V Zj:=02
theorem J7k:Cn (k+1) [v] h=.ok (.bl Zj) h:=Ju<|by rw[Jlq];show aq<|ax<|Jf rfl #[rfl,rfl]
theorem J6s:Cp (k+1) [v] h=.ok (.bl Zn) h:=Ju<|by rw[Jhl];show aq<|ax<|Jf rfl #[rfl,rfl]
end
def t9(rs:Tx)(v:IV):IV:=match v with|.int n=>dR rs n.toNat|_=>.af
def J4g(rs)(n:Nat):(aX 0 (n:Int)).map (t9 rs)=(ZM n).map (dR rs):=by
 refine mI (by rw[Zm,JH,Zm,nJ];rfl) λi p1 j=>?_
 rw[ZO,Qw,ZO,rJ];change dR rs ((0:Int)+(i:Int)).toNat=_;rw[show((0:Int)+(i:Int)).toNat=i by show nE _ _]
def Jv2(ns:To)(hl:ns.length<=63):∃h',Yd 16 [.cG<|ns.map IV.int] ([.tab "Order.pick",.tab "Bench.__init__",.tab "longest_hold"]:IH)=.ok (.bl Zj) h':=by
 suffices h:WR (Yd 16 [.cG<|ns.map IV.int] ([.tab "Order.pick",.tab "Bench.__init__",.tab "longest_hold"]:IH)) λv _=>v=.bl Zj by let#[v,h',e,rfl]:=h.eq;show#[h',e]
 have t0:([.tab "Order.pick",.tab "Bench.__init__",.tab "longest_hold"]:IH)[1]?=V (.tab "Bench.__init__"):=rfl;have t1:([.tab "Order.pick",.tab "Bench.__init__",.tab "longest_hold"]:IH)[0]?=V (.tab "Order.pick"):=rfl;have t2:([.tab "Order.pick",.tab "Bench.__init__",.tab "longest_hold"]:IH)[2]?=V (.tab "longest_hold"):=rfl;generalize ([.tab "Order.pick",.tab "Bench.__init__",.tab "longest_hold"]:IH)=h at t0 t1 t2 ⊢;rw[J3k];calc aq<|ae<|aj<|(Yb ..).mpr<|Jf (ar rfl rfl)<|WR.mono (J1o (k:=11) ns) ?_;rintro _ h1 ⟨xb,S,lo,ys,B,c,R,rfl,_,gS,w,D,cq,sm⟩;have G:=D.gd cq<|sm.imp 05 id;have wl:=w.len;have six:∀r∈B,r.2.length<=6:=λr P=>(G.f r P).ok.cq
 have F:DF R B:=#[λa ha=>Jpj D cq sm ha (D5 B a).2,cq,six,λr P b hb'=>((D.f r P).ok.each b hb').1,λr P=>by have:=G.gl _<|Z9.mpr #[r,P,rfl];show#[this.1,this.2,(D.f r P).t1]];let#[J,ev,vs,gv,wA,k2]:=Jxj (k:=10) (e:=Ja 1) (U:=[V<|.cG<|ns.map IV.int,V<|.ref S,Zg,Zg,Zg]) rfl G gS w;calc ae<|aj<|(YT ..).mpr<|Jf (ak ev)<|WR.mono (J62 (k:=12) gv wA G) ?_;rintro _ H ⟨rfl,x3,d3⟩;calc#[rfl,?_];generalize J.length=Dt at d3;have I:Ex h1 H:=(xQ k2).trans x3;have O:=I.get gS;have w3:=w.kp I.kp;have xt:=xb.trans I;have Z:=J4;have YY:=@D2 H H (c4 Qd<|Jb (aW (aO aS)<|Jb 'b' Je) Je) (KH 15) [1] [V<|.cG<|ns.map IV.int,V<|.ref S,V<|.ref Dt,Zg,Zg] (aX 0 (B.length:Int)) (λ_=>True) (t9 B) (by
   rw[Vz];calc Jf (ak<|dh rfl O) ?_;rw[Xs,wl];show#[05,rfl,rfl,rfl]) (by rw[JH];show Zb (Zk _ 999988)<|Zb (Zc (Zc cq 1) 999988) Z) (λ_ _=>trivial) (by
   intro x M h4 z;let#[n,hn,rfl]:=ZX.mp M;rw[JH]at hn;rw[Qw,show(0:Int)+(n:Int)=n by show mK _ _];calc(Yb ..).mpr (Jf (ar rfl rfl)<|WR.mono (F.law (k:=12) (show n<B.length by show hn) (z _ _ O)<|w3.kp z) ?_);rintro _ h5 ⟨rfl,_,x5⟩;show#[by change _=dR B (n:Int).toNat;rw[show(n:Int).toNat=n by rfl],x5])
 rw[J4g]at YY;let#[g,eY]:=YY;calc ae<|aj<|Jf eY ?_;clear eY;have Y:Ex H (H++IX.lst ((ZM B.length).map<|dR B)::g):=.cons _ _ _;have g4:(H++IX.lst ((ZM B.length).map<|dR B)::g)[H.length]?=V (.lst<|(ZM B.length).map<|dR B):=J1;generalize H.length=L at g4 ⊢;generalize H++IX.lst ((ZM B.length).map<|dR B)::g=h4 at Y g4 ⊢;have xt4:=xt.trans Y;calc ae<|aj<|(Yb ..).mpr<|Jf (ak rfl)<|WR.mono (Jv0 (k:=7) F (d3.kp Y.kp)<|xt4.get t2) ?_;rintro v h5 ⟨j,x5⟩;have g5:=x5.get g4;have E:=Y.trans x5;have gS5:=E.get O;have w5:=w3.kp E.kp;have d5:=d3.kp E.kp;have X:=xt.trans E;cases j with
 |kept al C gl=>
  have q:∀x∈(ZM B.length).map (dR B),Pn x:=λx M=>by let#[n,hn,rfl]:=Z9.mp M;show .inr<|al n<|hU.mp hn
  have an:((ZM B.length).map<|dR B).any nB=Zn:=by rw[yy];intro x M;let#[n,hn,rfl]:=Z9.mp M;let#[z,e]:=al n<|hU.mp hn;rw[e];show Zx
  have Q:=Mr g5 q;rw[an]at Q;calc ae<|aL (bF<|bh<|j8 rfl C J40)<|aE<|ae<|jq (br<|(aG rfl rfl).trans Q)<|ae<|aL (iS (bF<|bh<|j8 rfl C J73)<|iS (bh<|j8 rfl C J4x)<|br<|(aG (dO rfl C kq1 (Jli _) rfl J7k) rfl).trans rfl)<|aE<|ax ?_;show Jf (X8 (eX (au rfl C Ms)<|by rw[YO gl];rfl)<|(aG (au rfl C Ms) rfl).trans<|J3e gl g5 q) rfl
 |lD ha no e C gR=>
  let#[m,W]:=F.w _ ha;have q:∀x∈(ZM B.length).map (dR B),Pn x:=λx M=>by
   let#[n,_,rfl]:=Z9.mp M;unfold dR;split
   .rename_i u;rcases u.choose_spec with⟨z,y,_⟩|⟨y,_⟩
    .show .inr #[z,y]
    .show .inl y
   .show .inl rfl
  have an:((ZM B.length).map<|dR B).any nB=Zj:=mH.mpr #[_,List.mem_map_of_mem<|hU.mpr ha,by rw[e];rfl];have Q:=Mr g5 q;rw[an]at Q;calc ae<|aL (bF<|bh<|j8 rfl C J4z)<|aE<|ae<|aL (br<|(aG rfl rfl).trans Q)<|aE<|ae<|aL (iS (bF<|bh<|j8 rfl C J72)<|iS (bh<|j8 rfl C J4y)<|br<|(aG (dO rfl C bq3 (Jhh _) rfl J6s) rfl).trans rfl)<|aE<|ax ?_;show(Yb ..).mpr<|Jf (iB rfl rfl rfl)<|Jq8 (k:=7) W no C gR gS5 w5 D cq six d5 (X.get t0)<|X.get t1
end
end LW
end
open PySem L2
theorem LW.walk{l:W.OpenLaw}{K:Params->W.Frag}(hn:l.most=V 63)(j:d.params.defaults=[]) (m:∀(w:bL) (h:bc),YP w h->(K w.params).In h/\∀p∈ts,h.get? p=V (W.tabObj #[]))(C:∀w:bL,L4.Vs (K w.params) ["Order.pick","Bench.__init__","longest_hold"] ts=Zj) (F:∀(w:bL)(mg:Str->Tb)(fa:Z8)(h:bc),(K w.params).In h->h.Ns Z2 mg->mg d.name=V (.ref fa) ->∃fd:i6,(∀(s:Z1) (u:Zu),qK s fd #[[u],[]] [("_law_script",u)])/\∀base:bc,(K w.params).In base->base.Ns Z2 mg->L3.QH mg base->bM l.prog w (K w.params) mg base (L3.eB l.prog w) (LW.T.cl LW.wN) 64 fa fd ["_law_script"] (L3.XW (K w.params) "_law_script"<|LW.Yd 16)):W.WalkO q loose XP YP l.row.toRowW d [] (λf vs=>PySem.call f vs):=L4.W8 (n:=63) (k:=64) (x:="_law_script") (f:=LW.Yd 16) (qs:=["Order.pick","Bench.__init__","longest_hold"]) (ts:=ts) hn 01 j #[λ_=>rfl,01,01] m C F λns B=>LW.Jv2 ns B
open PySem PySem.W PyProof.Rows
structure PySem.W.Fast:Prop where (tw9155028075757268559 tw8299482403595520135 tw16585867576562240155 tw17252868283722749678 tw9467045631104377243 tw9272124012337549104 tw13848341278618523275 tw1745112554078867946 tw1302394647261561573 tw443936960252792861 tw13784956407789868742 tw9819191821117636460 tw7519187725634347706 tw175268599262564466 tw4433344286010300578 tw10291451149279329391 tw16579738861673131880 tw7249812797769671506 tw15512560441537333369 tw12154589411789473885 tw13012748861928966116 tw2121965883990520433 tw11243185888492167349 tw16604418636387387683 tw16537663068849020417 tw15791070497497905067 tw11951458463804073191 tw14158217932091372762 tw8242884635490827469 tw15244585813388190015 tw9497662605482206533 tw14396668831993931263 tw14498785527766327721 tw9333989535259930029 tw5637864693376676429 tw14656315472750127576 tw4369161849106491135 tw1315813991118914382 tw17694998396716167233 tw4627882994105139290 tw18425563964072903610 tw13783718403074470335 tw10616875024009203831 tw8486027904536060929 tw2085983185281577362 tw8554534720600825750 tw10686984754719350270 tw6027170713098004698 tw3099943545824272570 tw12561846347830425892 tw10654417607457104002 tw11448194403453674585 tw7916966353180711754 tw11277377101595414188 tw14726807986717939524 tw1322194667248297178 tw10676238020323981449 tw10672683406071634844 tw9971075428255034653 tw11126714167712224054 tw12867590916344479429 tw695703187783998574 tw8454193714966911389 tw8542155827284478062 tw15553297568585455508 tw15055741859571827516 tw7072230191024085500 tw15549141240822890006 tw11110445533909716971 tw4809719477348353429 tw14075354288379906610 tw11391746218417153079 tw3652672889008327770 tw11033445649749707768 tw12505929757651472301 tw14317229100551594118 tw2314823057108188057 tw9720209437121228508 tw14095988444181976701 tw14967202685813188341 tw13627396320242909404 tw9392041471920166448 tw16010564145681449389 tw14018755527661470002 tw7017678100969531472 tw11738813713544488179 tw13634327815224945671 tw1584519604890026831 tw13632310520164832704 tw11641916664453091148 tw229401015834017736 tw17800189520614066935 tw10658554948427265921 tw1926466394831632426 tw17468624688643979273 tw6948737251954077088 tw15131136821429491918 tw14729203734783217275 tw1035972764344322033 tw4418241715936659418 tw7527005007873187131 tw6988465276600385573 tw11082438114941261169 tw8222636165130997448 tw16807181030234493792 tw4030840949582167657 tw18121729231510290948 tw8809127472964978137 tw6898692924380119293 tw571170013001691298 tw16653629882310299690 tw9667855309290977565 tw15217540401432233727 tw956483857962922116 tw18404910035745145472 tw15525778973261076091 tw1014870870181317103 tw10947093135523865527 tw1936883145121268648 tw9107193169802679380 tw18312752677687680251 tw787184716500454869 tw6821805896830789826 tw13695404690737801915 tw13965569453215174913 tw17904428155840091731 tw13906207347729734840 tw16166106587727280875 tw5754844356228386313 tw11946618103575924967 tw14510292865206648567 tw15273740554608702596 tw14070037556699288809 tw5567860951218178446 tw2432311790832005379 tw5523676730883336690 tw3345909820409517018 tw16689241883480324672 tw4527617538855696983 tw517649346804727148 tw8592946393927103121 tw14511675582056139738 tw6295542377688517082 tw3193953864757574440 tw416743227733274611 tw2133751795992049582 tw9965089613066489633 tw13913834181375126005 tw5085695289112413449 tw7675377543010503597 tw2919030899921907312 tw11835206468065372223 tw16068221364934741781 tw16672121678389362778 tw16022148600852850187 tw10864702309843699157 tw1012821163141838151 tw1934520051418333540 tw4484552853219911631 tw10818909411589349069 tw12983952238751382047 tw8552662552904101487 tw9499056399629022234 tw14083120136068041334 tw13371139674406879388 tw14942056443821402887 tw2369909749126516577 tw16148586036878205179 tw3328649472626634321 tw2504339971775375855 tw13862726460984430060 tw1849337758458364860 tw14173753605548944433 tw16048207965936365775 tw10591528464321367850 tw14025985496092222586 tw13695187235509423339 tw2237661123652645167 tw1301182961624017961 tw8220268675858155892 tw15722564700273117732 tw16491040444004401295 tw9885719028665380811 tw13392221658368829776 tw11487752452747738569 tw10630810153909426374 tw4645291104172701548 tw10072534139396579197 tw11873173865320077781 tw17230616472258020851 tw12398432349924902988 tw6219561651351997478 tw2331199624041689337 tw6028275078124620378 tw1724772396891108090 tw5970092329670214392 tw13925263896104430940 tw7775544860393841521 tw5723429299292564900 tw7252066603050494196 tw4718501698174474907 tw16584169012650022437 tw6682319523910833006 tw4198552147139849790 tw4855391690850005155 tw9796951496609595057 tw18132605414201579427 tw6542445285799159785 tw18074050530927719446 tw1741142660291933265 tw9311461405519145458 tw18269810187133427215 tw8951629186547761853 tw260731350615035108 tw2842557422477128176 tw1867690153942837415 tw672269800087355056 tw13338691948516409477 tw14791403683073583165 tw15772088702041147962 tw6355032421619747840 tw7992310944104601913 tw8757413929813805387 tw2948487608090472177 tw4989217929323770231 tw14135452473912812303 tw8966346866167721860 tw720448680043397288 tw12177989137798485914 tw13798055095604437550 tw9964026145648238920 tw7460476162466064778 tw12415927494350263044 tw5665395896447998510 tw1994440493550127644 tw15274836689941621700 tw16809010916227455710 tw5960160598314704458 tw12433816726921735687 tw17488732479371360671 tw615580490026750379 tw2552482311685299090 tw15962652493274683906 tw17097791735425485176 tw10400159195214234655 tw13873505772581268863 tw16372071367192279790 tw13419919222248303777 tw9177142665407009524 tw9299226793095055852 tw16369305640011979506 tw12909651527042230884 tw13232830364497124882 tw6035489806180162869 tw10607769199974506326 tw15500387965182942416 tw9254380864438454416 tw269559820803788578 tw4433324485951809257 tw1413852130124378839 tw16584520334529082204 tw14034683128149031484 tw15390140175988677786 tw11831585402425271779 tw13790222704664604077 tw5230441527106306793 tw8451756929729601731 tw16570253675400934102 tw17807853027321795967 tw11809186735805212003 tw16648627274854294387 tw15568119374073995917 tw12668835618648884312 tw12150465195133615429 tw721609457883311145 tw7534972464933243488 tw14537672540203396722 tw4992253304700025070 tw7834804472671373656 tw11481898281233248323 tw13561714127191313235 tw13218975951745539640 tw11828714116215270264 tw11392660373832972470 tw14753566232438158018 tw734753865294370310 tw12397375013502768341 tw6264481105507227114 tw17069349927203770803 tw15723093986577547363 tw11354792500323853471 tw2378639926205667980 tw13219562658412638839 tw15901031202340423203 tw2622563496210124871 tw4115576368801038019 tw3876360074242251887 tw4088412899661204085 tw10207315066822482322 tw11545044949870225292 tw4315249837212105014 tw5383553764325180650 tw7753353425225006845 tw10089411035849794552 tw18223169783314310918 tw4776019833856888301 tw7840231372359681404 tw11945813788049706140 tw3347837894483094659 tw17035706770112630010 tw3804095477704692136 tw14324403834712655483 tw6768749671005408742 tw12067152231213998074 tw5659684166312855818 tw14843068619892827457 tw10810727587650185081 tw3309688931886370329 tw7716457747842159919 tw15101009316696350556 tw10404613075923587645 tw1711658088199290979 tw8740706998095454189 tw13206862312941266767 tw7834574542900050673 tw9808914831942260104 tw17398694671981035406 tw13074179239878099698 tw17294535906214416849 tw17356830883677540262 tw10257371185526111656 tw1721297840915041109 tw3506327700401157121 tw7483370644830425689 tw4911779075872469862 tw14238536148375920747 tw1694819359112120046 tw7712824723678880909 tw1106529866979576897 tw13423543573196179482 tw17934629838550079629 tw1400742234647449776 tw4865773496023604219 tw11067042982321512925 tw7110291654121213 tw13410258502235968548 tw16782063936716558240 tw2934063261248904177 tw17141278087407475011 tw9262871024558270514 tw10878088301631919951 tw12526413113943998981 tw7383347712378676174 tw7303808118018968157 tw1380467115518223191 tw12801146797692407234 tw6854587789854449216 tw3319150985200529045 tw9328055121048326110 tw11392204580681013963 tw13716268577408647935 tw16953910572878470639 tw10708385162445006806 tw7855293768677892740 tw10887489279934365784 tw13745675208444578705 tw5987138704900599949 tw13143304518356547048 tw8071217543291009396 tw5110522739602579484 tw17959880368800030515 tw17806455375170865640 tw14199914603457553973 tw7837958846627420204 tw5631910729240217906 tw16396194906204034134 tw723218009171330506 tw3610831632433039991 tw7426758447573365726 tw4764731157640095442 tw17771374385569286751 tw18218191159793124365 tw13015109030641833981 tw7567210824658714120 tw3036082079915979027 tw2276706654947714889 tw1123990197301978941 tw10186649218499853786 tw17550431712960904706 tw5819517971623777233 tw10108065594585296139 tw2525751817213643003 tw4965196399757173439 tw6349887253493408150 tw16216940432219129894 tw13577465794034949907 tw443106000632344896 tw3802462081446244154 tw9603384512521068252 tw2067482771216385136 tw1843547368211022039 tw10400982560784783072 tw15097981760634427443 tw10043273979111383139 tw11491245379373730445 tw864383757956214114 tw18157471760759094897 tw8862457401902825092 tw12396874485185126713 tw5353224397950851204 tw11826148832801357014 tw17420538927477468188 tw14106206671018545671 tw12035117418072106447 tw6280130518240289540 tw14345061438218611846 tw5722295060399660178 tw1969624240793502739 tw6793489563380809672 tw18172048606985062952 tw12597866737675465378 tw13958185282815279888 tw556081146122967535:True)
set_option maxRecDepth 100000 in
set_option maxHeartbeats 0 in
theorem PySem.Challenge.cw_dutyproof_k63_judged_by_ranks_holds : PySem.Challenge.rw_dutyproof_k63_judged_by_ranks.Holds := by
 w_on;o_law;k_head;(case hw=>w_witness2)
 k_fill
 calc LW.walk (l:=PySem.Challenge.rw_dutyproof_k63_judged_by_ranks) rfl rfl (λw h YY=>⟨W.km_in_of YY,W.km_tabs_of YY⟩) ?HC ?F;case HC=>show λw=>by kernel_rfl
 case F=>
  intro w mg fa h KX G hmg;refine' L4.last (T:=LW.T) (d:=LW.wN) ["Work","Bench","Order","ByRank","Verdict","Kept","Broken","Duty"] KX G hmg rfl ?p0 rfl rfl (L4.kO λ_=>rfl) ?p1 ?p2 ?p3 ?p4 ?q0 λhh=>L4.UG _ ?q1 ?q2 ?q3 ?q4 hh ?q5 ?q6 ?q8 ?q9 ?qa ?qb ?qc
  case p0=>kernel_rfl
  case p1=>k_is
  case p2=>k_is
  case p3=>k_is
  case p4=>k_is
  case q0=>repeat (first|show .nil|(apply L4.cC;(iterate 9 k_is);kernel_rfl))
  all_goals repeat (first|show .nil|(apply L4.coC KX G;k_is)|(apply L4.isC KX G;k_is;kernel_rfl)|(apply L4.frC KX G;k_is)|(apply L4.xiC KX G;k_is)|(apply L4.xpC;(iterate 7 k_is);(iterate 2 kernel_rfl))|(apply L4.bsC KX G;(iterate 6 k_is))|(apply L4.mtC;k_is;kernel_rfl)|(apply L4.bxC KX G;(iterate 4 k_is))|(apply L4.sxC;(iterate 9 k_is);(iterate 2 kernel_rfl))|apply L4.sfC|(first|(apply L4.fnC KX G;k_is)|(apply L4.meC;(iterate 3 k_is))|(apply L4.inC KX G;(iterate 5 k_is);kernel_rfl)|(apply L4.xmC KX G;(iterate 2 k_is);kernel_rfl;k_is));apply L4.Dk.mk';kernel_rfl;rfl;k_is;kernel_rfl;(iterate 2 k_is);(first|show .all (L4.kO λ_=>rfl)|show .all (L4.Bu λ_ _=>rfl)|show .all (L4.Bv λ_ _ _=>rfl)|show .all (L4.Bw λ_ _ _ _=>rfl)|show .all (L4.tD λ_ _ _ _ _ _ _=>rfl)|show λs us YY e=>by rw[jK]at e ⊢;revert us;show L4.tD λ_ _ _ _ _ _ _=>.of_defaults rfl (YY _ _<|by k_is) rfl rfl rfl))

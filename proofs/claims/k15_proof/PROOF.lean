import PyProof.Rows.All
import Wide.All
import OpenK.AllK
import Wide.FinOn
import PyProof.EqAt
import PyProof.EqKinds
import PyProof.NeKinds
import PyProof.TupleCall
import PyProof.StrLawsRepr
import KE.KIsAll
import KE.KItem
import KE.KDictOf
import KE.KBytesAny
import KE.KDictList
import Lean
import PySem.Challenge.RW_gapwork_k15_terms_amiss
set_option compiler.extract_closed false
set_option bootstrap.genMatcherCode false
set_option genInjectivity false
set_option genSizeOf false
local macro_rules|`(tactic|decide)=>`(tactic|decide +kernel)
local macro_rules|`(tactic|left)=>`(tactic|(show _=_;kernel_rfl))
local macro_rules|`(tactic|ac_rfl)=>`(tactic|exact⟨rfl,rfl,rfl,by decide,rfl,by decide,by decide⟩)
local macro_rules|`(())=>`(by omega)
open Lean in
def rP:Nat->Syntax->MacroM (TSyntax `rcasesPat)
 |0,_=>Macro.throwUnsupported
 |n+1,s=>match s with
  |`(($a,$b,*))=>do
   let x<-rP n a
   let y<-b.getElems.mapM fun z=>rP n z
   let x:=#[x]++y
   `(rcasesPat|⟨$[$x:rcasesPat],*⟩)
  |`(_)=>`(rcasesPat|_)
  |`($i:ident)=>`(rcasesPat|$i:ident)
  |_=>Macro.throwUnsupported
local macro_rules|`(tactic|have($a,$b,*):=$e)=>do
 let x<-rP 9 a
 let y<-b.getElems.mapM fun z=>rP 9 z
 let x:=#[x]++y
 `(tactic|obtain⟨$[$x:rcasesPat],*⟩:=$e)
theorem ξ02{A B G:Prop}:(A/\B)->(A->B->G)->G|⟨a,b⟩,z=>z a b
theorem ξ03{A B C G:Prop}:(A/\B/\C)->(A->B->C->G)->G|⟨a,b,c⟩,z=>z a b c
theorem ξ04{A B C D G:Prop}:(A/\B/\C/\D)->(A->B->C->D->G)->G|⟨a,b,c,d⟩,z=>z a b c d
theorem ξ11{A:α->Prop}{G:Prop}:(∃a,A a)->(∀a,A a->G)->G|⟨a,b⟩,z=>z a b
theorem ξ12{A B:α->Prop}{G:Prop}:(∃a,A a/\B a)->(∀a,A a->B a->G)->G|⟨a,b,c⟩,z=>z a b c
theorem ξ13{A B C:α->Prop}{G:Prop}:(∃a,A a/\B a/\C a)->(∀a,A a->B a->C a->G)->G|⟨a,b,c,d⟩,z=>z a b c d
theorem ξ14{A B C D:α->Prop}{G:Prop}:(∃a,A a/\B a/\C a/\D a)->(∀a,A a->B a->C a->D a->G)->G|⟨a,b,c,d,e⟩,z=>z a b c d e
theorem ξ21{A:α->β->Prop}{G:Prop}:(∃a b,A a b)->(∀a b,A a b->G)->G|⟨a,b,c⟩,z=>z a b c
theorem ξ22{A B:α->β->Prop}{G:Prop}:(∃a b,A a b/\B a b)->(∀a b,A a b->B a b->G)->G|⟨a,b,c,d⟩,z=>z a b c d
theorem ξ23{A B C:α->β->Prop}{G:Prop}:(∃a b,A a b/\B a b/\C a b)->(∀a b,A a b->B a b->C a b->G)->G|⟨a,b,c,d,e⟩,z=>z a b c d e
theorem ξ24{A B C D:α->β->Prop}{G:Prop}:(∃a b,A a b/\B a b/\C a b/\D a b)->(∀a b,A a b->B a b->C a b->D a b->G)->G|⟨a,b,c,d,e,f⟩,z=>z a b c d e f
theorem ξ31{A:α->β->γ->Prop}{G:Prop}:(∃a b c,A a b c)->(∀a b c,A a b c->G)->G|⟨a,b,c,d⟩,z=>z a b c d
theorem ξ32{A B:α->β->γ->Prop}{G:Prop}:(∃a b c,A a b c/\B a b c)->(∀a b c,A a b c->B a b c->G)->G|⟨a,b,c,d,e⟩,z=>z a b c d e
theorem ξ33{A B C:α->β->γ->Prop}{G:Prop}:(∃a b c,A a b c/\B a b c/\C a b c)->(∀a b c,A a b c->B a b c->C a b c->G)->G|⟨a,b,c,d,e,f⟩,z=>z a b c d e f
theorem ξ34{A B C D:α->β->γ->Prop}{G:Prop}:(∃a b c,A a b c/\B a b c/\C a b c/\D a b c)->(∀a b c,A a b c->B a b c->C a b c->D a b c->G)->G|⟨a,b,c,d,e,f,g⟩,z=>z a b c d e f g
open Lean in
local macro_rules|`(tactic|obtain⟨$p,*⟩:=$h:term)=>do
  let p:Array (TSyntax ``Parser.Tactic.rcasesPatLo):=p
  let n:=p.size
  if n<2 then Macro.throwUnsupported
  let q<-p.mapM λx=>do
   let y<-`(rcasesPat|($x))
   let y:=if x.raw[0][0].getNumArgs==1 then ⟨x.raw[0][0][0]⟩ else y
   `(rintroPat|$y:rcasesPat)
  let i:Ident:=⟨h⟩
  let d:=h.raw.isIdent
  let c<-if d then `(tactic|try clear $i) else `(tactic|skip)
  let mut r:Array (TSyntax ``Parser.Tactic.tacticSeq):=#[]
  for k in [3,2,1,0] do
   for m in [4,3,2,1] do
    if k+m<=n&&k+m>1 then
     let j:=k+m-1
     let a:=q.extract 0 j
     let b:=p.extract j n
     let e:=mkIdent (.mkSimple s!"ξ{k}{m}")
     r:=r.push (<-if b.size==1 then `(tacticSeq|(with_reducible refine $e $h ?_);$c;rintro $a* $(q[j]!)) else `(tacticSeq|(with_reducible refine $e $h ?_);$c;rintro $a* o;obtain⟨$b,*⟩:=o))
  if !(d&&i.getId.hasMacroScopes&&i.getId.eraseMacroScopes==`q) then
   for e in [<-`(Exists _),<-`(And _ _)] do
    r:=r.push (<-`(tacticSeq|have q : ($e) := $h;$c;obtain⟨$p,*⟩:=q))
  `(tactic|first $[|$r]*|rcases $h:term with⟨$p,*⟩)
open Lean in
local macro_rules|`(tactic|rintro $p*)=>do
  for i in [:p.size] do
   if let `(rintroPat|⟨$x,*⟩):=p[i]! then
    if x.getElems.size>1 then
     let a:=p.extract 0 i
     let b:=p.extract (i+1) p.size
     let m<-`(tactic|(intro o;obtain⟨$x,*⟩:=o))
     let m<-if i==0 then pure m else `(tactic|(rintro $a*;$m))
     return<-if b.size==0 then pure m else `(tactic|($m;rintro $b*))
  Macro.throwUnsupported
local macro_rules|`(#[$x,*])=>if x.elemsAndSeps.size<2||x.elemsAndSeps.size%2==0 then Lean.Macro.throwUnsupported else `(⟨$x,*⟩)
local macro_rules|`(tactic|omega)=>`(tactic|first|lia|omega +splitDisjunctions)
local macro_rules|`(tactic|let $d:letDecl)=>`(tactic|have $d:letDecl)
local macro_rules|`(let $d:letDecl;$b)=>`(have $d:letDecl;$b)
local macro_rules|`(command|def $i:declId $s:optDeclSig:=$v)=>if s.raw[1].getNumArgs==0 then Lean.Macro.throwUnsupported else `(command|theorem $i $(⟨.node .none `Lean.Parser.Command.declSig (#[s.raw[0]].push s.raw[1][0])⟩):declSig:=$v)
set_option Elab.async false
set_option linter.all false
set_option maxRecDepth 100000
local macro_rules|`(tactic|rfl')=>`(tactic|with_unfolding_all rfl)
open Lean in
local macro_rules (kind:=Lean.Parser.Command.declaration)|s=>if (s[0][4].find? (·.isToken "meta")).isSome&&(s[1][1][0].getId.toString.splitOn "_aux").length==1 then return s.setArg 0 (s[0].setArg 4 (.node .none `null #[.node .none `Lean.Parser.Command.noncomputable #[.atom .none "noncomputable"]])) else Macro.throwUnsupported
local macro_rules|`(⋯)=>`(fun _ z=>nomatch z)
local macro_rules|`(tactic|calc $x:term)=>`(tactic|refine $x)
open Option renaming some->Yb,none->Yc
open Bool renaming true->Yd,false->Ye
local macro_rules|`($f:ident $a)=>if f.getId==`Yi then `(List $a) else Lean.Macro.throwUnsupported
open PySem renaming Str->Yg,Addr->Yh
local macro_rules|`($x⁻¹)=>`(($x).heap.objs.size)
open Array renaming length_toList->Qx,getElem?_setIfInBounds_self_of_lt->RP,mem_toList_iff->Te,toList_append->Tz,getElem?_eq_some_iff->Uh,getElem?_toList->Vk,append_assoc->VU,find?_toList->VW
open Bool renaming false_ne_true->OP,and_eq_true->Pd,or_eq_true->QN,false_eq_true->Q7,eq_iff_iff->Sb,or_true->TL,and_false->Vq
open False renaming elim->P7
open Int renaming toNat_natCast->Qa,zero_add->SO,emod_lt_of_pos->Ue,emod_nonneg->Vh,ediv_one->V9
open LawfulBEq renaming eq_of_beq->QF
open List renaming getElem?_eq_some_iff->bH,length_map->bM,take_succ_eq_append_getElem->i3,map_append->i4,length_append->mu,getElem?_eq_getElem->my,mem_append_right->rj,mem_singleton->tF,getElem?_map->vv,mem_of_getElem?->xn,length_take->x9,mem_append->IF,size_toArray->I0,mem_cons->L0,replicate->L1,take_length->OO,map_cons->OQ,length_cons->OT,append_nil->O0,mem_map->O2,not_mem_nil->O3,mem_append_left->O4,drop_eq_getElem_cons->O5,mem_map_of_mem->O6,zipWith->O9,drop_length->Pa,lookup_cons->Pe,getElem?_append_right->Ph,all_eq_true->Pj,flatMap_append->Pk,mem_of_mem_take->Pn,getElem?_of_mem->Po,getElem_mem->Pu,getElem?_append_left->Px,take_of_length_le->Py,map_map->Pz,append_assoc->PC,find?_cons->PD,dropLast_eq_take->PF,mem_cons_of_mem->PK,length_zipWith->PV,getD_eq_getElem?_getD->PX,length_drop->P6,nodup_append->Qc,mem_cons_self->Qe,mem_of_find?_eq_some->Qg,replicate_succ->Qi,length_replicate->Qk,map_nil->Qn,flatMap_cons->Qt,filterMap_cons->Qw,nodup_cons->Qz,mem_flatMap->QD,lookup->QE,length_eq_zero_iff->QH,range->QJ,of_mem_zip->QL,nil_append->QM,length_reverse->QT,map_take->QY,mem_range->Q4,contains_cons->Q9,find?_eq_none->Ra,take_append_drop->Rb,eq_nil_or_concat->Rc,reverse_cons->Rm,flatten_cons->Rn,mem_of_mem_drop->Rq,getElem?_replicate->Ru,take_zero->Rv,getElem?_set_self->Rx,drop_of_length_le->RC,zip_cons_cons->RE,length_nil->RJ,getElem?_zipWith->RM,take_sublist->RO,getElem?_set_ne->RQ,dropLast_subset->RW,cons_append->R0,getElem?_eq_none_iff->R3,forIn_cons->Sd,mem_replicate->Sk,getElem?_take->Sl,length->Sq,pairwise_singleton->Su,getElem?_cons_zero->Sw,any_eq_false->SD,forIn_nil->SK,length_range->SQ,length_singleton->SW,getElem?_eq_none->SX,length_filter_le->S1,concat_eq_append->S2,getElem_map->S5,any_cons->S8,length_dropLast->Tf,dropLast_concat->Tj,range_succ->Tq,isPerm_iff->Tu,mem_filterMap->TX,foldl->Ua,findSome?_eq_none_iff->Ui,getElem?_drop->Uj,map_dropLast->Ux,all_cons->UE,flatMap_nil->US,zipWith_cons_cons->Vc,mem_filter->Vd,length_set->Ve,getElem_reverse->Vt,length_take_le'->Vv,nodup_nil->Vw,getElem_toArray->Vz,reverse_append->VI,zipWith_append->VJ,take_succ_cons->VM,map_drop->VR,filterMap_map->VZ,pairwise_cons->V2,append_of_mem->V3,Sublist->Wg,getElem_drop->Wh,zipIdx_cons->Ws,any_eq_true->Wt,map_reverse->Wu
open List.Sublist renaming map->R1
open Nat renaming le_refl->i5,lt_of_lt_of_le->OJ,zero_le->ON,le_trans->OX,ne_of_lt->OZ,le_of_lt->O7,le_succ->Pc,lt_irrefl->PN,max_eq_left->QO,lt_succ_self->QZ,succ_le_succ->Q0,le_add_right->Q2,le_of_ble_eq_true->Rf,min_eq_left->Ri,mul_le_mul_right->Ro,min_self->RB,ne_of_gt->Sz,lt_of_le_of_lt->Ub,lt_succ_of_lt->Ut,le_succ_of_le->Uw,le_max_right->UQ,min_eq_right->UT,le_of_eq->U0,succ_mul->U8,sub_self->Va,le_max_left->Vf,min_le_left->Vg,add_le_add_left->VF,mul_le_mul_left->VL,le_total->Wa,max_le->WG,not_lt->WH
open Ne renaming symm->Rj
open Option renaming map_eq_some_iff->ri,bind_some->Q3,map_eq_none_iff->RD,map_some->To,isSome_map->Us,bind_eq_some_iff->UW,map_map->Vx,getD_none->Wl
open Option.some renaming inj->OL,injEq->SM
open Prod.mk renaming inj->Uv
open PyProof.Rows renaming envOfC->OV,slot_tuple_getitem->Pb,boot_tuple->Pf,boot_isinstance->P4,boot_int->P8,callWith_type1->QU,boot_list->QW,boot_repr->RH,entry_tuple_getitem->Tv,AllBare->TH,assignInOrder_cons->TU,args_tuple_getitem->T8,boot_sorted->UI,Subscript_->U3,subscriptTail_builtinR->U4,boot_sum->Vl,IntsAre->VB,tupleItemsOf_->VP,subscriptTail->VQ,IsTup->WB
open PyProof.Rows.IsTup renaming new->UM
open PySem renaming wpAny_bind->cB,Value->eF,Shared->fy,sizeLine->lj,wpAny_pure->pC,Program->we,FuncData->EF,wpAny->OH,model->OM,World->OR,boot_len->OS,Around->OW,mainGlobals->OY,wpAny_mono->O1,foldedSetIterable->Pg,wpAny_newObj_type->Pr,wpAny_field->Pw,starEach->PB,sliceBounds->PU,wpAny_holding->PY,compareOp->P5,Scope->P9,wpAny_callSpecial?_slot->Qd,wpAny_standAt->Qf,mem_of_lookup->Qh,Env->Qp,sysModules->Qq,codeAny->Qs,wpAny_seqItems->Qv,letOwnedTupleGo->Qy,wpAny_Call_Name_kw->QA,wpAny_call_entry->QB,wpAny_loadPart_at->QG,strKind->QX,binaryOp->Q5,wpAny_setField_rec->Q8,wpAny_passesOwn->Rg,DictEntry->Rh,wpAny_truthy_bool->Rl,Builtin->Ry,call_meets->RA,rawInt->RK,IsPair->RL,sizeLine_eq->RS,NameKind->RT,excClassObj->RV,codeAny_mono->RY,valueAt->RZ,wpAny_isSubtype_exc->R6,attributeBase->R8,assignEach->Se,typeIs_int->Sf,tupleKind_room_in1->Sh,preSum->Sm,bootBuiltins->Sy,wpAny_pyIter_list->SA,Result->SE,getItem->SJ,wpAny_setField->SN,plainObj_wpAny_Assign_Attribute->SS,cLine->SV,swapsWith->S3,pyNext->S4,wpAny_isInstance->S6,wpAny_onRaise->S9,strLen_append->Tc,wpAny_updateSeq_pair->Tg,unbindBehindTheSuite->Th,wpAny_execs_nil->Tn,wpAny_ite_false->Tp,wpAny_loadPart'->Tt,wpAny_typeOf->TJ,backTo->TM,assign->TQ,wpAny_rule->TV,wpAny_loadPart->TY,wpAny_call->TZ,wpAny_newFunctionEnv_cells->T3,sliceRange->Uc,wpAny_binaryOp_repeat_ref->Ul,holding->Up,wpAny_sequenceKey->Uq,slot_list_getitem->Ur,behindInMarks->Uz,IsPart->UC,wpAny_getItem_list_slice->UD,wpAny_comprehension_free->UG,wpAny_attempt->UH,wpAny_execs_cons->UL,noFill_tuple_add->UO,wpAny_Call_method0_late->UP,Within->UY,standAt->UZ,codeAny_loop->U9,IsZip->Vi,codeAny_call_function->Vj,bindName->Vm,wpAny_bindName->Vn,pyIter->Vo,subscripted->Vp,compTurn->Vr,wpAny_noted->Vs,tupleKind->VA,callerA->VC,noteFrame->VD,evalArgs_none->VE,assignInOrder->VN,seq_tuple_add->VO,isInstance->V0,BindsTo->V7,concat_meets->V8,wpAny_mkText->We,nsFind->Wi,cellsFrom->Wk,slicePick->Wm,seqSlot_of->Wq,seqItems?->Wr,Model->Wv,atKey->Ww,getAttr->WA,bindL->WC,bindC->WD,call->WE,field->WJ
open PySem.Around renaming under->U1,under_plainId->Vy
open PySem.Builtin.List renaming listTooLong->Rr
open PySem.Builtin.Slice renaming slicePlaces->P0,sliceApplied->Q6,sliceAdjust->R4,sliceFields->Uk
open PySem.Builtin.SmallTypes renaming nextOf->Pp,ownedTupleIsFree->Qm,ownedTupleHandOut->R5
open PySem.Builtin.Tuple renaming tupleExact->PR,tupleItemsOf->RU,tupleTooMany->Ud
open PySem.Calls renaming Name_function_global->TN,callWith_builtin->U7
open PySem.Code renaming quiet_builtin->V1,isFrame->V6
open PySem.EntryCells renaming newEntry->VH
open PySem.F renaming slot_tuple_iterator_next->Qu,slot_tuple_mul->QV,plainAttrs_list->Rw,slot_zip_next->RN,args_tuple_add_2->R9,args_tuple_mul_2->Sa,slot_int_rmul->Sg,args_tuple_iterator_next_1->Si,entry_tuple_add->Ss,entry_tuple_mul->Sv,entry_tuple_iterator_next->Sx,slot_tuple_add->SI,plain_sum_loop->S7,slot_dict_itemiterator_iter->Ti,slot_dict_getitem->Um,slot_list_extend->UJ,type_list_extend->UK,slot_tuple_rmul->UR,args_zip_next_1->UU,attr_ValueError->UX,entry_zip_next->Vb
open PySem.Heap renaming get?_push_of_some->mH,lt_size->OG,get?_push_size->OI,size_push->PL,get?_update_other->P1,get?_update_self->Ql,SameBut->Rk,get?_update_ne->R7,get?_none_of_le->Td,ExtBut->Vu,get?_push_at->Wc
open PySem.Heap.DictOf renaming new->Wz
open PySem.Heap.IsSliceOf renaming new->T9
open PySem.Heap.SameBut renaming update->VG
open PySem.Obj renaming mapFields->Rt,data_mapFields->Sj,isFreed_of_fields->SY,mapSeq->U6,cls_mapFields->Wb
open PySem.PassesOwn renaming never->O8
open PySem.PyData renaming keyHash->Ug
open PySem.SeqAt renaming EqAt->Qo
open PySem.SeqAt.EqAt renaming int_str->VS,str_int->VT
open PySem.Shared renaming heap->Wx
open PySem.Str renaming empty->OU,ofString->PM,length->U5
open PySem.Txt renaming slice->QC,mul->Uu,slice_le->V4
open PySem.Value renaming isStrOf->Uy
open PySem.W renaming Frag->bN,findIn->PJ,emptyDict->Qj,instObj->QI,keepIn->QK,mg_none_of->QS,hasDictIn->Rz,mg_of->RX,cellsFrom_some->SG,fnOf->SH,takerIn->SR,kitOne->Tr,OpenLaw->Tw,methodObj->Uo,lookIn->UA,codeIn->UB,plainGet->UN,callWith_K->VX,codeRec_of->VY,plainOver->V5,looks_findIn->Wd,handedIn->Wj,makesIn->Wy,kitAny->WK,WalkO->WL
open Sum.inr renaming inj->PZ
abbrev WM:Yi PySem.Str:=["_law_feed_here","_law_scene","_law_around","_law_room","_law_down","_law_form","_law_share","_law_x","_law_y","_law_one","_law_other_here","_law_some","_law_name","_law_many_here"]
abbrev WN:Yi PySem.Str:=["_law_feed_here","_law_room","_law_names_here","_law_kinds","_law_scene","_law_name","_law_tags","_law_told_here","_law_opens","_law_defs","_law_k","_law_params"]
abbrev WO:Yi PySem.Str:=["_law_feed_here","_law_scene","_law_around","_law_room","_law_down"]
abbrev WQ:Yi PySem.Str:=["_law_feed_here","_law_many_here"]
abbrev WR:Yi PySem.Str:=["_law_feed_here","_law_scene","_law_around","_law_share","_law_down","_law_name","_law_tags","_law_first","_law_arms","_law_t","_law_inner","_law_turn","_law_own"]
abbrev WS:Yi PySem.Str:=["_law_scope","_law_arms","_law_t","_law_names_here","_law_inner","_law_some","_law_told_here","_law_twice"]
abbrev WT:Yi PySem.Str:=["_law_feed_here","_law_many_here","_law_letters","_law_stem","_law_first","_law_at","_law_turn","_law_kept","_law_found","_law_k","_law_sign","_law_name"]
abbrev WU:Yi PySem.Str:=["_law_program","_law_scope","_law_fault","_law_f","_law_params","_law_term","_law_around","_law_x","_law_kind"]
abbrev WV:Yi PySem.Str:=["_law_scope","_law_term","_law_around","_law_fault","_law_some","_law_inner","_law_own"]
abbrev WW:Yi PySem.Str:=["_law_scope","_law_term","_law_around"]
abbrev WX:Yi PySem.Str:=["_law_feed_here","_law_term","_law_count","_law_words"]
abbrev WY:Yi PySem.Str:=["_law_script","_law_program","_law_words","_law_turn","_law_feed_here","_law_other_here","_law_change","_law_due_here"]
abbrev WZ:Yi PySem.Str:=["_law_t","_law_names_here","_law_inner"]
abbrev W0:Yi PySem.Str:=["_law_feed_here","_law_names_here","_law_found","_law_at","_law_k","_law_own","_law_j","_law_some"]
abbrev W3:Yi PySem.Str:=["_law_scope","_law_kinds","_law_name","_law_tags","_law_t","_law_inner","_law_kind","_law_fault"]
abbrev W4:Yi PySem.Str:=["_law_feed_here","_law_ahead","_law_opens"]
abbrev W5:Yi PySem.Str:=["_law_feed_here","_law_scene","_law_around","_law_share","_law_down"]
abbrev W6:Yi PySem.Str:=["_law_feed_here","_law_program","_law_words","_law_defs","_law_at","_law_f","_law_params","_law_term","_law_fresh"]
abbrev W7:Yi PySem.Str:=["_law_feed_here","_law_ahead","_law_opens","_law_form","_law_found","_law_turn"]
abbrev W8:Yi PySem.Str:=["_law_feed_here","_law_arms","_law_word","_law_form","_law_at","_law_t","_law_names_here","_law_inner"]
abbrev W9:Yi PySem.Str:=["_law_feed_here","_law_scene","_law_around","_law_form"]
abbrev Xa:Yi PySem.Str:=["_law_x","_law_feed_here","_law_told_here","_law_opens"]
abbrev Xb:Yi PySem.Str:=["_law_t","_law_names_here","_law_inner","_law_around"]
abbrev Xc:Yi PySem.Str:=["_law_one","_law_feed_here","_law_count","_law_words"]
abbrev Xd:Yi PySem.Str:=["_law_term"]
abbrev Xe:Yi PySem.Str:=["_law_feed_here","_law_term","_law_words","_law_word","_law_n","_law_form","_law_some"]
abbrev Xf:Yi PySem.Str:=["tag","name","inner"]
abbrev Xg:Yi PySem.Str:=["name","tags","tag","inner"]
abbrev Xh:Yi PySem.Str:=["params","term","told","waiting","names","here"]
abbrev Xi:Yi PySem.Str:=["_law_scope","_law_kind","_law_fixed"]
abbrev Xj:Yi PySem.Str:=["_law_program","_law_caught","_law_found","e","_law_sorts","_law_others"]
abbrev Xk:Yi PySem.Str:=["_law_i","_law_feed_here","_law_names_here","_law_k"]
abbrev Xl:Yi PySem.Str:=["program","kinds","defs","known","name","params","term","names","here"]
abbrev Xm:Yi PySem.Str:=["_law_t","_law_inner"]
abbrev Xn:Yi PySem.Str:=["tag","names","inner"]
abbrev Xo:Yi PySem.Str:=["_law_k","_law_names_here"]
abbrev Xp:Yi PySem.Str:=["_law_scope","_law_term","_law_around","_law_word","_law_there"]
abbrev Xq:Yi PySem.Str:=["arms","known","tag","names","inner","kind"]
abbrev Xr:Yi PySem.Str:=["_law_feed_here","_law_scene","_law_around"]
abbrev Xs:Yi PySem.Str:=["self","name"]
abbrev Xu:Yi PySem.Str:=["_law_term","_law_some"]
abbrev Xv:Yi PySem.Str:=["kinds","ahead","tags_ahead","name","tags","tag","inner"]
abbrev Xw:Yi PySem.Str:=["_law_feed_here","_law_term","_law_words"]
abbrev Xx:Yi PySem.Str:=["self","program"]
abbrev Xy:Yi PySem.Str:=["name","things","counts"]
abbrev Xz:Yi PySem.Str:=["_law_scope","_law_kind","_law_fixed","_law_leaf"]
abbrev XA:Yi PySem.Str:=["params","known","ahead","name","kind","core"]
abbrev XC:Yi PySem.Str:=["_law_j","_law_scene","_law_turn"]
abbrev XD:Yi PySem.Str:=["_law_arm","_law_one"]
abbrev XE:Yi PySem.Str:=["_law_feed_here","_law_program","_law_words"]
abbrev XF:Yi PySem.Str:=["others","inner","names"]
abbrev XG:Yi PySem.Str:=["_law_program"]
abbrev XH:Yi PySem.Str:=["_law_k","_law_feed_here","_law_letters"]
abbrev XI:Yi PySem.Str:=["_law_feed_here","_law_arms","_law_word"]
abbrev XJ:Yi PySem.Str:=["_law_feed_here","_law_names_here"]
abbrev XM:Yi PySem.Str:=["program","kinds","defs"]
abbrev XN:Yi PySem.Str:=["names","others","other"]
abbrev XO:Yi PySem.Str:=["_law_name","_law_tags"]
abbrev XQ:Yi PySem.Str:=["inner","ahead","kind","core"]
abbrev XR:Yi PySem.Str:=["term","names","known","form"]
abbrev XS:Yi PySem.Str:=["_law_feed_here","_law_room"]
abbrev XT:Yi PySem.Str:=["name","tags"]
abbrev XU:Yi PySem.Str:=["_law_x","_law_kind"]
abbrev XW:Yi PySem.Str:=["_law_scope","_law_kinds"]
abbrev XX:Yi PySem.Str:=["_law_t","_law_told_here"]
abbrev XY:Yi PySem.Str:=["n","ahead"]
abbrev XZ:Yi PySem.Str:=["_law_kind"]
abbrev X0:Yi PySem.Str:=["_law_scope","_law_arms"]
abbrev X3:Yi PySem.Str:=["_law_script","_law_k"]
abbrev X4:Yi PySem.Str:=["term","names","known"]
abbrev X5:Yi PySem.Str:=["program"]
abbrev X6:Yi PySem.Str:=["name","other"]
abbrev X7:Yi PySem.Str:=["param","kind"]
abbrev X8:Yi PySem.Str:=["names"]
namespace L2
open PySem PySem.Spec PyProof.Rows
abbrev Key:=Sum Int Yg
meta def tu:Key->eF->Bool
 |.inl k,v=>Value.isInt k v
 |.inr x,v=>Uy x v
meta def Mu(w:OR):Key->Int
 |.inl k=>hashInt k
 |.inr x=>hashStr w x
theorem ez :∀{k:Key}{v:eF},tu k v=Yd->(∃i t,k=Sum.inl i/\v=Value.int i t)\/(∃x t,k=Sum.inr x/\v=Value.str x t)
 |.inl i,v,h=>by
  let(t,e):=eF.isInt_shape (k:=i) (v:=v) h;calc .inl #[i,t,rfl,e]
 |.inr x,v,h=>by
  let(t,e):=eF.isStrOf_shape (x:=x) (v:=v) h;calc .inr #[x,t,rfl,e]
def Bu (i:Int)(t:Tok):tu (.inl i) (.int i t)=Yd:=by simp[tu,Value.isInt]
def Bv (x:Yg)(t:Tok):tu (.inr x) (.str x t)=Yd:=by simp[tu,Uy]
def IP (a b:Int):decide ((Sum.inl a:Key)=Sum.inl b)=(a == b):=by
 by_cases e:a=b
 .subst e;simp
 .have h:¬(Sum.inl a:Key)=Sum.inl b:=λq=>e (Sum.inl.inj q);rw[decide_eq_false h];calc(beq_eq_false_iff_ne.mpr e).symm
def IQ (a b:Yg):decide ((Sum.inr a:Key)=Sum.inr b)=decide (a=b):=by
 by_cases e:a=b
 .subst e;simp
 .have h:¬(Sum.inr a:Key)=Sum.inr b:=λq=>e (PZ q);rw[decide_eq_false h,decide_eq_false e]
def IS (a:Int)(b:Yg):decide ((Sum.inl a:Key)=Sum.inr b)=Ye:=decide_eq_false nofun
def IT (a:Yg)(b:Int):decide ((Sum.inr a:Key)=Sum.inl b)=Ye:=decide_eq_false nofun
meta def bg(prog:we)(w:OR):PySem.KeyKind prog w Key where
 is:=tu
 hash:=Mu w
 inj:=λv a b m g=>by
  rcases ez m with⟨i,t,rfl,rfl⟩|⟨x,t,rfl,rfl⟩
  .rcases ez g with⟨j,u,rfl,e⟩|⟨y,u,rfl,e⟩
   .injection e with e1 _;rw[e1]
   .exact nomatch e
  .rcases ez g with⟨j,u,rfl,e⟩|⟨y,u,rfl,e⟩
   .exact nomatch e
   .injection e with e1 _;rw[e1]
 byValue:=λk v h=>by
  rcases ez h with⟨i,t,rfl,rfl⟩|⟨x,t,rfl,rfl⟩<;>rfl
 pyHash:=λd h=>by
  rcases ez d with⟨i,t,rfl,rfl⟩|⟨x,t,rfl,rfl⟩
  .exact wpAny_pyHash_int h
  .exact wpAny_pyHash_str h
 eqBool:=λl d h=>by
  rcases ez l with⟨i,t,rfl,rfl⟩|⟨x,t,rfl,rfl⟩
  .rcases ez d with⟨j,u,rfl,rfl⟩|⟨y,u,rfl,rfl⟩
   .rw[IP]at h;exact wpAny_eqBool_int h
   .rw[IS]at h;exact VS i t y u _ _ _ _ h
  .rcases ez d with⟨j,u,rfl,rfl⟩|⟨y,u,rfl,rfl⟩
   .rw[IT]at h;exact VT x t j u _ _ _ _ h
   .rw[IQ]at h;exact wpAny_eqBool_str h
 «strs»:=λk x t v h=>by
  rcases ez h with⟨i,u,rfl,e⟩|⟨y,u,rfl,e⟩
  .exact nomatch e
  .injection e with e1 _;subst e1
   cases v<;>rfl
def yc (prog:we)(w:OR)(i:Int)(t:Tok):(bg prog w).is (.inl i) (.int i t)=Yd:=Bu i t
def yd (prog:we)(w:OR)(x:Yg)(t:Tok):(bg prog w).is (.inr x) (.str x t)=Yd:=Bv x t
set_option genInjectivity true in
inductive V where
 |eR|bl (b:Bool)|int (i:Int)|str (x:Yg)|byt (b:Array UInt8)|flt (b:UInt64)|ref (a:Yh)|ty (n:String)
 deriving DecidableEq
meta def RelV:V->eF->Prop
 |.eR,u=>u=Value.none
 |.bl b,u=>u=Value.bool b
 |.int i,u=>∃t,u=Value.int i t
 |.str x,u=>∃t,u=Value.str x t
 |.byt b,u=>∃t,u=Value.bytes b t
 |.flt b,u=>∃t,u=Value.float b t
 |.ref a,u=>u=Value.ref a
 |.ty n,u=>u=Value.type n
abbrev Vals:Yi V->List eF->Prop:=Paired RelV
def Vals.length (r:Vals xs us):xs.length=us.length:=Paired.length r
theorem Vals.get :∀{xs:Yi V}{us:List eF}{i:Nat}{x:V},Vals xs us->xs[i]?=Yb x->∃u,us[i]?=Yb u/\RelV x u
 |_,_,_,_,.nil,e=>by simp at e
 |_,_,0,_,.cons r _,e=>by simp at e;subst e;calc#[_,rfl,r]
 |_,_,i+1,x,.cons _ t,e=>by
  let(u,g,d):=Vals.get (i:=i) (x:=x) t (by simpa using e);calc#[u,by simpa using g,d]
theorem Vals.set (r:RelV x u):∀{xs:Yi V}{us:List eF}(i:Nat),Vals xs us->Vals (xs.set i x) (us.set i u)
 |_,_,_,.nil=>.nil
 |_,_,0,.cons _ t=>.cons r t
 |_,_,i+1,.cons q t=>.cons q (Vals.set r i t)
theorem Vals.append :∀{xs ys:Yi V}{us d:List eF},Vals xs us->Vals ys d->Vals (xs++ys) (us++d)
 |_,_,_,_,.nil,s=>s
 |_,_,_,_,.cons r t,s=>.cons r (Vals.append t s)
theorem Vals.take :∀{xs:Yi V}{us:List eF}(n:Nat),Vals xs us->Vals (xs.take n) (us.take n)
 |_,_,0,_=>.nil
 |_,_,_+1,.nil=>.nil
 |_,_,n+1,.cons r t=>.cons r (Vals.take n t)
theorem Vals.drop :∀{xs:Yi V}{us:List eF}(n:Nat),Vals xs us->Vals (xs.drop n) (us.drop n)
 |_,_,0,r=>r
 |_,_,_+1,.nil=>.nil
 |_,_,n+1,.cons _ t=>Vals.drop n t
def Vals.none_of :∀{xs:Yi V}{us:List eF}{i:Nat},Vals xs us->xs[i]?=Yc->us[i]?=Yc:=λ{xs us i} r e=>by
 let g:=r.length;let d:xs.length<=i:=R3.mp e;calc R3.mpr ()
meta def lV:Option V->Option eF->Prop
 |some v,Yb u=>RelV v u
 |none,Yc=>True
 |_,_=>False
meta def KV{d:Type}:Yi (d×V)->Yi (d×eF)->Prop:=Paired λ(p:d×V) (q:d×eF)=>p.1=q.1/\RelV p.2 q.2
meta def kV:Key->V
 |.inl i=>.int i
 |.inr x=>.str x
inductive HO where
 |Y (xs:Yi V)
 |J (xs:Yi V)
 |dK (kvs:Yi (Key×V))|dT (kvs:Yi (Yi Key×V))
 |set (S:Int->Bool) (n:Nat)
 |ins (C dx:Yh) (fs:Yi (Yg×V))
 |own (x:Yh)
 |xd (fs:Yi (Yg×V))
 |met (f x:Yh)
 |rng (lo hi:Int)
 |nX (o:Obj) (u:HO)
 |tbl (ps:Array eF)
 |ext (φ:Heap->Prop)
abbrev Hp:=Yh->Option HO
meta def upd(H:Hp)(a:Yh)(o:HO):Hp:=λb=>if b=a then Yb o else H b
def af :upd H a o a=Yb o:=by unfold upd;rw[if_pos rfl]
def ay (h:b≠a):upd H a o b=H b:=by unfold upd;rw[if_neg h]
def jB {H:Hp}(h:H a=Yb o)(h':H b=Yb u)(d:o≠u):a≠b:=by
 intro e;subst e;rw[h]at h';calc d (OL h')
def au {H:Hp}(h:H a=Yb o)(h':H b=Yc):a≠b:=by
 intro e;subst e;rw[h]at h';cases h'
section
variable (P:we) (w:OR)
meta def NC(h:Heap)(a:Yh):Prop:=∃o,h.get? a=Yb o/\o.dict=Yc
meta def eS(H:Hp)(h:Heap)(a:Yh):HO->Prop
 |.Y e=>e.length<=lj/\∃(d:List eF) (n:Nat),Vals e d/\h.get? a=Yb {cls:=.type "list",data:=.seq d.toArray n}
 |.J e=>e.length<=lj/\∃d:List eF,Vals e d/\WB h a d.toArray/\NC h a
 |.dK kvs=>kvs.length<=lj/\(a == Qq)=Ye/\∃j,KV kvs j/\h.DictOf (bg P w) a j
 |.dT kvs=>kvs.length<=lj/\(a == Qq)=Ye/\∃e:Yi (Yi Key×Yh×eF),
   Paired (λ(p:Yi Key×V) (q:Yi Key×Yh×eF)=>p.1=q.1/\H q.2.1=Yb (.J (p.1.map kV))/\RelV p.2 q.2.2) kvs e /\
   ∃o r y,h.get? a=Yb o/\o.ExactDict/\o.data=.dict r y/\r.toList=e.map (entryOfKey (VA (bg P w)))/\(e.map (·.1)).Nodup
 |.set S n=>h.SetOf (intKind P w) a S n
 |.ins C dx fs=>H dx=Yb (.own a)/\fs.length<=1000/\dx≠a/\h.get? a=Yb (QI C dx) /\
   ∃g,h.Ns1 dx g/\(∀f,lV (fs.lookup f) (g f))/\UY g (fs.map (·.1))
 |.own _=>∃o,h.get? a=Yb o
 |.xd fs=>∃g,h.Ns1 a g/\∀f,lV (fs.lookup f) (g f)
 |.rng lo hi=>∃t u v,h.get? a=Yb {cls:=.type "range",data:=.fields #[.int lo t,.int hi u,.int 1 v,]}
 |.nX o u=>h.get? a=Yb o/\eS H h a u
 |.tbl ps=>h.get? a=Yb {cls:=.none,data:=.fields ps}
 |.met f x=>h.get? a=Yb (Uo (.ref f) (.ref x))
 |.ext φ=>φ h/\(∃o,h.get? a=Yb o)/\∀m l:Heap,φ m->(∀o,m.get? a=Yb o->l.get? a=Yb o)->φ l
meta def ny(H:Hp)(h:Heap):Prop:=∀a o,H a=Yb o->eS P w H h a o
end
def eS.lt (x:eS P w H h a o):a<h.objs.size:=by
 cases o with
 |Y xs=>let(_,_,_,_,e):=x;calc OG e
 |J xs=>let(_,_,_,p,_):=x;calc p.lt
 |dK kvs=>let(_,_,_,_,o,_,_,e,_):=x;calc OG e
 |dT kvs=>let(_,_,_,_,o,_,_,e,_):=x;calc OG e
 |set S n=>let(o,_,_,_,e,_):=x;calc OG e
 |ins C dx fs=>let(_,_,_,e,_):=x;calc OG e
 |own y=>let(_,e):=x;calc OG e
 |xd fs=>let(_,(_,_,_,e,_),_):=x;calc OG e
 |rng lo hi=>let(_,_,_,e):=x;calc OG e
 |nX ob u=>let(e,_):=x;calc OG e
 |tbl ps=>calc OG (show h.get? a=Yb _ from x)
 |met f y=>calc OG (show h.get? a=Yb _ from x)
 |ext φ=>let(_,(_,e),_):=x;calc OG e
theorem Paired.Fb {F G:e->d->Prop}:∀{l₁:List e}{l₂:List d},Paired F l₁ l₂->(∀a b,F a b->G a b)->Paired G l₁ l₂
 |_,_,.nil,_=>.nil
 |_,_,.cons r t,f=>.cons (f _ _ r) (Paired.Fb t f)
def Paired.imp' {F G:e->d->Prop}(f:∀a b,F a b->G a b){l₁:List e}{l₂:List d}(r:Paired F l₁ l₂):Paired G l₁ l₂:=Paired.Fb r f
def eS.stay (x:eS P w H h a o)(k:∀b u,(b=a\/H b=Yb (.own a))->h.get? b=Yb u->h'.get? b=Yb u)(ho:∀b,H b=Yb (.own a)->H' b=Yb (.own a))(ht:∀b xs,H b=Yb (.J xs)->H' b=Yb (.J xs)):eS P w H' h' a o:=by
 induction o with
 |Y xs=>let(z,m,n,r,e):=x;calc#[z,m,n,r,k _ _ (.inl rfl) e]
 |J xs=>let(z,m,r,(g,e,c),L,G,N):=x;calc#[z,m,r,#[g,k _ _ (.inl rfl) e,c],L,k _ _ (.inl rfl) G,N]
 |dK kvs=>let(z,y,J,r,g,j,l,e,c):=x;calc#[z,y,J,r,g,j,l,k _ _ (.inl rfl) e,c]
 |dT kvs =>
  let(z,y,xs,r,g,j,l,e,c):=x;calc#[z,y,xs,Paired.Fb r λp q z=>#[z.1,ht _ _ z.2.1,z.2.2],g,j,l,k _ _ (.inl rfl) e,c]
 |set S n=>let(g,j,l,t,e,c):=x;calc#[g,j,l,t,k _ _ (.inl rfl) e,c]
 |ins C dx fs =>
  let(d,z,M,e,D,(B,j,l,G,c),r):=x;calc#[ho _ d,z,M,k _ _ (.inl rfl) e,D,#[B,j,l,k _ _ (.inr d) G,c],r]
 |own y=>let(g,e):=x;calc#[g,k _ _ (.inl rfl) e]
 |xd fs=>let(D,(B,j,l,e,c),r):=x;calc#[D,#[B,j,l,k _ _ (.inl rfl) e,c],r]
 |rng lo hi=>let(t,u,v,e):=x;calc#[t,u,v,k _ _ (.inl rfl) e]
 |nX g u ih=>let(e,q):=x;calc#[k _ _ (.inl rfl) e,ih q]
 |tbl ps =>
  let e:h.get? a=Yb {cls:=.none,data:=.fields ps}:=x;show h'.get? a=Yb {cls:=.none,data:=.fields ps};calc k a _ (.inl rfl) e
 |met f y =>
  let e:h.get? a=Yb (Uo (.ref f) (.ref y)):=x;show h'.get? a=Yb (Uo (.ref f) (.ref y));calc k a _ (.inl rfl) e
 |ext φ=>let(p,(o,e),I):=x;calc#[I _ _ p λo q=>k _ _ (.inl rfl) q,#[o,k _ _ (.inl rfl) e],I]
def ny.lt (x:ny P w H h)(e:H a=Yb o):a<h.objs.size:=(x a o e).lt
def ny.fresh (x:ny P w H h)(e:h.objs.size<=a):H a=Yc:=by
 cases q:H a with
 |none=>rfl
 |some u=>calc absurd (OJ (x.lt q) e) (PN _)
def ny.kept (x:ny P w H h)(k:∀b u,h.get? b=Yb u->h'.get? b=Yb u):ny P w H h':=λa o e =>
 (x a o e).stay (λb u _ q=>k b u q) (λ_ q=>q) λ_ _ q=>q
def ny.laid (x:ny P w H h)(k:∀b u,h.get? b=Yb u->h'.get? b=Yb u)(j:h.objs.size<=a)(new:eS P w (upd H a o) h' a o):ny P w (upd H a o) h':=λb u e=>by
 let d:=x.fresh j
 by_cases g:b=a
 .subst g;rw[af]at e;cases e;exact new
 .rw[ay g]at e;calc(x b u e).stay (λc v _ q=>k c v q) (λc q=>by rw[ay (au q d)];calc q) λc l q=>by rw[ay (au q d)];calc q
meta def Rd(H:Hp)(a:Yh)(u:HO):Prop:=H a=Yb u\/∃o,H a=Yb (.nX o u)
def Rd.ok (r:Rd H a u)(x:ny P w H h):eS P w H h a u:=by
 rcases r with r|⟨o,r⟩
 .exact x a u r
 .have(_,q):=x a _ r;calc q
meta def KW:Option HO->Prop
 |some (.Y _)=>True
 |some (.dK _)=>True
 |some (.dT _)=>True
 |some (.set _ _)=>True
 |some (.ins _ _ _)=>True
 |some (.ext _)=>True
 |_=>False
def ny.write (ok:ny P w H h)(m:KW (H x))(B:e=x\/H e=Yb (.own x))(k:∀b u,b≠e->h.get? b=Yb u->h'.get? b=Yb u)(p:∃u,h'.get? e=Yb u)(new:eS P w (upd H x o') h' x o'):ny P w (upd H x o') h':=λb u q=>by
 let g:∀c y,H c=Yb (.own y)->c≠x:=λc y r z=>by subst z;rw[r]at m;exact m
 let j:∀c l,H c=Yb (.J l)->c≠x:=λc l r z=>by subst z;rw[r]at m;exact m
 by_cases o:b=x
 .subst o;rw[af]at q;cases q;exact new
 .rw[ay o]at q
  by_cases d:b=e
  .have t:H b=Yb (.own x):=by
    rcases B with z|z
    .exact absurd (d.trans z) o
    .rw[d];exact z
   rw[q]at t;cases t;let(v,C):=p;exact#[v,by rw[d];calc C]
  .refine(ok b u q).stay (λc v hc r=>k c v ?_ r) (λc r=>by rw[ay (g c b r)];calc r) λc l r=>by rw[ay (j c l r)];exact r
   rcases hc with rfl|hc
   .exact d
   .rintro rfl;rcases B with z|z
    .exact g c b hc z
    .rw[hc]at z;cases z;calc o rfl
structure Un(fs ex:Yi Yh) (H H':Hp) (h h':Heap):Prop where
 keep:∀b o,h.get? b=Yb o->H b=Yc->b∉fs->b∉ex->h'.get? b=Yb o
 slot:∀b o,h.get? b=Yb o->H b=Yc->b∈fs->b∉ex->∃sl,h'.get? b=Yb {o with slots:=sl}
 free:∀b o,h.get? b=Yb o->H b=Yc->b∉ex->H' b=Yc
 there:∀b o,h.get? b=Yb o->b∉ex->∃o',h'.get? b=Yb o'
 tups:∀b xs,H b=Yb (.J xs)->H' b=Yb (.J xs)
 frzs:∀b o u,H b=Yb (.nX o u)->H' b=Yb (.nX o u)
 tbls:∀b ps,H b=Yb (.tbl ps)->∃more,H' b=Yb (.tbl (ps++more))
def Un.any (u:Un fs ex H H1 h h1)(q:h.get? b=Yb d)(n:H b=Yc)(g:b∉ex):∃l,h1.get? b=Yb {d with slots:=l}:=by
 by_cases j:b∈fs
 .exact u.slot b d q n j g
 .exact#[d.slots,u.keep b d q n j g]
def Un.trans (a:Un fs ex H H1 h h1)(b:Un fs ex H1 H2 h1 h2):Un fs ex H H2 h h2 where
 keep:=λc d q n m g=>b.keep c d (a.keep c d q n m g) (a.free c d q n g) m g
 slot:=λc d q n m g=>by
  let(z,j):=a.slot c d q n m g;let(p,t):=b.slot c _ j (a.free c d q n g) m g;exact#[p,t]
 free:=λc d q n g=>by
  let(r,j):=a.there c d q g;exact b.free c r j (a.free c d q n g) g
 there:=λc d q g=>by
  let(r,j):=a.there c d q g;exact b.there c r j g
 tups:=λc l q=>b.tups c l (a.tups c l q)
 frzs:=λc d l q=>b.frzs c d l (a.frzs c d l q)
 tbls:=λc u q=>by
  let(y,j):=a.tbls c u q;let(v,t):=b.tbls c _ j;calc#[y++v,by rw[t,VU]]
def Un.kept (k:∀b u,h.get? b=Yb u->h'.get? b=Yb u):Un fs ex H H h h' :=
 #[λb d q _ _ _=>k b d q,λb d q _ _ _=>#[d.slots,k b d q],λ_ _ _ n _=>n,λb d q _=>#[d,k b d q],λ_ _ q=>q,λ_ _ _ q=>q,λ_ g q=>#[#[],by rw[q];simp]]
def Un.refl :Un fs ex H H h h:=Un.kept λ_ _ q=>q
def Un.laid (k:∀b u,h.get? b=Yb u->h'.get? b=Yb u)(g:h.objs.size<=a)(hn:H a=Yc):Un fs ex H (upd H a o) h h' where
 keep:=λb u q _ _ _=>k b u q
 slot:=λb u q _ _ _=>#[u.slots,k b u q]
 free:=λb u q n _=>by rw[ay (OZ (OJ (OG q) g))];exact n
 there:=λb u q _=>#[u,k b u q]
 tups:=λb d q=>by rw[ay (au q hn)];exact q
 frzs:=λb u d q=>by rw[ay (au q hn)];exact q
 tbls:=λb j q=>#[#[],by rw[ay (au q hn),q];simp]
def Un.write (g:KW (H x))(y:e=x\/H e=Yb (.own x))(k:∀b u,b≠e->h.get? b=Yb u->h'.get? b=Yb u)(l:∃u,h'.get? e=Yb u):Un fs ex H (upd H x o) h h':=by
 let m:∀b,H b=Yc->b≠x:=λb n z=>by subst z;rw[n]at g;exact g
 let p:∀b,H b=Yc->b≠e:=λb n z=>by
  subst z;rcases y with r|r
  .exact m b n r
  .rw[n]at r;cases r
 let j:∀b u,H b=Yb u->¬KW (Yb u)->b≠x:=λb u q v z=>by subst z;rw[q]at g;exact v g
 refine#[λb u q n _ _=>k b u (p b n) q,λb u q n _ _=>#[u.slots,k b u (p b n) q],λb u q n _=>by rw[ay (m b n)];exact n,λb u q _=>?_,
  λb t q=>by rw[ay (j b _ q λz=>z)];calc q,λb u t q=>by rw[ay (j b _ q λz=>z)];calc q,λb B q=>#[#[],by rw[ay (j b _ q λz=>z),q];simp]]
 by_cases d:b=e
 .subst d;exact l
 .exact#[u,k b u d q]
meta def Mb(h:Heap)(H:Hp):Yi Yh:=(QJ h.objs.size).filter λa=>(H a).isSome
meta def wJ(h:Heap)(H:Hp):Heap:=PySem.W.hideAll h (Mb h H)
def Bw (h:Heap)(H:Hp):(wJ h H).objs.size=h.objs.size:=PySem.W.hideAll_size _ _
def CN (e:h.get? b=Yb o)(n:H b=Yc):(wJ h H).get? b=Yb o :=
 PySem.W.hideAll_get _ e λd=>by
  let q:(H b).isSome=Yd:=(Vd.mp d).2;rw[n]at q;simp at q
def Fc (e:(wJ h H).get? b=Yb o):h.get? b=Yb o/\H b=Yc:=by
 let d:h.get? b=Yb o:=PySem.W.of_hideAll (Mb h H) e;refine#[d,?_]
 cases q:H b with
 |none=>rfl
 |some x =>
  let g:b∈Mb h H:=Vd.mpr #[Q4.mpr (OG d),by simp[q]];let z:(wJ h H).get? b=Yc:=PySem.W.hideAll_none (Mb h H) g;rw[z]at e;cases e
structure Mod(K:bN) (mg:Yg->Option eF) (base:Heap):Prop where
 kin:K.In base
 glob:base.Ns OY mg
 blt:∃mb,base.Ns builtinsNs mb/\∀x:Yg,x≠"__name__"->mb x=Sy x
 nolimit:base.NoLimit
structure Cx where
 prog:we
 w:OR
 K:bN
 mg:Yg->Option eF
 base:Heap
 A:OW
 N:Yi Yg
 s₀:fy
 H₀:Hp
 env:Env
 outer:Yi Env
 stack:Yi Env
 ex:Yi Yh
 fn:Yg->Bool
 calm:Bool
 pn:Yi (Yh×Obj)
 xe:eF->fy->Prop
meta def frs(l:Yi Env):Yi Yh:=l.filterMap (·.frame)
meta abbrev Cx.fs(X:Cx):Yi Yh:=frs X.outer
meta def KY(d:P9)(x:Yg):Prop:=d.names.lookup x=Yb .local\/d.names.lookup x=Yb .cell\/d.names.lookup x=Yb .free
meta def Loc(d:P9)(x:Yg):Prop:=d.names.lookup x=Yb .local\/d.names.lookup x=Yb .cell
meta def Look(d:Env)(h:Heap)(m:Yg->Option eF)(x:Yg)(u:eF):Prop :=
 (d.kindOf x=Yb .local/\m x=Yb u)\/((d.kindOf x=Yb .cell\/d.kindOf x=Yb .free)/\∃c,d.cells.lookup x=Yb c/\h.IsCell c (Yb u))
structure Cx.Ok(X:Cx):Prop where
 mod:Mod X.K X.mg X.base
 kind:X.env.scope.kind=.function
 glob:X.env.globals=OY
 blt:X.env.builtins=builtinsNs
 above:X.s₀.heap.objs.size<=X.env.locals
 inj:∀x y c,X.env.cells.lookup x=Yb c->X.env.cells.lookup y=Yb c->x=y
 has:∀x,(X.env.kindOf x=Yb .cell\/X.env.kindOf x=Yb .free)->∃c,X.env.cells.lookup x=Yb c
 cab:∀x c,X.fn x=Yd->X.env.cells.lookup x=Yb c->X.s₀.heap.objs.size<=c
 hd:X.calm=Yd->X.A.handled=Yc
 frames:X.A.frames=Yb X.stack
 stk:X.stack=X.outer\/(X.stack=X.env::X.outer/\X.env.frame=Yb X.env.locals)
 exf:∀b∈X.ex,b≠X.env.locals/\∀x c,X.env.cells.lookup x=Yb c->c≠b
 bs:∀b o,X.base.get? b=Yb o->X.s₀.heap.get? b=Yb o/\X.H₀ b=Yc
 bsz:X.base.objs.size<=X.s₀.heap.objs.size
 noex:∀b o,X.base.get? b=Yb o->b∉X.ex
 exfs:∀b∈X.ex,b∉X.fs
 qQ:X.s₀.heap.FunFrames X.base X.outer
 frf:∀b∈X.fs,X.H₀ b=Yc
structure Inv(X:Cx) (pins:Yi (Yh×Obj)) (σ:Yi (Option V)) (H:Hp) (s:fy):Prop where
 ok:X.Ok
 os:s.os=X.s₀.os
 bare:TH s.gens
 base:Un X.fs X.ex X.H₀ H X.s₀.heap s.heap
 loc:∃m,s.heap.Ns X.env.locals m/\∀(i:Nat) (x:Yg) (v:V),X.N[i]?=Yb x->σ[i]?=Yb (Yb v)->KY X.env.scope x->∃u,RelV v u/\Look X.env s.heap m x u
 cell:∀x c,X.env.cells.lookup x=Yb c->∃v,s.heap.IsCell c v
 free:H X.env.locals=Yc
 freeC:∀x c,X.env.cells.lookup x=Yb c->H c=Yc
 pin:∀p∈X.pn++pins,s.heap.get? p.1=Yb p.2/\H p.1=Yc/\p.1≠X.env.locals/\p.1∉X.fs/\∀v,p.2.data≠.cell v
 hok:ny X.prog X.w H s.heap
 len:σ.length=X.N.length
def Cx.Ok.Mv {X:Cx}(ok:X.Ok)(e:X.base.get? b=Yb o):b∉X.fs:=λd=>by
 let:=(ok.qQ.mem d).1;rw[e]at this;cases this
def Inv.bs (I:Inv X pins σ H s):∀b o,X.base.get? b=Yb o->s.heap.get? b=Yb o/\H b=Yc:=λb o e =>
 #[I.base.keep b o (I.ok.bs b o e).1 (I.ok.bs b o e).2 (I.ok.Mv e) (I.ok.noex b o e),I.base.free b o (I.ok.bs b o e).1 (I.ok.bs b o e).2 (I.ok.noex b o e)]
def Inv.bk (I:Inv X pins σ H s):∀b o,X.base.get? b=Yb o->s.heap.get? b=Yb o:=λb o e=>(I.bs b o e).1
def Inv.mod (I:Inv X pins σ H s):Mod X.K X.mg X.base:=I.ok.mod
def Inv.tG (I:Inv X pins σ H s):X.K.In s.heap:=I.ok.mod.kin.keeps I.bk
def Inv.fr (I:Inv X pins σ H s):∃m,Fr X.base X.env.locals s.heap m :=
 let⟨m,hn,_⟩:=I.loc
 #[m,hn,I.bk,OX I.ok.bsz I.ok.above]
def Inv.lt (I:Inv X pins σ H s):X.env.locals<s⁻¹:=let⟨_,hn,_⟩:=I.loc;hn.lt
def Inv.sz (I:Inv X pins σ H s):X.s₀.heap.objs.size<=s⁻¹:=OX I.ok.above (O7 I.lt)
def Inv.Fd (I:Inv X pins σ H s)(h:s⁻¹<=a):a∉X.fs:=λe=>by
 let(_,o,d,_):=I.ok.qQ.mem e;calc absurd (OJ (OG d) (OX I.sz h)) (PN _)
def Inv.Fe (I:Inv X pins σ H s):∀x c,X.env.cells.lookup x=Yb c->c≠X.env.locals:=λx c e z=>by
 let(v,o,j,hd):=I.cell x c e;let(m,(l,p,q,d,g,_),_):=I.loc;rw[z,d]at j;cases j;rw[g]at hd;cases hd
def Inv.qQ (I:Inv X pins σ H s):s.heap.FunFrames X.base X.outer:=by
 let all:∀(l:Yi Env),(∀b∈frs l,b∈X.fs)->X.s₀.heap.FunFrames X.base l->s.heap.FunFrames X.base l:=by
  intro l
  induction l with
  |nil=>intro _ _;trivial
  |cons env r ih =>
   intro m t;let(u,(L,o,d,q,p,hd),hr):=t;let j:L∈X.fs:=m L (by unfold frs;rw[Qw,d];calc Qe);let(v,e):=I.base.slot L o p (I.ok.frf L j) j λz=>I.ok.exfs L z j;exact#[u,#[L,_,d,q,e,hd],ih (λb g=>m b (by unfold frs;rw[Qw,d];calc PK _ g)) hr]
 calc all X.outer (λ_ g=>g) I.ok.qQ
def Inv.stack (I:Inv X pins σ H s):s.heap.FunFrames X.base X.stack:=by
 rcases I.ok.stk with e|⟨e,hf⟩
 .rw[e];exact I.qQ
 .rw[e];let(m,d,_):=I.loc;calc .cons (by rw[I.ok.kind];decide) hf d ?_ I.qQ;calc Td (OX I.ok.bsz I.ok.above)
def Inv.tH (I:Inv X pins σ H s):∀b∈frs X.stack,b∈X.env.locals::X.fs:=λb d=>by
 rcases I.ok.stk with e|⟨e,hf⟩
 .rw[e]at d;exact PK _ d
 .rw[e]at d;unfold frs at d;rw[Qw,hf]at d;calc d
def Inv.wK (I:Inv X pins σ H s):∀b∈frs X.stack,H b=Yc:=λb hb=>by
 rcases L0.mp (I.tH b hb)with e|hb
 .rw[e];exact I.free
 .have(_,o,d,_):=I.ok.qQ.mem hb;calc I.base.free b o d (I.ok.frf b hb) λz=>I.ok.exfs b z hb
def Inv.step {ch:Yi Yh}(I:Inv X pins σ H s)(hch:∀b∈ch,(b∈X.ex\/X.s₀.heap.objs.size<=b)/\b≠X.env.locals/\(∀x c,X.env.cells.lookup x=Yb c->c≠b)/\∀p∈X.pn++pins,p.1≠b)(keep:∀b o,b≠X.env.locals->b∉X.fs->b∉ch->s.heap.get? b=Yb o->H b=Yc->h'.get? b=Yb o)(slot:∀b o,b≠X.env.locals->b∈X.fs->b∉ch->s.heap.get? b=Yb o->H b=Yc->∃N,h'.get? b=Yb {o with slots:=N})(free:∀b o,b∉ch->s.heap.get? b=Yb o->H b=Yc->H' b=Yc)(there:∀b o,b∉ch->s.heap.get? b=Yb o->∃G,h'.get? b=Yb G)(tups:∀b xs,H b=Yb (.J xs)->H' b=Yb (.J xs))(frzs:∀b o u,H b=Yb (.nX o u)->H' b=Yb (.nX o u))(tbls:∀b ps,H b=Yb (.tbl ps)->∃more,H' b=Yb (.tbl (ps++more)))(ns:∀m,s.heap.Ns X.env.locals m->h'.Ns X.env.locals m)(hok:ny X.prog X.w H' h')(hg:TH g'):
  Inv X pins σ H' {s with heap:=h',gens:=g',drawn:=d',toks:=t'}:=by
 let J:∀b o,X.s₀.heap.get? b=Yb o->b≠X.env.locals:=λb o e=>OZ (OJ (OG e) I.ok.above)
 let y:∀b o,X.s₀.heap.get? b=Yb o->b∉X.ex->b∉ch:=λb o e g C=>by
  rcases(hch b C).1 with z|z
  .exact g z
  .exact absurd (OJ (OG e) z) (PN _)
 let t:∀x c,X.env.cells.lookup x=Yb c->∀v,s.heap.IsCell c v->h'.IsCell c v:=λx c e v ⟨o,D,hd⟩=>by
  let j:c∉ch:=λz=>(hch c z).2.2.1 x c e rfl
  by_cases S:c∈X.fs
  .have(N,q):=slot c o (I.Fe x c e) S j D (I.freeC x c e);exact#[_,q,hd]
  .exact#[o,keep c o (I.Fe x c e) S j D (I.freeC x c e),hd]
 refine#[I.ok,I.os,hg,#[λb o e n C g=>?_,λb o e n C g=>?_,λb o e n g=>?_,λb o e g=>?_,λb xs e=>tups b xs (I.base.tups b xs e),λb o xs e=>frzs b o xs (I.base.frzs b o xs e),λb ps e=>?_],?_,λx c e=>?_,?_,λx c e=>?_,λp R=>?_,hok,I.len]
 .exact keep b o (J b o e) C (y b o e g) (I.base.keep b o e n C g) (I.base.free b o e n g)
 .have(N,B):=I.base.slot b o e n C g;let(M,L):=slot b _ (J b o e) C (y b o e g) B (I.base.free b o e n g);exact#[M,L]
 .have(G,B):=I.base.there b o e g;exact free b G (y b o e g) B (I.base.free b o e n g)
 .have(G,B):=I.base.there b o e g;exact there b G (y b o e g) B
 .have(U,B):=I.base.tbls b ps e;let(T,L):=tbls b _ B;exact#[U++T,by rw[L,VU]]
 .have(m,V,W):=I.loc;calc#[m,ns m V,λi x v B L Y=>?_];let(u,r,l):=W i x v B L Y;calc#[u,r,?_];rcases l with l|⟨k,c,e,z⟩
  .exact .inl l
  .exact .inr #[k,c,e,t x c e _ z]
 .have(v,z):=I.cell x c e;exact#[v,t x c e v z]
 .have(m,(o,_,_,D,_),_):=I.loc;exact free _ o (λz=>(hch _ z).2.1 rfl) D I.free
 .have(v,o,D,hd):=I.cell x c e;exact free c o (λz=>(hch c z).2.2.1 x c e rfl) D (I.freeC x c e)
 .have(e,n,Q,O,d):=I.pin p R;let j:p.1∉ch:=λz=>(hch p.1 z).2.2.2 p R rfl;calc#[keep p.1 p.2 Q O j e n,free p.1 p.2 j e n,Q,O,d]
def Inv.un (I:Inv X pins σ H s)(u:Un X.fs [] H H' s.heap h')(g:ny X.prog X.w H' h'):Inv X pins σ H' {s with heap:=h',toks:=t'}:=by
 let(m,(o,G,J,q,r),_):=id I.loc;let(B,y):=u.any q I.free (by simp)
 calc I.step (g':=s.gens) (d':=s.drawn) (ch:=[]) ⋯ (λb o _ j _ e n=>u.keep b o e n j (by simp)) (λb o _ j _ e n=>u.slot b o e n j (by simp)) (λb o _ e n=>u.free b o e n (by simp)) (λb o _ e=>u.there b o e (by simp)) u.tups u.frzs u.tbls (λD v=>by
  let(C,l,p,d,t):=v;rw[q]at d;cases d;calc#[_,l,p,y,t]) g I.bare
def Inv.call (I:Inv X pins σ H s)(u:Un (frs X.stack) ch H H' s.heap h')(j:ny X.prog X.w H' h')(C:TH g')(hch:∀b∈ch,(b∈X.ex\/X.s₀.heap.objs.size<=b)/\b≠X.env.locals/\(∀x c,X.env.cells.lookup x=Yb c->c≠b)/\∀p∈X.pn++pins,p.1≠b):
  Inv X pins σ H' {s with heap:=h',gens:=g',drawn:=d',toks:=t'}:=by
 let(m,(o,M,N,v,r),_):=id I.loc;let(G,l):=u.any v I.free λz=>(hch _ z).2.1 rfl
 calc I.step (ch:=ch) hch (λb o l D d e n=>u.keep b o e n (λz=>(L0.mp (I.tH b z)).elim l D) d) (λb o _ _ d e n=>u.any e n d) (λb o d e n=>u.free b o e n d) (λb o d e=>u.there b o e d) u.tups u.frzs u.tbls (λL B=>by
  let(J,q,t,g,y):=B;rw[v]at g;cases g;calc#[_,q,t,l,y]) j C
def Inv.turned (I:Inv X pins σ H s)(k:∀b o,b≠it->s.heap.get? b=Yb o->h'.get? b=Yb o)(hn:H it=Yc)(j:it≠X.env.locals)(h1:it∈X.ex\/X.s₀.heap.objs.size<=it)(h2:∀x c,X.env.cells.lookup x=Yb c->c≠it)(h3:∀p∈X.pn++pins,p.1≠it):Inv X pins σ H {s with heap:=h',toks:=t'}:=by
 let g:∀b u,H b=Yb u->b≠it:=λb u e z=>by rw[z,hn]at e;cases e
 refine I.step (g':=s.gens) (d':=s.drawn) (ch:=[it]) (λb y=>?_) (λb o _ _ d e _=>k b o (λz=>d (by simp[z])) e) (λb o _ _ d e _=>#[o.slots,k b o (λz=>d (by simp[z])) e]) (λ_ _ _ _ n=>n)
  (λb o d e=>#[o,k b o (λz=>d (by simp[z])) e]) (λ_ _ e=>e) (λ_ _ _ e=>e) (λb D e=>#[#[],by rw[e];simp]) (λm t=>?_) (λb u e=>?_) I.bare
 .have e:b=it:=by simpa using y
  subst e;exact#[h1,j,h2,h3]
 .have(o,B,C,l,r):=t;exact#[o,B,C,k _ o (Rj j) l,r]
 .refine(I.hok b u e).stay (λc v d q=>k c v ?_ q) (λ_ q=>q) λ_ _ q=>q;rcases d with z|z
  .rw[z];exact g b u e
  .exact g c _ z
def Inv.tok (I:Inv X pins σ H s)(t:Nat):Inv X pins σ H {s with toks:=t}:=I.un (h':=s.heap) (t':=t) Un.refl I.hok
def Inv.kept (I:Inv X pins σ H s)(k:∀b u,s.heap.get? b=Yb u->h'.get? b=Yb u):Inv X pins σ H {s with heap:=h',toks:=t'}:=I.un (Un.kept k) (I.hok.kept k)
def Inv.laid (I:Inv X pins σ H s)(k:∀b u,s.heap.get? b=Yb u->h'.get? b=Yb u)(d:s⁻¹<=a)(new:eS X.prog X.w (upd H a o) h' a o):
  Inv X pins σ (upd H a o) {s with heap:=h',toks:=t'}:=I.un (Un.laid k d (I.hok.fresh d)) (I.hok.laid k d new)
def Inv.write (I:Inv X pins σ H s)(g:KW (H x))(j:e=x\/H e=Yb (.own x))(k:∀b u,b≠e->s.heap.get? b=Yb u->h'.get? b=Yb u)(d:∃u,h'.get? e=Yb u)(new:eS X.prog X.w (upd H x o) h' x o):Inv X pins σ (upd H x o) {s with heap:=h',toks:=t'}:=I.un (Un.write g j k d) (I.hok.write g j k d new)
def Inv.weak (I:Inv X pins σ H s)(d:σ'.length=σ.length)(w:∀(i:Nat) v,σ'[i]?=Yb (Yb v)->σ[i]?=Yb (Yb v)):Inv X pins σ' H s :=
 #[I.ok,I.os,I.bare,I.base,let⟨m,hn,hl'⟩:=I.loc;#[m,hn,λi x v j g e=>hl' i x v j (w i v g) e],I.cell,I.free,I.freeC,I.pin,I.hok,d.trans I.len]
def Inv.fB (I:Inv X pins σ H s)(h:∀p∈d,s.heap.get? p.1=Yb p.2/\H p.1=Yc/\p.1≠X.env.locals/\p.1∉X.fs/\∀v,p.2.data≠.cell v):Inv X d σ H s :=
 #[I.ok,I.os,I.bare,I.base,I.loc,I.cell,I.free,I.freeC,λp e=>(IF.mp e).elim (λz=>I.pin p (O4 _ z)) (h p),I.hok,I.len]
def tI {N:Yi Yg}(d:N.Nodup){i:Nat}(a:N[i]?=Yb x)(b:N[j]?=Yb x):i=j:=by
 let(m,g):=bH.mp a;let(l,e):=bH.mp b;calc(List.getElem_inj d).mp (g.trans e.symm)
def Bx (I:Inv X pins σ H s)(hN:X.N.Nodup)(hi:X.N[i]?=Yb x)(B:Loc X.env.scope x)(r:RelV v u)(h:∀s',Inv X pins (σ.set i (Yb v)) H s'->(∃a,Rk a s.heap s'.heap/\(a=X.env.locals\/X.env.cells.lookup x=Yb a))->Q Unit.unit s')(hf:X.fn x=Yd\/X.env.scope.names.lookup x=Yb .local:=by first|calc .inl rfl|calc .inr rfl|assumption):OH M A (storeName X.env x u) Q E s:=by
 let(m,hn,hl):=id I.loc;let T:(X.env.scope.kind == .class||(X.env.scope.kind == .module&&X.env.locals != X.env.globals))=Ye:=by rw[I.ok.kind];rfl
 let G:i<σ.length:=by rw[I.len];exact(bH.mp hi).1
 let Fe:=I.Fe
 let l:∀{a:Yh}{h':Heap},(∃o,s.heap.get? a=Yb o/\H a=Yc)->Rk a s.heap h'->ny X.prog X.w H h':=λ{a h'} ha g b ob e=>by
  let(_,_,C):=ha;calc(I.hok b ob e).stay (λc Y hc q=>(g.2 c ?_).trans q) (λ_ q=>q) λ_ _ q=>q;rintro rfl;rcases hc with rfl|hc
  .rw[C]at e;cases e
  .rw[C]at hc;cases hc
 rcases B with hk|hk
 .refine wpAny_storeName_local hk hn (λh' ab g=>?_) T;let(oL,_,_,aa,_):=id hn;refine h _ #[I.ok,I.os,I.bare,#[λb o e n O B=>?_,λb o e n O B=>?_,I.base.free,λb o e B=>?_,I.base.tups,I.base.frzs,I.base.tbls],#[_,ab,λj y v' t D e3=>?_],λy c e=>?_,I.free,I.freeC,λp hp=>?_,l #[oL,aa,I.free] g,by simpa using I.len] #[_,g,.inl rfl]
  .exact(g.2 b (OZ (OJ (OG e) I.ok.above))).trans (I.base.keep b o e n O B)
  .have(sl,t):=I.base.slot b o e n O B;exact#[sl,(g.2 b (OZ (OJ (OG e) I.ok.above))).trans t]
  .have(o',t):=I.base.there b o e B;exact#[o',(g.2 b (OZ (OJ (OG e) I.ok.above))).trans t]
  .by_cases J:j=i
   .subst J;rw[hi]at t;cases t;rw[Rx G]at D
    cases D
    exact#[u,r,.inl #[hk,by simp]]
   .rw[RQ (Rj J)]at D;let(u',r',q):=hl j y v' t D e3;calc#[u',r',?_];rcases q with⟨k,e⟩|⟨k,c,e,z⟩
    .refine .inl #[k,?_];let:y≠x:=λe=>J (tI hN t (e▸hi));simp[this,e]
    .exact .inr #[k,c,e,z.sameBut g (Fe y c e)]
  .have(Y,z):=I.cell y c e;exact#[Y,z.sameBut g (Fe y c e)]
  .have(e,n,Z,nf,d):=I.pin p hp;exact#[(g.2 p.1 Z).trans e,n,Z,nf,d]
 .have L:X.fn x=Yd:=by
   rcases hf with z|z
   .exact z
   .rw[z]at hk;cases hk
  let(c,hc):=I.ok.has x (.inl hk);let(Y,z):=I.cell x c hc;calc wpAny_storeName_cell I.ok.kind hk hc z (λh' W g=>?_);let(oc,S,R):=id z;refine h {s with heap:=h'} #[I.ok,I.os,I.bare,#[λb o e n O B=>?_,λb o e n O B=>?_,I.base.free,λb o e B=>?_,I.base.tups,I.base.frzs,I.base.tbls],#[m,hn.sameBut g (Rj (Fe x c hc)),λj y v' t D e3=>?_],λy c' e=>?_,I.free,I.freeC,λp hp=>?_,l #[oc,S,I.freeC x c hc] g,by simpa using I.len] #[c,g,.inr hc]
  .exact(g.2 b (OZ (OJ (OG e) (I.ok.cab x c L hc)))).trans (I.base.keep b o e n O B)
  .have(sl,t):=I.base.slot b o e n O B;exact#[sl,(g.2 b (OZ (OJ (OG e) (I.ok.cab x c L hc)))).trans t]
  .have(o',t):=I.base.there b o e B;exact#[o',(g.2 b (OZ (OJ (OG e) (I.ok.cab x c L hc)))).trans t]
  .by_cases J:j=i
   .subst J;rw[hi]at t;cases t;rw[Rx G]at D
    cases D
    exact#[u,r,.inr #[.inl hk,c,hc,W]]
   .rw[RQ (Rj J)]at D;let(u',r',q):=hl j y v' t D e3;calc#[u',r',?_];rcases q with q|⟨k,c',e,z'⟩
    .exact .inl q
    .refine .inr #[k,c',e,z'.sameBut g ?_];rintro rfl;exact J (tI hN t (I.ok.inj _ _ _ e hc▸hi))
  .by_cases U:c'=c
   .subst U;exact#[_,W]
   .have(w2,z2):=I.cell y c' e;exact#[w2,z2.sameBut g U]
  .have(e,n,Z,nf,d):=I.pin p hp;calc#[(g.2 p.1 ?_).trans e,n,Z,nf,d];intro q;rw[q,S]at e;let q':oc=p.2:=OL e;calc d Y (by rw[<-q'];calc R)
def lD (I:Inv X pins σ H s)(e:X.N.Nodup)(hi:X.N[i]?=Yb x)(d:Loc X.env.scope x)(r:RelV v u)(h:∀s',Inv X pins (σ.set i (Yb v)) H s'->Q Unit.unit s')(hf:X.fn x=Yd\/X.env.scope.names.lookup x=Yb .local:=by first|calc .inl rfl|calc .inr rfl|assumption):OH M A (storeName X.env x u) Q E s :=
 Bx I e hi d r (λs' g _=>h s' g) hf
def Inv.Ih (I:Inv X pins σ H s)(j:s'.os=s.os)(u:Un (frs X.stack) ch H H' s.heap s'.heap)(d:ny X.prog X.w H' s'.heap)(l:TH s'.gens)(hch:∀b∈ch,(b∈X.ex\/X.s₀.heap.objs.size<=b)/\b≠X.env.locals/\(∀x c,X.env.cells.lookup x=Yb c->c≠b)/\∀p∈X.pn++pins,p.1≠b):Inv X pins σ H' s':=by
 let(h',g',d',t',g):=s';let e:g=s.os:=j;subst e;calc I.call (g':=g') (t':=t') (d':=d') u d l hch
abbrev XK:=eF->Option Yh->Hp->Prop
abbrev St:=Yi (Option V)
abbrev VK:=V->Hp->Prop
abbrev TE:=St->Hp->VK->Prop
abbrev TT:=St->Hp->(Bool->Hp->Prop)->Prop
abbrev TA:=St->Hp->(Yi V->Hp->Prop)->Prop
structure Ends where
 nx:St->Hp->Prop
 rt:VK
 bk:St->Hp->Prop:=λ_ _=>False
 ct:St->Hp->Prop:=λ_ _=>False
abbrev TS:=Ends->St->Hp->Prop
meta def EP(X:Cx)(d:Yi (Yh×Obj))(g:St)(Q:VK)(u:eF)(s':fy):Prop:=∃v e,Inv X d g e s'/\RelV v u/\Q v e
meta def TP(X:Cx)(d:Yi (Yh×Obj))(g:St)(Q:Bool->Hp->Prop)(b:Bool)(s':fy):Prop:=∃e,Inv X d g e s'/\Q b e
meta def AP(X:Cx)(d:Yi (Yh×Obj))(j:St)(Q:Yi V->Hp->Prop)(us:List eF)(s':fy):Prop:=∃e g,Inv X d j g s'/\Vals e us/\Q e g
meta def SP(X:Cx)(e:Yi (Yh×Obj))(D:Ends)(f:Flow)(s':fy):Prop :=
 match f with
 |.next=>∃d g,Inv X e d g s'/\D.nx d g
 |.brk=>∃d g,Inv X e d g s'/\D.bk d g
 |.cont=>∃d g,Inv X e d g s'/\D.ct d g
 |.ret u=>∃v d g,Inv X e d g s'/\RelV v u/\D.rt v g
meta def PE(X:Cx)(e:Expr)(t:TE):Prop :=
 ∀(d:Yi (Yh×Obj)) (s:fy) (g:St) (H:Hp) (Q:VK),Inv X d g H s->t g H Q->OH (OM X.prog X.w) X.A (eval e X.env) (EP X d g Q) X.xe s
meta def PT(X:Cx)(e:Expr)(t:TT):Prop :=
 ∀(d:Yi (Yh×Obj)) (s:fy) (g:St) (H:Hp) (Q:Bool->Hp->Prop),Inv X d g H s->t g H Q->OH (OM X.prog X.w) X.A (isTrue e X.env (eval e X.env)) (TP X d g Q) X.xe s
meta def PW(X:Cx)(e:Expr)(t:TT):Prop :=
 ∀(g:Sem eF) (d:Yi (Yh×Obj)) (s:fy) (j:St) (H:Hp) (Q:Bool->Hp->Prop),Inv X d j H s->t j H Q->OH (OM X.prog X.w) X.A (isTrue e X.env g) (TP X d j Q) X.xe s
def PW.pt (h:PW X e t):PT X e t:=h _
meta def PA(X:Cx)(j:Yi Expr)(t:TA):Prop :=
 ∀(g:Pos) (d:Yi (Yh×Obj)) (s:fy) (e:St) (H:Hp) (Q:Yi V->Hp->Prop),Inv X d e H s->t e H Q->OH (OM X.prog X.w) X.A (spliced (TM g (PB j X.env))) (AP X d e Q) X.xe s
meta def PS(X:Cx)(st:Stmt)(t:TS):Prop :=
 ∀(d:Yi (Yh×Obj)) (s:fy) (e:St) (H:Hp) (D:Ends),Inv X d e H s->t D e H->OH (OM X.prog X.w) X.A (exec st X.env) (SP X d D) X.xe s
meta def rL(X:Cx)(st:Yi Stmt)(t:TS):Prop :=
 ∀(d:Yi (Yh×Obj)) (s:fy) (e:St) (H:Hp) (D:Ends),Inv X d e H s->t D e H->OH (OM X.prog X.w) X.A (execs st X.env) (SP X d D) X.xe s
def cX {t:Sem d}{Q e:d->fy->Prop}(h:OH M A t Q E s)(g:∀a s,Q a s->e a s):OH M A t e E s:=O1 h g λ_ _ x=>x
meta def jt(i:Nat):TE:=λd H Q=>∃v,d[i]?=Yb (Yb v)/\Q v H
abbrev tC(v:V):TE:=λ_ H Q=>Q v H
def CO (t:X.N[i]?=Yb x)(o:KY X.env.scope x)(hd:(x == ("__debug__":Yg))=Ye:=by decide)(g:(x == ("__classdict__":Yg))=Ye:=by decide):PE X (.Name x pos) (jt i):=by
 intro d s j H Q I h;let(v,e,h):=h;let(m,p,q):=I.loc;let(u,r,l):=q i x v t e o;let fin:EP X d j Q u s:=#[v,H,I,r,h];rcases l with⟨hk,hm⟩|⟨hk,c,hc,hcell⟩
 .exact wpAny_Name (wpAny_loadName_local I.ok.kind hk p hm fin) hd
 .rcases hk with hk|hk
  .exact wpAny_Name (wpAny_loadName_cell I.ok.kind hk hc hcell fin) hd
  .exact wpAny_Name (wpAny_loadName_free I.ok.kind hk hc hcell fin g) hd
def aB {i j pos}:PE X (.Constant (.int i) j pos) (tC (.int i)):=λ_ _ _ H _ I h=>wpAny_Constant_int #[.int i,H,I.tok _,#[_,rfl],h]
def nA {b j pos}:PE X (.Constant (.bool b) j pos) (tC (.bl b)):=λ_ _ _ H _ I h=>Constant_bool #[.bl b,H,I,rfl,h]
def gw {j pos}:PE X (.Constant .none j pos) (tC .eR):=λ_ _ _ H _ I h=>Constant_none #[.eR,H,I,rfl,h]
def aD {x j pos}:PE X (.Constant (.str x) j pos) (tC (.str x)):=λ_ _ _ H _ I h=>Calls.Constant_str #[.str x,H,I.tok _,#[_,rfl],h]
meta def Gl(X:Cx)(x:Yg):Prop:=X.env.kindOf x=Yb .globalImplicit
def pW (I:Inv X d e H s)(j:Gl X x)(g:X.mg x=Yb u)(h:Q u s)(hd:(x == ("__debug__":Yg))=Ye:=by decide):OH (OM X.prog X.w) X.A (eval (.Name x pos) X.env) Q E s :=
 TN I.ok.kind j (Calls.loadGlobal_global (by rw[I.ok.glob];calc I.mod.glob.keeps I.bk) g h) hd
def qR (I:Inv X d e H s)(l:Gl X x)(j:X.mg x=Yc)(g:Sy x=Yb u)(h:Q u s)(hn:x≠"__name__":=by decide)(hd:(x == ("__debug__":Yg))=Ye:=by decide):OH (OM X.prog X.w) X.A (eval (.Name x pos) X.env) Q E s:=by
 let(p,o,m):=I.mod.blt;calc TN I.ok.kind l (Calls.loadGlobal_builtin (by rw[I.ok.glob];calc I.mod.glob.keeps I.bk) j (by rw[I.ok.blt];calc o.keeps I.bk) ((m x hn).trans g) h) hd
def iB (e:Gl X x)(d:X.mg x=Yb u)(r:RelV v u)(hd:(x == ("__debug__":Yg))=Ye:=by decide):PE X (.Name x pos) (tC v) :=
 λ_ _ _ H _ I h=>pW I e d #[v,H,I,r,h] hd
def Aw (g:Gl X x)(e:X.mg x=Yc)(d:Sy x=Yb u)(r:RelV v u)(hn:x≠"__name__":=by decide)(hd:(x == ("__debug__":Yg))=Ye:=by decide):PE X (.Name x pos) (tC v) :=
 λ_ _ _ H _ I h=>qR I g e d #[v,H,I,r,h] hn hd
meta def tB(t:TE):TT:=λd H Q=>t d H λx e=>∃c,x=.bl c/\Q c e
def tJ {e:Expr}{t:TE}(h:PE X e t)(p:∀g,isTrue e X.env g=(do let v ←g;UZ e.pos;Up [v] (truthy v)):=by intro _;rfl):PT X e (tB t):=by
 intro j s l H Q I o;calc isTrue_plain (cX (h j s l H _ I o) λv y ⟨x,u,r,m,q1⟩=>?_) (p _);let(d,rfl,q):=q1
 cases m
 calc Rl #[u,r,q]
abbrev ND(u:TT)(e:St)(Q:Bool->Hp->Prop):Bool->Hp->Prop:=λc d=>if c=Yd then u e d Q else Q Ye d
abbrev NF(u:TT)(e:St)(Q:Bool->Hp->Prop):Bool->Hp->Prop:=λc d=>if c=Yd then Q Yd d else u e d Q
abbrev Mw(t u:TT):TT:=λd H Q=>t d H (ND u d Q)
abbrev NG(t u:TT):TT:=λd H Q=>t d H (NF u d Q)
meta def Mx(t:TT):TT:=λd H Q=>t d H λc e=>Q (!c) e
def fQ {a:Expr}{pos:Pos}{tA:TT}(j:PT X a tA):PW X (.BoolOp .And [a] pos) tA:=by
 intro l d s g H Q I h;refine isTrue_and (cX (j d s g H Q I h) λc m e=>?_)
 cases c with
 |true=>calc isTrue_and_nil e
 |false=>calc e
def pA {a:Expr}{pos:Pos}{tA:TT}(j:PT X a tA):PW X (.BoolOp .Or [a] pos) tA:=by
 intro l d s g H Q I h;refine isTrue_or (cX (j d s g H Q I h) λc m e=>?_)
 cases c with
 |false=>calc isTrue_or_nil e
 |true=>calc e
def ir {a b:Expr}{pos:Pos}{tA tB':TT}{rest:Yi Expr}(p:PT X a tA)(o:PW X (.BoolOp .And (b::rest) pos) tB'):PW X (.BoolOp .And (a::b::rest) pos) (Mw tA tB'):=by
 intro l d s e H Q I h;refine isTrue_and (cX (p d s e H _ I h) λc m ⟨j,g,q1⟩=>?_)
 cases c with
 |true=>calc o l d m e j Q g q1
 |false=>calc#[j,g,q1]
def pX {a b:Expr}{pos:Pos}{tA tB':TT}{rest:Yi Expr}(p:PT X a tA)(o:PW X (.BoolOp .Or (b::rest) pos) tB'):PW X (.BoolOp .Or (a::b::rest) pos) (NG tA tB'):=by
 intro l d s e H Q I h;refine isTrue_or (cX (p d s e H _ I h) λc m ⟨j,g,q1⟩=>?_)
 cases c with
 |true=>calc#[j,g,q1]
 |false=>calc o l d m e j Q g q1
def zw {a:Expr}{pos:Pos}{tA:TT}(g:PT X a tA):PT X (.UnaryOp .Not a pos) (Mx tA):=by
 intro d s e H Q I h;calc isTrue_not (g d s e H (λc j=>Q (!c) j) I h)
meta def bA(K:bN)(H:Hp)(a:Yh)(xs:Yi V):Prop :=
 Rd H a (.Y xs) \/
  ∃(o:Obj) (d:Array eF) (n:Nat),K.lookup a=Yb o/\o.cls=.type "list"/\o.dict=Yc/\o.data=.seq d n/\d.size<=lj/\Vals xs d.toList
meta def bY(K:bN)(H:Hp)(a:Yh)(xs:Yi V):Prop :=
 Rd H a (.J xs) \/
  ∃(o:Obj) (d:Array eF) (n:Nat),K.lookup a=Yb o/\o.cls=.type "tuple"/\o.data=.seq d n/\d.size<=lj/\Vals xs d.toList/\o.dict=Yc
meta def My:eF->Option V
 |.none=>Yb .eR
 |.bool b=>Yb (.bl b)
 |.int i _=>Yb (.int i)
 |.str x _=>Yb (.str x)
 |.bytes b _=>Yb (.byt b)
 |.float b _=>Yb (.flt b)
 |.ref a=>Yb (.ref a)
 |.type n=>Yb (.ty n)
 |_=>Yc
def RelV.abs (r:RelV x u):My u=Yb x:=by
 cases x with
 |eR=>cases r;rfl
 |bl _=>cases r;rfl
 |int _=>let(t,rfl):=r;rfl
 |str _=>let(t,rfl):=r;rfl
 |byt _=>let(t,rfl):=r;rfl
 |flt _=>let(t,rfl):=r;rfl
 |ref _=>cases r;rfl
 |ty _=>cases r;rfl
def RelV.inj (r:RelV x u)(q:RelV y u):x=y:=OL (r.abs.symm.trans q.abs)
theorem Vals.inj :∀{xs ys:Yi V}{us:List eF},Vals xs us->Vals ys us->xs=ys
 |_,_,_,.nil,.nil=>rfl
 |_,_,_,.cons r t,.cons r' t'=>by rw[r.inj r',Vals.inj t t']
def bA.of {K:bN}(h:H a=Yb (.Y xs)):bA K H a xs:=.inl (.inl h)
def bY.of {K:bN}(h:H a=Yb (.J xs)):bY K H a xs:=.inl (.inl h)
def Inv.list (I:Inv X pins σ H s)(h:bA X.K H a xs):∃d:List eF,Vals xs d/\PlainL s.heap a d.toArray/\xs.length<=lj:=by
 rcases h with h|⟨o,d,n,hk,hc,hd,hs,hz,r⟩
 .have(z,d,n,r,e):=h.ok I.hok;exact#[d,r,#[_,n,e,rfl,rfl,rfl],z]
 .refine#[d.toList,r,#[o,n,I.tG a o hk,hc,hd,by simpa using hs],?_];let e:=r.length;simp only[Qx]at e;omega
def Inv.tuple (I:Inv X pins σ H s)(h:bY X.K H a xs):∃d:List eF,Vals xs d/\WB s.heap a d.toArray/\xs.length<=lj:=by
 rcases h with h|⟨o,d,n,hk,hc,hs,hz,r,_⟩
 .have(z,d,r,p,_):=h.ok I.hok;exact#[d,r,p,z]
 .refine#[d.toList,r,#[o,I.tG a o hk,hc,n,by simpa using hs],?_];let e:=r.length;simp only[Qx]at e;omega
def Inv.ye (I:Inv X pins σ H s)(h:bA X.K H a xs)(h':bA X.K H a ys):xs=ys:=by
 let(j,r,(o,n,e,_,_,d),_):=I.list h;let(g,p,(q,t,l,_,_,m),_):=I.list h';rw[e]at l;cases l;rw[d]at m;injection m with d1 _;let:j=g:=by simpa using congrArg Array.toList d1
 subst this;calc r.inj p
def Inv.qS (I:Inv X pins σ H s)(h:bY X.K H a xs)(h':bY X.K H a ys):xs=ys:=by
 let(j,r,(o,e,_,n,d),_):=I.tuple h;let(g,p,(q,l,_,t,m),_):=I.tuple h';rw[e]at l;cases l;rw[d]at m;injection m with d1 _;let:j=g:=by simpa using congrArg Array.toList d1
 subst this;calc r.inj p
meta abbrev Cx.jC(X:Cx)(E:eF->fy->Prop):Cx:={X with xe:=E}
meta abbrev Cx.pB(X:Cx):Cx:=X.jC λ_ _=>False
def Cx.Ok.jC {X:Cx}(ok:X.Ok)(E:eF->fy->Prop):(X.jC E).Ok :=
 #[ok.mod,ok.kind,ok.glob,ok.blt,ok.above,ok.inj,ok.has,ok.cab,ok.hd,ok.frames,ok.stk,ok.exf,ok.bs,ok.bsz,ok.noex,ok.exfs,ok.qQ,ok.frf]
def Cx.Ok.fH {X:Cx}(ok:(X.jC E).Ok):X.Ok :=
 #[ok.mod,ok.kind,ok.glob,ok.blt,ok.above,ok.inj,ok.has,ok.cab,ok.hd,ok.frames,ok.stk,ok.exf,ok.bs,ok.bsz,ok.noex,ok.exfs,ok.qQ,ok.frf]
def Inv.jC (I:Inv X pins σ H s)(E:eF->fy->Prop):Inv (X.jC E) pins σ H s:=#[I.ok.jC E,I.os,I.bare,I.base,I.loc,I.cell,I.free,I.freeC,I.pin,I.hok,I.len]
def Inv.fH (I:Inv (X.jC E) pins σ H s):Inv X pins σ H s:=#[I.ok.fH,I.os,I.bare,I.base,I.loc,I.cell,I.free,I.freeC,I.pin,I.hok,I.len]
def SP.fH (h:SP (X.jC E) pins D f s'):SP X pins D f s':=by
 cases f with
 |next=>let(d,e,I,q):=h;calc#[d,e,I.fH,q]
 |brk=>let(d,e,I,q):=h;calc#[d,e,I.fH,q]
 |cont=>let(d,e,I,q):=h;calc#[d,e,I.fH,q]
 |ret u=>let(v,d,e,I,r,q):=h;calc#[v,d,e,I.fH,r,q]
def rL.pB {st:Yi Stmt}(h:rL X.pB st t):rL X st t:=λpins s σ H D I d =>
 O1 (h pins s σ H D (I.jC _) d) (λ_ _ q=>q.fH) λ_ _ z=>P7 z
meta def Ii:TS:=λD d H=>D.nx d H
meta abbrev Ends.wn(D:Ends)(N:St->Hp->Prop):Ends:={D with nx:=N}
meta def bf(t u:TS):TS:=λD d H=>t (D.wn (u D)) d H
def kO :rL X [] Ii:=λ_ _ d H _ I h=>Tn #[d,H,I,h]
def eI {st:Stmt}{rest:Yi Stmt}{t u:TS}(o:PS X st t)(m:rL X rest u):rL X (st::rest) (bf t u):=by
 intro d s j H D I h;refine UL (cX (o d s j H {D with nx:=u D} I h) λf l q=>?_)
 cases f with
 |next =>
  let(g,r,p,q):=q;calc m d l g r D p q
 |ret v=>calc q
 |brk=>calc q
 |cont=>calc q
def cA {st:Stmt}{t:TS}(j:PS X st t):rL X [st] t:=by
 intro d s g H D I h;refine UL (cX (j d s g H D I h) λf l q=>?_)
 cases f with
 |next=>calc Tn q
 |ret v=>calc q
 |brk=>calc q
 |cont=>calc q
def Inv.quiet (I:Inv X d g H s):interactive X.env=Ye:=by simp[interactive,I.ok.kind]
abbrev NH(d:St)(N:St->Hp->Prop):VK:=λ_ g=>N d g
abbrev KZ(te:TE):TS:=λD d H=>te d H (NH d D.nx)
def Ff {e:Expr}{te:TE}{pos:Pos}(j:PE X e te)(hs:S3 e Yc pos.line X.env=pure Ye:=by rfl):PS X (.Expr e pos) (KZ te):=by
 intro d s g H D I h;calc wpAny_Expr_any (cX (j d s g H _ I h) λv o ⟨x,m,l,p,q1⟩=>#[g,m,l,q1]) I.quiet hs
abbrev IU(te:TE):TS:=λD d H=>te d H D.rt
def cS {e:Expr}{te:TE}{pos:Pos}(l:PE X e te):PS X (.Return (Yb e) pos) (IU te):=by
 intro d s g H D I h;calc wpAny_Return_some (cX (l d s g H _ I h) λv p ⟨x,o,m,j,q1⟩=>#[x,g,o,m,j,q1])
abbrev NI(t u:TS)(D:Ends)(d:St):Bool->Hp->Prop:=λb g=>if b=Yd then t D d g else u D d g
abbrev IV(c:TT)(t u:TS):TS:=λD d H=>c d H (NI t u D d)
def pY {t u:TS}{pos:Pos}{c:Expr}{a b:Yi Stmt}{l:TT}(q:PT X c l)(v:rL X a t)(r:rL X b u):PS X (.If c a b pos) (IV l t u):=by
 intro g s j H D I h;refine wpAny_If (cX (q g s j H _ I h) λd m ⟨p,o,q1⟩=>?_)
 cases d with
 |true=>calc v g m j p D o q1
 |false=>calc r g m j p D o q1
abbrev TG:=V->St->Hp->(St->Hp->Prop)->Prop
abbrev Fg:=Yi V->St->Hp->(St->Hp->Prop)->Prop
meta def PG(X:Cx)(d:Expr)(t:TG):Prop :=
 ∀(e:Yi (Yh×Obj)) (s:fy) (j:St) (H:Hp) (v:V) (u:eF) (Q:St->Hp->Prop),Inv X e j H s->RelV v u->t v j H Q ->
  OH (OM X.prog X.w) X.A (TQ d X.env u) (λ_ m=>∃g l,Inv X e g l m/\Q g l) X.xe s
meta def K0(X:Cx)(o:Yi Expr)(t:Fg):Prop :=
 ∀(d:Yi (Yh×Obj)) (s:fy) (g:St) (H:Hp) (j:Yi V) (l:List eF) (Q:St->Hp->Prop),Inv X d g H s->Vals j l->t j g H Q ->
  OH (OM X.prog X.w) X.A (VN ((Se o X.env).map (·.2)) l) (λ_ p=>∃e m,Inv X d e m p/\Q e m) X.xe s
abbrev IW:=V->V->V->Hp->(Hp->Prop)->Prop
meta def K1(X:Cx)(t:IW):Prop :=
 ∀(d:Yi (Yh×Obj)) (s:fy) (e:St) (H:Hp) (o i v:V) (g j u:eF) (Q:Hp->Prop),Inv X d e H s->RelV o g->RelV i j->RelV v u->t o i v H Q ->
  OH (OM X.prog X.w) X.A (setItem g j u) (λ_ m=>∃l,Inv X d e l m/\Q l) X.xe s
abbrev iJ(i:Nat):TG:=λv d H Q=>Q (d.set i (Yb v)) H
def lW {pos:Pos}{i:Nat}{x:Yg}(j:X.N.Nodup)(hi:X.N[i]?=Yb x)(e:Loc X.env.scope x)(g:X.fn x=Yd\/X.env.scope.names.lookup x=Yb .local:=by first|calc .inl rfl|calc .inr rfl|assumption):PG X (.Name x pos) (iJ i):=by
 intro d s m H v u Q I r h;calc wpAny_assign_Name (lD I j hi e r (λo l=>#[_,H,l,h]) g)
meta def IX:Fg:=λe d H Q=>e=[]/\Q d H
abbrev NJ(u:Fg)(r:Yi V)(Q:St->Hp->Prop):St->Hp->Prop:=λd e=>u r d e Q
meta def tK(t:TG)(u:Fg):Fg:=λe d H Q=>∃v r,e=v::r/\t v d H (NJ u r Q)
def wL :K0 X [] IX:=by
 intro d s g H j l Q I r h;let(e,h):=h;subst e
 cases r
 calc assignInOrder_nil #[g,H,I,h]
def pZ {e:Expr}{g:Yi Expr}{t:TG}{u:Fg}(p:PG X e t)(o:K0 X g u)(hs:(Se (e::g) X.env).map (·.2)=TQ e X.env::(Se g X.env).map (·.2):=by rfl):K0 X (e::g) (tK t u):=by
 intro d s l H B D Q I r h;let(v,C,q,h):=h;subst q
 cases r with
 |cons r rr =>
  rw[hs];calc TU (cX (p d s l H _ _ _ I r h) λ_ m ⟨j,z,y,q1⟩=>?_);calc o d m j z _ _ Q y rr q1
meta def Fi(K:bN)(n:Nat)(t:Fg):TG:=λv e H Q=>∃a d,v=.ref a/\bY K H a d/\d.length=n/\t d e H Q
def IY (D:X.calm=Yd)(h:K0 X g t)(hn:(Se g X.env).length=n:=by rfl)(hst:(Se g X.env).findIdx? (·.1)=Yc:=by rfl):PG X (.Tuple g k pos) (Fi X.K n t):=by
 intro d s l H v u Q I r j;let(a,p,J,B,C,j):=j;subst J
 cases r
 let(q,m,z,M):=I.tuple B;calc assign_Tuple_tuple (I.ok.hd D) z (by simp[hn,<-C,m.length]) hst λG y=>?_;let L:Inv X d l H {s with heap:=G}:=I.kept (t':=s.toks) λb o e=>y b o (OZ (OG e)) e;calc h d _ l H p _ Q L (by simpa using m) j
meta def Mz(e g:TE)(t:IW):TG:=λv d H Q=>e d H λo m=>g d m λi l=>t o i v l λj=>Q d j
def pH (D:PE X o l)(hi:PE X i m)(hs:K1 X t)(ha:∀v,TQ (.Subscript o i pos) X.env v=(do
   let e ←Up [v] (eval o X.env)
   let g ←Up [v,e] (eval i X.env)
   UZ pos
   Up [v,e,g] (setItem e g v)
   release [v,e,g] []):=by intro _;rfl):PG X (.Subscript o i pos) (Mz l m t):=by
 intro d s j H v u Q I r h;rw[ha];calc cB (PY (cX (D d s j H _ I h) λe q ⟨x,O,L,z,q1⟩=>?_));calc cB (PY (cX (hi d q j O _ L q1) λg p ⟨y,N,J,r2,C⟩=>?_));calc cB (Qf (cB (PY (cX (hs d p j N x y v e g u _ J z r2 r C) λ_ R ⟨M,G,B⟩=>?_))));calc wpAny_release #[j,M,G,B]
abbrev Nc(g:TG)(d:St)(N:St->Hp->Prop):VK:=λx e=>g x d e N
abbrev wM(e:TE)(g:TG):TS:=λD d H=>e d H (Nc g d D.nx)
def iD {pos:Pos}{tg e:Expr}{l:TE}{g:TG}(t:PE X e l)(r:PG X tg g)(hs:swapsWithSole [tg] e pos.line X.env=pure Ye:=by rfl)(p:swappedStores [tg] e X.env=pure Yc:=by rfl)(h1:(Se [tg] X.env).map (·.2)=[TQ tg X.env]:=by rfl):PS X (.Assign [tg] e pos) (wM l g):=by
 intro d s j H D I h;calc wpAny_Assign_stores (cX (t d s j H _ I h) λv m ⟨x,y,u,o,q1⟩=>?_) hs p;rw[h1];calc cX (r d m j y x v _ u o q1) λ_ z q=>q
def lX (r:X.N.Nodup)(hi:X.N[i]?=Yb x)(o:Loc X.env.scope x)(q:PE X e j)(hs:S3 e (Yb (.Name x d)) pos.line X.env=pure Ye:=by rfl)(p:X.fn x=Yd\/X.env.scope.names.lookup x=Yb .local:=by first|calc .inl rfl|calc .inr rfl|assumption):
  PS X (.Assign [.Name x d] e pos) (wM j (iJ i)):=by
 intro g s l H D I h;calc wpAny_Assign_Name (cX (q g s l H _ I h) λv C ⟨y,z,u,m,q1⟩=>?_) hs;calc lD u r hi o m (λB t=>#[_,z,t,q1]) p
meta def MB(i j:Nat)(ta:TA):TS:=λD d H=>ta d H λe g=>∃v w,e=[v,w]/\D.nx ((d.set i (Yb v)).set j (Yb w)) g
def CP {pos:Pos}{i j:Nat}{x y:Yg}{a b:Expr}{ta:TA}{t py pt:Pos}{kt k2 pt2}(R:X.calm=Yd)(C:X.N.Nodup)(hi:X.N[i]?=Yb x)(Q:X.N[j]?=Yb y)(z:i≠j)(hx:X.env.scope.names.lookup x=Yb .local)(hy:X.env.scope.names.lookup y=Yb .local)(ha:PA X [a,b] ta)(hw:swappedStores [.Tuple [.Name x t,.Name y py] kt pt] (.Tuple [a,b] k2 pt2) X.env=pure (Yb [x,y]))(hs:swapsWithSole [.Tuple [.Name x t,.Name y py] kt pt] (.Tuple [a,b] k2 pt2) pos.line X.env=pure Ye:=by rfl):
  PS X (.Assign [.Tuple [.Name x t,.Name y py] kt pt] (.Tuple [a,b] k2 pt2) pos) (MB i j ta):=by
 intro d s B H D I h;rw[exec_Assign_arm];calc cB (Qf ?_);rw[hs];calc cB (pC ?_);rw[if_neg (by decide)];calc cB (Tuple_ (cX (ha _ d s B H _ I h) λL m ⟨Y,J,W,O,q1⟩=>?_));let(v,w,S,q1):=q1;subst S
 obtain⟨l,g,rfl,M,r⟩:∃l g,L=[l,g]/\RelV v l/\RelV w g:=by
  cases O with
  |cons p q =>
   cases q with
   |cons p' q' =>
    cases q'
    exact#[_,_,rfl,p,p']
 calc Pr ?_ (by show 2<=lj;decide);let V:Inv X d B J {m with heap:=m.heap.push {cls:=.type "tuple",data:=.seq [l,g].toArray}}:=W.kept (t':=m.toks) λb o e=>mH _ e;rw[hw];calc cB (pC ?_);show OH (OM X.prog X.w) X.A (do rule "assign.swapped-stores";let items ←unpackItems (.ref m⁻¹) 2 Yc;VN [λv=>Vm X.env y v,λv=>Vm X.env x v] items.reverse;pure Flow.next) _ _ _;calc cB (TV (cB (unpackItems_tuple (items:=#[l,g,]) (I.ok.hd R) (UM m.heap _) λh' u=>?_)));let U:=V.kept (h':=h') (t':=m.toks) λb o e=>u b o (OZ (OG e)) e;show OH _ _ (VN [λv=>Vm X.env y v,λv=>Vm X.env x v] [g,l]>>=λ_=>pure Flow.next) _ _ _;calc cB (TU (Vn (lD U C Q (.inl hy) r (λs2 T=>?_) (.inr hy))));calc TU (Vn (lD T C hi (.inl hx) M (λZ G=>assignInOrder_nil (pC ?_)) (.inr hx)));rw[List.set_comm _ _ (Rj z)]at G;calc#[_,J,G,q1]
meta def IZ(c:TT)(o:TS):TS:=λD d H=>∃W:Nat->St->Hp->Prop,(∃m,W m d H)/\∀m d H,W m d H ->
 c d H λb j=>if b=Yd then ∃N:St->Hp->Prop,(∀e l,N e l->∃g,g < m/\W g e l)/\o {D with nx:=N,ct:=N,bk:=D.nx} d j else D.nx d j
def tL {pos:Pos}{c:Expr}{j:Yi Stmt}{B:TT}{C:TS}(G:PassesOwn (OM X.prog X.w) X.A X.env X.xe)(Z:PT X c B)(hb:rL X j C):PS X (.While c j [] pos) (IZ B C):=by
 intro e s R H D I h;let(W,(Y,T),m):=h;calc wpAny_While (codeAny_whileLoop (λn V=>∃l Q,Inv X e l Q V/\W n l Q) ?_ Y #[R,H,I,T]);rintro n s1 ⟨g,O,I1,S⟩;refine Rg G (cX (Z e s1 g O _ I1 (m n g O S)) λb U ⟨M,L,q⟩=>?_)
 cases b with
 |true =>
  let(N,J,q):=q;rw[if_pos rfl];refine Rg G (cX (hb e U g M _ L q) λf s3 p=>?_)
  cases f with
  |next =>
   let(d,o,z,t):=p;let(u,y,r):=J d o t;calc#[u,y,d,o,z,r]
  |cont =>
   let(d,o,z,t):=p;let(u,y,r):=J d o t;calc#[u,y,d,o,z,r]
  |brk=>calc p
  |ret v=>calc p
 |false =>
  rw[if_neg OP];calc Tn #[g,M,L,q]
structure It where
 go:Nat->Hp->Prop
 yld:Nat->Hp->V->Hp->Prop
 stop:Nat->Hp->Prop
meta def qb(X:Cx)(d:Yi (Yh×Obj))(H:Hp)(b:Yh):Prop :=
 H b=Yc/\b≠X.env.locals/\b∉X.fs/\(b∈X.ex\/X.s₀.heap.objs.size<=b)/\(∀x c,X.env.cells.lookup x=Yb c->c≠b)/\∀p∈X.pn++d,p.1≠b
def Inv.By (I:Inv X d l H s)(g:s⁻¹<=b)(hn:j b=Yc):qb X d j b:=by
 refine#[hn,Sz (OJ I.lt g),I.Fd g,.inr (OX I.sz g),λx c e z=>?_,λp m z=>?_]
 .have(v,q):=I.cell x c e;exact absurd (OJ q.lt (by rw[z];calc g)) (PN _)
 .exact absurd (OJ (OG (I.pin p m).1) (by rw[z];calc g)) (PN _)
structure Turn(P:we) (w:OR) (K:bN) (tg:Expr) (J:It) (fp:Yi Yh) (it:Yh) (tn:Nat->Heap->Prop):Prop where
 mem:it∈fp
 obj:∀i h,tn i h->∀b∈fp,∃o,h.get? b=Yb o/\∀v,o.data≠.cell v
 keep:∀i h h',tn i h->(∀b∈fp,∀o,h.get? b=Yb o->h'.get? b=Yb o)->tn i h'
 item:∀(X:Cx),X.prog=P->X.w=w->X.K=K->X.calm=Yd->∀(i:Nat) (pins:Yi (Yh×Obj)) (s:fy) (σ:St) (H:Hp) (E:eF->fy->Prop),Inv X pins σ H s->(∀b∈fp,qb X pins H b)->tn i s.heap->J.go i H ->
  OH (OM P w) X.A (S4 (.ref it)) (λr s1=>∃u,r=Yb u /\
   OH (OM P w) X.A (Qy tg (.ref it) u) (λ_ s2=>∃x H',Inv X pins σ H' s2/\RelV x u/\J.yld i H x H'/\tn (i+1) s2.heap/\∀b∈fp,H' b=Yc) E s1) E s
 done:∀(X:Cx),X.prog=P->X.w=w->X.K=K->X.calm=Yd->∀(i:Nat) (pins:Yi (Yh×Obj)) (s:fy) (σ:St) (H:Hp) (E:eF->fy->Prop),Inv X pins σ H s->(∀b∈fp,qb X pins H b)->tn i s.heap->J.stop i H ->
  OH (OM P w) X.A (S4 (.ref it)) (λr s1=>r=Yc/\Inv X pins σ H s1) E s
 self:∀(A:OW) (i:Nat) (s:fy) (Q:eF->fy->Prop) (E:eF->fy->Prop),tn i s.heap->Q (.ref it) s->OH (OM P w) A (Vo (.ref it)) Q E s
abbrev TI:=St->Hp->(It->Hp->Prop)->Prop
meta def Nd(X:Cx)(d:Yi (Yh×Obj))(p:St)(tg:Expr)(R:It->Hp->Prop)(e:eF)(l:fy):Prop :=
 ∃(m:Yh) (o:Yi Yh) (j:Nat->Heap->Prop) (J:It) (g:Hp),e=.ref m/\Inv X d p g l/\Turn X.prog X.w X.K tg J o m j/\j 0 l.heap/\(∀b∈o,qb X d g b)/\R J g
meta def PI(X:Cx)(tg iter:Expr)(g:TI):Prop :=
 ∀(d:Yi (Yh×Obj)) (s:fy) (e:St) (H:Hp) (R:It->Hp->Prop),Inv X d e H s->g e H R ->
  OH (OM X.prog X.w) X.A (eval iter X.env) (λv j=>OH (OM X.prog X.w) X.A (Vo v) (Nd X d e tg R) X.xe j) X.xe s
def CQ (d : s.heap.get? it = Yb o)(e : o.cls = .type n)(hd : o.data = .fields vs)(hn : ["enumerate", "zip", "dict_itemiterator", "dict_reverseitemiterator", "odict_iterator", "itertools.zip_longest", "itertools.pairwise"].contains n = Ye)(hQ : Q Unit.unit s): OH M A (Qy tg (.ref it) u) Q E s := by
  unfold Qy
  cases tg <;> first
    | calc pC hQ
    | (cases u <;> first
        | calc pC hQ
        | (refine cB (wpAny_load d ?_)
           rw [e, hd];show OH M A (if (["enumerate", "zip", "dict_itemiterator", "dict_reverseitemiterator", "odict_iterator", "itertools.zip_longest", "itertools.pairwise"].contains n && vs[0]? == Yb (RK _)) = Yd then _ else _) Q E s;rw [if_neg (by intro h; rw [hn, Bool.false_and] at h; cases h)];calc pC hQ))
meta def Ij(K:bN)(a:Yh):It :=
 #[λi H=>∃d x,bA K H a d/\d[i]?=Yb x,λi H x e=>e=H/\∀d,bA K H a d->d[i]?=Yb x,λi H=>∃d,bA K H a d/\d.length<=i]
meta def Ax(K:bN)(a:Yh):It :=
 #[λi H=>∃d x,bY K H a d/\d[i]?=Yb x,λi H x e=>e=H/\∀d,bY K H a d->d[i]?=Yb x,λi H=>∃d,bY K H a d/\d.length<=i]
meta def I9(d:Int)(n:Nat):It:=#[λi _=>i<n,λi H x e=>e=H/\x=.int (d+i),λi _=>n<=i]
def BA {K:bN}(a it:Yh):Turn P w K tg (Ij K a) [it] it (λi h=>h.IsListIter it a i) where
 mem:=by simp
 obj:=λi h g b l=>by
  let e:b=it:=by simpa using l
  subst e;let(o,e,c,d):=g;exact#[o,e,λv z=>by rw[d]at z;cases z]
 keep:=λi h t g k=>g.at λo e=>k it (by simp) o e
 item:=by
  intro X J D L T i j s S H E I r g G;subst J D L;let(U,x,q,C):=G;let(B,y,p,Z):=I.list q;let(u,hu,Y):=y.get C;let(R,Q,f2,O,N,M):=r it (by simp);calc wpAny_pyNext_list_item g p.isList (x:=u) (by simpa using hu) λt m V=>?_;let I1:Inv X j S H {s with heap:=t}:=I.turned (t':=s.toks) (λb o l e=>(V.2 b l).trans e) R Q O N M;let(o,e,c,d):=id m;exact#[u,rfl,CQ (s:={s with heap:=t}) e c d (by decide) #[x,H,I1,Y,#[rfl,λys hy=>by rw[I.ye hy q];calc C],m,λb l=>(r b l).1]]
 done:=by
  intro X J D L T i j s S H E I r g G;subst J D L;let(U,q,C):=G;let(B,y,p,Z):=I.list q;let(R,Q,f2,O,N,M):=r it (by simp);let hl:=y.length;exact wpAny_pyNext_list_end (I.ok.hd T) g p.isList (by simp;omega) λt eb=>#[rfl,I.turned (t':=s.toks) (λb o l e=>eb b o l e) R Q O N M]
 self:=λ_ _ _ _ _ g h=>wpAny_pyIter_listiter g h
def zx {K:bN}(a it:Yh):Turn P w K tg (Ax K a) [it] it (λi h=>h.IsTupleIter it a i) where
 mem:=by simp
 obj:=λi h g b m=>by
  let e:b=it:=by simpa using m
  subst e;let(o,e,c,d):=g;exact#[o,e,λv z=>by rw[d]at z;cases z]
 keep:=λi h y g k=>g.at λo e=>k it (by simp) o e
 item:=by
  intro X J D L T i j s S H E I t g G;subst J D L;let(U,x,r,C):=G;let(l,B,p,Z):=I.tuple r;let(u,hu,Y):=B.get C;let(R,Q,f2,O,N,M):=t it (by simp);calc wpAny_pyNext_tuple_item g (show s.heap.IsTuple a l.toArray from p) (x:=u) (by simpa using hu) λy q V=>?_;let I1:Inv X j S H {s with heap:=y}:=I.turned (t':=s.toks) (λb o m e=>(V.2 b m).trans e) R Q O N M;let(o,e,c,d):=id q;exact#[u,rfl,CQ (s:={s with heap:=y}) e c d (by decide) #[x,H,I1,Y,#[rfl,λys hy=>by rw[I.qS hy r];calc C],q,λb m=>(t b m).1]]
 done:=by
  intro X J D L T i j s S H E I t g G;subst J D L;let(U,r,C):=G;let(l,B,p,Z):=I.tuple r;let(R,Q,f2,O,N,M):=t it (by simp);let hl:=B.length;exact wpAny_pyNext_tuple_end (I.ok.hd T) g (show s.heap.IsTuple a l.toArray from p) (by simp;omega) λy eb=>#[rfl,I.turned (t':=s.toks) (λb o m e=>eb b o m e) R Q O N M]
 self:=λ_ _ _ _ _ g h=>wpAny_pyIter_tupleiter g h
def zA {K:bN}(it:Yh)(m:Int)(n:Nat):Turn P w K tg (I9 m n) [it] it (λi h=>IsRangeIter h it (m+(i:Nat)*1) ((n:Int) - (i:Nat)) 1) where
 mem:=by simp
 obj:=λi h d b j=>by
  let e:b=it:=by simpa using j
  subst e
  exact#[_,d,λv z=>by
   let Q:Data.fields _=Data.cell v:=z
   cases Q]
 keep:=λi h q d k=>k it (by simp) _ d
 item:=by
  intro X B r C y i g s N H E I p d u;subst B r C;let(M,L,T,J,G,D):=p it (by simp);let W:=Walks.range (prog:=X.prog) (w:=X.w) (I.ok.hd y) it m 1 n;calc W.item i s _ _ u d λv q O S l R=>?_;let(t,rfl):=S;let V:Inv X g N H {s with heap:=q,toks:=O}:=I.turned (λb o j e=>R b o (by simpa using j) e) M L J G D;calc#[_,rfl,CQ (s:={s with heap:=q,toks:=O}) (n:="range_iterator") l rfl rfl (by decide) #[.int (m+i),H,V,#[t,?_],#[rfl,rfl],l,λb j=>(p b j).1]];rw[Int.mul_one]
 done:=by
  intro X B r C y i g s N H E I p d u;subst B r C;let(M,L,T,J,G,D):=p it (by simp);exact wpAny_pyNext_range_end (I.ok.hd y) d (by let:n<=i:=u;omega) λq U=>#[rfl,I.turned (t':=s.toks) (λb o j e=>U b o j e) M L J G D]
 self:=λ_ _ _ _ _ d h=>wpAny_pyIter_rangeiter d h
meta def K2(K:bN)(tl:TE):TI:=λe H R=>tl e H λx d=>∃a,x=.ref a/\(∃g,bA K d a g)/\R (Ij K a) d
meta def Ja(K:bN)(tl:TE):TI:=λe H R=>tl e H λx d=>∃a,x=.ref a/\(∃g,bY K d a g)/\R (Ax K a) d
def jT {tg:Expr}{l:Expr}{tl:TE}(y:PE X l tl):PI X tg l (K2 X.K tl):=by
 intro d s m H R I h;calc cX (y d s m H _ I h) λv g ⟨x,B,j,r,q1⟩=>?_;let(a,e,(C,u),q):=q1;subst e
 cases r
 let(t,D,p,G):=j.list u;calc SA p.isList ?_;calc#[g⁻¹,[g⁻¹],_,_,B,rfl,j.kept (t':=g.toks) λb o e=>mH _ e,BA a _,#[_,OI _ rfl,rfl,rfl],λb z=>?_,q];let e:b=g⁻¹:=by simpa using z
 subst e;calc j.By (i5 _) (j.hok.fresh (i5 _))
def cG {tg:Expr}{l:Expr}{tl:TE}(y:PE X l tl):PI X tg l (Ja X.K tl):=by
 intro g s r H R I h;calc cX (y g s r H _ I h) λv d ⟨x,B,j,t,q1⟩=>?_;let(a,e,(C,u),q):=q1;subst e
 cases t
 let(m,D,p,G):=j.tuple u;calc wpAny_pyIter_tuple (show d.heap.IsTuple a m.toArray from p) ?_;calc#[d⁻¹,[d⁻¹],_,_,B,rfl,j.kept (t':=d.toks) λb o e=>mH _ e,zx a _,#[_,OI _ rfl,rfl,rfl],λb z=>?_,q];let e:b=d⁻¹:=by simpa using z
 subst e;calc j.By (i5 _) (j.hok.fresh (i5 _))
def CS (I:Inv X g j H s)(B:-(2 ^ 62)<=d)(z:d<2 ^ 62)(y:-(2 ^ 62)<=hi)(r:hi<2 ^ 62)(q:R (I9 d (hi-d).toNat) H):OH (OM X.prog X.w) X.A (Vo (.ref s⁻¹)) (Nd X g j tg R) E {s with heap:=s.heap.push {cls:=.type "range",data:=.fields #[.int d t,.int hi u,.int 1 v,]},toks:=l}:=by
 calc wpAny_pyIter_range (IsRange.new ..) (small_one B z y r) ?_;let m:Inv X g j H {s with heap:=s.heap.push {cls:=.type "range",data:=.fields #[.int d t,.int hi u,.int 1 v,]},toks:=l}:=I.kept λb o e=>mH _ e
 refine#[(s.heap.push {cls:=.type "range",data:=.fields #[.int d t,.int hi u,.int 1 v,]}).objs.size,[(s.heap.push {cls:=.type "range",data:=.fields #[.int d t,.int hi u,.int 1 v,]}).objs.size],_,_,H,rfl,
  m.kept (t':=l) λb o e=>mH _ e,zA _ d (hi-d).toNat,?_,λb p=>?_,q]
 .have D:d+((0:Nat):Int)*1=d:=by simp
  let C:(((hi-d).toNat:Nat):Int) - ((0:Nat):Int)=Ry.Range.rangeSize d hi 1:=by rw[rangeSize_one];split<;>omega
  show IsRangeIter _ _ (d+((0:Nat):Int)*1) ((((hi-d).toNat:Nat):Int) - ((0:Nat):Int)) 1;rw[D,C];exact OI _ rfl
 .have e:b=(s.heap.push {cls:=.type "range",data:=.fields #[.int d t,.int hi u,.int 1 v,]}).objs.size:=by simpa using p
  subst e;calc m.By (i5 _) (m.hok.fresh (i5 _))
meta def K7(ta:TA):TI:=λd H R=>ta d H λe g=>∃j:Int,e=[.int j]/\-(2 ^ 62)<=j/\j<2 ^ 62/\R (I9 0 j.toNat) g
def vC {tg:Expr}{a:Expr}{ta:TA}{p pos:Pos}(u:Gl X "range")(o:X.mg "range"=Yc)(v:PA X [a] ta)(hs:PB [a] X.env=[(Ye,eval a X.env)]:=by rfl):PI X tg (.Call (.Name "range" p) [a] [] pos) (K7 ta):=by
 intro d s g H R I h;calc Call_ (qR I u o boot_range (QU (cX (v pos d s g H _ I h) λB C ⟨z,D,y,l,q1⟩=>?_) hs rfl));let(j,e,q1,m,q):=q1;subst e
 cases l with
 |cons r rr =>
  cases rr
  let(t,rfl):=r;calc call_range_1 (CS y () () q1 m (by simpa using q))
meta def MC(p:TI)(g:TG)(q:TS):TS:=λD d H=>p d H λJ t=>∃W:Nat->Nat->St->Hp->Prop,(∃m,W 0 m d t)/\∀i m d H,W i m d H ->
 (J.stop i H/\D.nx d H)\/(J.go i H/\∃N:St->Hp->Prop,(∀e j,N e j->∃o,o < m/\W (i+1) o e j)/\∀x j,J.yld i H x j->g x d j λl r=>q {D with nx:=N,ct:=N,bk:=D.nx} l r)
meta def pI(d:Yi Yh)(h:Heap):Yi (Yh×Obj):=d.filterMap λb=>(h.get? b).map λo=>(b,o)
def fc (g:b∈d)(e:h.get? b=Yb o):(b,o)∈pI d h:=TX.mpr #[b,g,by rw[e];rfl]
def vD (g:p∈pI d h):p.1∈d/\h.get? p.1=Yb p.2:=by
 let(b,j,e):=TX.mp g
 cases q:h.get? b with
 |none=>rw[q]at e;cases e
 |some o =>
  rw[q]at e;let l:(b,o)=p:=OL e;subst l;calc#[j,q]
def Inv.pinned (I:Inv X g l H s)(u:∀b∈j,qb X g H b)(t:∀b∈j,∃o,s.heap.get? b=Yb o/\∀v,o.data≠.cell v):Inv X (g++pI j s.heap) l H s :=
 I.fB λp r=>(IF.mp r).elim (λz=>I.pin p (rj _ z)) λz=>by
  let(m,e):=vD z;let(C,B,y,_):=u p.1 m;let(o,q,d):=t p.1 m;rw[e]at q;cases q;calc#[e,C,B,y,d]
def Inv.tM (I:Inv X (d++pl) e H s):Inv X d e H s:=I.fB λp g=>I.pin p (rj _ (O4 _ g))
def Jb {tg:Expr}{iter:Expr}{L:Yi Stmt}{wi:TI}{g:TG}{tb:TS}{pos:Pos}(S:PassesOwn (OM X.prog X.w) X.A X.env X.xe)(hc:X.calm=Yd)(hi:PI X tg iter wi)(hg:PG X tg g)(y:rL X L tb)(hs:∀x,Pg iter X.env x=pure x:=by intro _;rfl):PS X (.For tg iter L [] pos) (MC wi g tb):=by
 intro l s σ H D I h;calc wpAny_For (cX (hi l s σ H _ I h) λv s1 h1=>cX h1 λad s2 h2=>?_) hs;let(it,V,tn,J,H2,e,I2,T,aa,f2,W,(m0,w0),O):=h2;subst e
 let t:∀{C:Hp},(∀b∈V,C b=Yc)->∀b∈V,qb X l C b:=λhn b y=>#[hn b y,(f2 b y).2];calc codeAny_forLoop_any (λn s'=>∃i q C,Inv X l q C s'/\tn i s'.heap/\(∀b∈V,C b=Yc)/\W i n q C) ?_ m0 #[0,σ,H2,I2,aa,λb y=>(f2 b y).1,w0];rintro n s3 ⟨i,p,Y,I3,Q,U,w3⟩;rcases O i n p Y w3 with⟨stop,qn⟩|⟨go,N,hN,step⟩
 .refine Rg S (cX (T.done X rfl rfl rfl hc i l s3 p Y X.xe I3 (t U) Q stop) λr s4 ⟨hr,I4⟩=>?_);subst hr;exact Tn #[p,Y,I4,qn]
 .refine Rg S (cX (T.item X rfl rfl rfl hc i l s3 p Y X.xe I3 (t U) Q go) λr s4 ⟨u,hr,h4⟩=>?_);subst hr;calc Rg S (cX h4 λ_ s5 ⟨x,H5,I5,r5,y5,M,ab⟩=>?_);let ac:=I5.pinned (t ab) (T.obj _ _ M);calc Rg S (cX (hg _ s5 p H5 x u _ ac r5 (step x H5 y5)) λ_ s6 ⟨Z,H6,I6,q6⟩=>?_);refine Rg S (cX (y _ s6 Z H6 _ I6 q6) λf s7 G=>?_)
  let again:∀{j:St}{B:Hp},Inv X (l++pI V s5.heap) j B s7->N j B->∃m,m<n/\∃i q C,Inv X l q C s7/\tn i s7.heap/\(∀b∈V,C b=Yc)/\W i m q C:=λ{j B} z R=>by
   let(m',hm,w7):=hN j B R;calc#[m',hm,i+1,j,B,z.tM,T.keep _ _ _ M λb y o e=>(z.pin (b,o) (rj _ (rj _ (fc y e)))).1,λb y=>?_,w7];let(o,e,d):=T.obj _ _ M b y;exact(z.pin (b,o) (rj _ (rj _ (fc y e)))).2.1
  cases f with
  |next=>let(j,B,z,R):=G;calc again z R
  |cont=>let(j,B,z,R):=G;calc again z R
  |brk=>let(j,B,z,G):=G;calc#[j,B,z.tM,G]
  |ret v=>let(x7,j,B,z,r7,G):=G;calc#[x7,j,B,z.tM,r7,G]
def yf {K:bN}{g:TG}{u:TS}{D:Ends}(j:Nat->St->Hp->Prop)(C:j 0 d H)(z:∀i d H,i<=xs.length->j i d H->bA K H a xs)(hs:∀i x d H,xs[i]?=Yb x->j i d H->g x d H λl t=>u {D with nx:=j (i+1),ct:=j (i+1),bk:=D.nx} l t)(hd:∀d H,j xs.length d H->D.nx d H):
  ∃W:Nat->Nat->St->Hp->Prop,(∃m,W 0 m d H)/\∀i m d H,W i m d H ->
   ((Ij K a).stop i H/\D.nx d H)\/((Ij K a).go i H/\∃N:St->Hp->Prop,(∀σ' o,N σ' o->∃m',m' < m/\W (i+1) m' σ' o)/\∀x o,(Ij K a).yld i H x o->g x d o λl t=>u {D with nx:=N,ct:=N,bk:=D.nx} l t):=by
 calc#[λi m d H=>m=xs.length-i/\i<=xs.length/\j i d H,#[xs.length,by simp,ON _,C],?_];rintro i m d H ⟨rfl,B,p⟩;let q:=z i d H B p
 by_cases r:i<xs.length
 .refine .inr #[#[xs,xs[i],q,by simp[r]],j (i+1),λσ' o v=>#[xs.length - (i+1),(),rfl,r,v],λx o y=>?_];let(e,y):=y;subst e;exact hs i x d _ (y xs q) p
 .have e:i=xs.length:=()
  subst e;calc .inl #[#[xs,q,i5 _],hd d H p]
def eY {K:bN}{g:TG}{u:TS}{D:Ends}(j:Nat->St->Hp->Prop)(C:j 0 d H)(z:∀i d H,i<=xs.length->j i d H->bY K H a xs)(hs:∀i x d H,xs[i]?=Yb x->j i d H->g x d H λl t=>u {D with nx:=j (i+1),ct:=j (i+1),bk:=D.nx} l t)(hd:∀d H,j xs.length d H->D.nx d H):
  ∃W:Nat->Nat->St->Hp->Prop,(∃m,W 0 m d H)/\∀i m d H,W i m d H ->
   ((Ax K a).stop i H/\D.nx d H)\/((Ax K a).go i H/\∃N:St->Hp->Prop,(∀σ' o,N σ' o->∃m',m' < m/\W (i+1) m' σ' o)/\∀x o,(Ax K a).yld i H x o->g x d o λl t=>u {D with nx:=N,ct:=N,bk:=D.nx} l t):=by
 calc#[λi m d H=>m=xs.length-i/\i<=xs.length/\j i d H,#[xs.length,by simp,ON _,C],?_];rintro i m d H ⟨rfl,B,p⟩;let q:=z i d H B p
 by_cases r:i<xs.length
 .refine .inr #[#[xs,xs[i],q,by simp[r]],j (i+1),λσ' o v=>#[xs.length - (i+1),(),rfl,r,v],λx o y=>?_];let(e,y):=y;subst e;exact hs i x d _ (y xs q) p
 .have e:i=xs.length:=()
  subst e;calc .inl #[#[xs,q,i5 _],hd d H p]
def ju {g:TG}{u:TS}{D:Ends}(o:Nat->St->Hp->Prop)(z:o 0 d H)(hs:∀i d H,i<n->o i d H->g (.int (r+i)) d H λj t=>u {D with nx:=o (i+1),ct:=o (i+1),bk:=D.nx} j t)(hd:∀d H,o n d H->D.nx d H):
  ∃W:Nat->Nat->St->Hp->Prop,(∃m,W 0 m d H)/\∀i m d H,W i m d H ->
   ((I9 r n).stop i H/\D.nx d H)\/((I9 r n).go i H/\∃N:St->Hp->Prop,(∀σ' q,N σ' q->∃m',m' < m/\W (i+1) m' σ' q)/\∀x q,(I9 r n).yld i H x q->g x d q λj t=>u {D with nx:=N,ct:=N,bk:=D.nx} j t):=by
 calc#[λi m d H=>m=n-i/\i<=n/\o i d H,#[n,by simp,ON _,z],?_];rintro i m d H ⟨rfl,B,p⟩
 by_cases l:i<n
 .refine .inr #[l,o (i+1),λσ' q v=>#[n - (i+1),(),rfl,l,v],λx q y=>?_];let(e,y):=y;subst e y;exact hs i d _ l p
 .have e:i=n:=()
  subst e;calc .inl #[i5 _,hd d H p]
abbrev R2:=V->V->Hp->VK->Prop
meta def mV(X:Cx)(f:eF->eF->Sem eF)(r:R2):Prop :=
 ∀(d:Yi (Yh×Obj)) (s:fy) (e:St) (H:Hp) (x y:V) (v u:eF) (Q:VK),Inv X d e H s->RelV x v->RelV y u->r x y H Q ->
  OH (OM X.prog X.w) X.A (f v u) (EP X d e Q) X.xe s
meta def MD(X:Cx)(f:eF->Sem eF)(r:V->Hp->VK->Prop):Prop :=
 ∀(d:Yi (Yh×Obj)) (s:fy) (e:St) (H:Hp) (x:V) (v:eF) (Q:VK),Inv X d e H s->RelV x v->r x H Q ->
  OH (OM X.prog X.w) X.A (f v) (EP X d e Q) X.xe s
meta def iL(X:Cx)(f:eF)(r:Yi V->Hp->VK->Prop):Prop :=
 ∀(d:Yi (Yh×Obj)) (s:fy) (e:St) (H:Hp) (g:Yi V) (j:List eF) (Q:VK),Inv X d e H s->Vals g j->r g H Q ->
  OH (OM X.prog X.w) X.A (call f j) (EP X d e Q) X.xe s
meta def ME(X:Cx)(r:V->Hp->(Bool->Hp->Prop)->Prop):Prop :=
 ∀(d:Yi (Yh×Obj)) (s:fy) (e:St) (H:Hp) (x:V) (v:eF) (Q:Bool->Hp->Prop),Inv X d e H s->RelV x v->r x H Q ->
  OH (OM X.prog X.w) X.A (truthy v) (TP X d e Q) X.xe s
abbrev NK(r:R2)(x:V)(Q:VK):VK:=λy d=>r x y d Q
abbrev NL(r:R2)(e:TE)(d:St)(Q:VK):VK:=λx g=>e d g (NK r x Q)
abbrev BB(r:R2)(ta e:TE):TE:=λd H Q=>ta d H (NL r e d Q)
abbrev NN(r:V->Hp->VK->Prop)(Q:VK):VK:=λx d=>r x d Q
abbrev NO(r:V->Hp->VK->Prop)(ta:TE):TE:=λd H Q=>ta d H (NN r Q)
meta def rI(C:Int->Int->Prop)(g:Int->Int->V):R2:=λx y H Q=>∃i j,x=.int i/\y=.int j/\C i j/\Q (g i j) H
meta def Ik(g:Int->Int->V):R2:=λx y H Q=>∃i j,x=.int i/\y=.int j/\Q (g i j) H
meta def rU(g:Int->V):V->Hp->VK->Prop:=λx H Q=>∃i,x=.int i/\Q (g i) H
def Jc (z:PE X a ta)(t:PE X b tb){R:V->V->Hp->Prop}(I:Inv X d e H s)(h:ta e H λx o=>tb e o λy g=>R x y g){f:eF->eF->Sem eF}(hf:∀v u m x y g,Inv X d e g m->RelV x v->RelV y u->R x y g->OH (OM X.prog X.w) X.A (f v u) Q X.xe m):
  OH (OM X.prog X.w) X.A (eval a X.env) (λv l=>OH (OM X.prog X.w) X.A (eval b X.env) (λu j=>OH (OM X.prog X.w) X.A (f v u) Q X.xe j) X.xe l) X.xe s:=by
 calc cX (z d s e H _ I h) λv p ⟨x,o,C,q,q1⟩=>?_;calc cX (t d p e o _ C q1) λu m ⟨y,g,B,r2,r⟩=>?_;calc hf v u m x y g B q r2 r
def bU {a b:Expr}{ta tb:TE}{pos:Pos}{op:Operator}{r:R2}(m:mV X (Q5 op) r)(p:PE X a ta)(o:PE X b tb):PE X (.BinOp a op b pos) (BB r ta tb):=by
 intro d s e H Q I h;calc wpAny_BinOp (Jc p o I h λv u g x y z t l j q=>m d g e z x y v u Q t l j q)
def kQ (l:MD X (unaryOp op) r)(m:PE X a ta):PE X (.UnaryOp op a pos) (NO r ta):=by
 intro d s e H Q I h;calc UnaryOp_ (cX (m d s e H _ I h) λv g ⟨x,p,o,j,q1⟩=>l d g e p x v Q o j q1)
def Mc {g:Int->Int->Int}(rule:∀(i j:Int) (t u:Tok) (s:fy) (Q:eF->fy->Prop) (E:eF->fy->Prop),C i j->Q (.int (g i j) s.toks) {s with toks:=s.toks+1}->OH (OM X.prog X.w) X.A (f (.int i t) (.int j u)) Q E s):
  mV X f (rI C λi j=>.int (g i j)):=by
 intro d s p H x y v u Q I m l h;let(i,j,rfl,rfl,o,q):=h;let(t,rfl):=m;let(e,rfl):=l;calc rule i j t e s _ _ o #[.int (g i j),H,I.tok _,#[_,rfl],q]
def K8 {g:Int->Int->Int}(rule:∀(i j:Int) (t u:Tok) (s:fy) (Q:eF->fy->Prop) (E:eF->fy->Prop),Q (.int (g i j) s.toks) {s with toks:=s.toks+1}->OH (OM X.prog X.w) X.A (f (.int i t) (.int j u)) Q E s):
  mV X f (Ik λi j=>.int (g i j)):=by
 intro d s o H x y v u Q I m l h;let(i,j,rfl,rfl,q):=h;let(t,rfl):=m;let(e,rfl):=l;calc rule i j t e s _ _ #[.int (g i j),H,I.tok _,#[_,rfl],q]
def Jd {g:Int->Int->Bool}(rule:∀(i j:Int) (t u:Tok) (s:fy) (Q:eF->fy->Prop) (E:eF->fy->Prop),Q (.bool (g i j)) s->OH (OM X.prog X.w) X.A (f (.int i t) (.int j u)) Q E s):
  mV X f (Ik λi j=>.bl (g i j)):=by
 intro d s o H x y v u Q I m l h;let(i,j,rfl,rfl,q):=h;let(t,rfl):=m;let(e,rfl):=l;calc rule i j t e s _ _ #[.bl (g i j),H,I,rfl,q]
meta def K9(i j:Int):Prop:=0<j/\j<1073741824
meta def La(i j:Int):Prop:=0<=j/\j<=1000000/\i.natAbs<2 ^ 64
meta def Fj(i j:Int):Prop:=(-(2 ^ 64)<i/\i<2 ^ 64)\/(-(2 ^ 64)<j/\j<2 ^ 64)
def Fj.ok (h:Fj i j):IntMulOk i j:=by
 rcases h with⟨h1,h2⟩|⟨h1,h2⟩
 .exact .of_left (intBits_le_64 h1 h2)
 .exact .of_right (intBits_le_64 h1 h2)
def eg :mV X (Q5 .Add) (Ik λi j=>.int (i+j)):=K8 λ_ _ _ _ _ _ _ q=>add_int q
def jP :mV X (Q5 .Sub) (Ik λi j=>.int (i-j)):=K8 λ_ _ _ _ _ _ _ q=>sub_int q
def kY :mV X (Q5 .Mult) (rI Fj λi j=>.int (i*j)):=Mc λ_ _ _ _ _ _ _ d q=>mul_int q d.ok
def sJ :mV X (Q5 .FloorDiv) (rI K9 λi j=>.int (i / j)):=Mc λi j _ _ _ _ _ d q=>by
 let g:(0:Int)<j:=d.1;let e:j<1073741824:=d.2;calc floordiv_int () (by rw[Int.fdiv_eq_ediv_of_nonneg i ()];calc q) (.inl (PyProof.noPylong_small ()))
def gE :mV X (Q5 .Mod) (rI (λ_ j=>0<j) λi j=>.int (i % j)):=Mc λi j _ _ _ _ _ d q=>by
 let e:(0:Int)<j:=d;calc mod_int' () (by rw[Int.fmod_eq_emod_of_nonneg i ()];calc q)
def Je :mV X (Q5 .Pow) (rI La λi j=>.int (i ^ j.toNat)):=Mc λ_ _ _ _ _ _ _ d q=>pow_int_small d.1 d.2.1 d.2.2 q
def NP {g:Int->Int}(rule:∀(i:Int) (t:Tok) (s:fy) (Q:eF->fy->Prop) (E:eF->fy->Prop),Q (.int (g i) s.toks) {s with toks:=s.toks+1}->OH (OM X.prog X.w) X.A (f (.int i t)) Q E s):
  MD X f (rU λi=>.int (g i)):=by
 intro d s j H x v Q I e h;let(i,rfl,q):=h;let(t,rfl):=e;calc rule i t s _ _ #[.int (g i),H,I.tok _,#[_,rfl],q]
def iV :MD X (unaryOp .USub) (rU λi=>.int (-i)):=NP λ_ _ _ _ _ q=>neg_int q
meta def Lb:V->V->Bool
 |.eR,.eR=>Yd|.eR,.int _=>Yd|.int _,.eR=>Yd|.eR,.bl _=>Yd|.bl _,.eR=>Yd|.eR,.str _=>Yd|.str _,.eR=>Yd
 |.int _,.int _=>Yd|.bl _,.bl _=>Yd|.str _,.str _=>Yd|.byt _,.byt _=>Yd
 |.int _,.str _=>Yd|.str _,.int _=>Yd|.bl _,.str _=>Yd|.str _,.bl _=>Yd
 |_,_=>Ye
meta def NQ:R2:=λx y H Q=>Lb x y=Yd/\Q (.bl (decide (x=y))) H
meta def Nf:R2:=λx y H Q=>Lb x y=Yd/\Q (.bl (!decide (x=y))) H
def Ay :decide (V.int i=V.int j)=(i == j):=by
 rw[Sb];simp
def CT :decide (V.bl i=V.bl j)=(i == j):=by
 rw[Sb];simp
def Az :decide (V.str i=V.str j)=(i == j):=by
 rw[Sb];simp
def AA :decide (V.byt i=V.byt j)=(i.toList == j.toList):=by
 rw[Sb]
 cases i
 cases j
 simp
def cC (I:Inv X d g H s)(q:Q (.bl k) H)(e:k=j):EP X d g Q (.bool j) s:=by
 subst e;calc#[.bl k,H,I,rfl,q]
def bO :mV X (P5 .Eq) NQ:=by
 intro m s o H x y v u Q I l d h;let(g,q):=h
 cases x with
 |eR =>
  cases l
  cases y with
  |eR=>cases d;calc PySem.EqNone.eq_none_none (cC I q (by simp))
  |bl j=>cases d;calc PySem.EqNone.eq_none_bool (cC I q (by simp))
  |int j=>let(e,rfl):=d;calc PySem.EqNone.eq_none_int (cC I q (by simp))
  |str j=>let(e,rfl):=d;calc PySem.EqNone.eq_none_str (cC I q (by simp))
  |_=>calc absurd (show Ye=Yd from g) OP
 |bl i =>
  cases l
  cases y with
  |eR=>cases d;calc PySem.EqNone.eq_bool_none (cC I q (by simp))
  |bl j=>cases d;calc eq_bool (cC I q CT)
  |str j=>let(e,rfl):=d;calc PySem.EqMixed.eq_bool_str (cC I q (by simp))
  |_=>calc absurd (show Ye=Yd from g) OP
 |int i =>
  let(t,rfl):=l
  cases y with
  |eR=>cases d;calc PySem.EqNone.eq_int_none (cC I q (by simp))
  |int j=>let(e,rfl):=d;calc eq_int (cC I q Ay)
  |str j=>let(e,rfl):=d;calc PySem.EqMixed.eq_int_str (cC I q (by simp))
  |_=>calc absurd (show Ye=Yd from g) OP
 |str i =>
  let(t,rfl):=l
  cases y with
  |eR=>cases d;calc PySem.EqNone.eq_str_none (cC I q (by simp))
  |bl j=>cases d;calc PySem.EqMixed.eq_str_bool (cC I q (by simp))
  |int j=>let(e,rfl):=d;calc PySem.EqMixed.eq_str_int (cC I q (by simp))
  |str j=>let(e,rfl):=d;calc eq_str (cC I q Az)
  |_=>calc absurd (show Ye=Yd from g) OP
 |byt i =>
  let(t,rfl):=l
  cases y with
  |byt j=>let(e,rfl):=d;calc PySem.W.eq_bytes (cC I q AA)
  |_=>calc absurd (show Ye=Yd from g) OP
 |_=>cases y<;>calc absurd (show Ye=Yd from g) OP
def qc :mV X (P5 .NotEq) Nf:=by
 intro m s o H x y v u Q I l d h;let(g,q):=h
 cases x with
 |eR =>
  cases l
  cases y with
  |eR=>cases d;calc PySem.EqNone.ne_none_none (cC I q (by simp))
  |bl j=>cases d;calc PySem.EqNone.ne_none_bool (cC I q (by simp))
  |int j=>let(e,rfl):=d;calc PySem.EqNone.ne_none_int (cC I q (by simp))
  |str j=>let(e,rfl):=d;calc PySem.EqNone.ne_none_str (cC I q (by simp))
  |_=>calc absurd (show Ye=Yd from g) OP
 |bl i =>
  cases l
  cases y with
  |eR=>cases d;calc PySem.EqNone.ne_bool_none (cC I q (by simp))
  |bl j=>cases d;calc ne_bool (cC I q (congrArg not CT))
  |str j=>let(e,rfl):=d;calc PySem.EqMixed.ne_bool_str (cC I q (by simp))
  |_=>calc absurd (show Ye=Yd from g) OP
 |int i =>
  let(t,rfl):=l
  cases y with
  |eR=>cases d;calc PySem.EqNone.ne_int_none (cC I q (by simp))
  |int j=>let(e,rfl):=d;calc ne_int (cC I q (congrArg not Ay))
  |str j=>let(e,rfl):=d;calc PySem.EqMixed.ne_int_str (cC I q (by simp))
  |_=>calc absurd (show Ye=Yd from g) OP
 |str i =>
  let(t,rfl):=l
  cases y with
  |eR=>cases d;calc PySem.EqNone.ne_str_none (cC I q (by simp))
  |bl j=>cases d;calc PySem.EqMixed.ne_str_bool (cC I q (by simp))
  |int j=>let(e,rfl):=d;calc PySem.EqMixed.ne_str_int (cC I q (by simp))
  |str j=>let(e,rfl):=d;calc ne_str (cC I q (congrArg not Az))
  |_=>calc absurd (show Ye=Yd from g) OP
 |byt i =>
  let(t,rfl):=l
  cases y with
  |byt j=>let(e,rfl):=d;calc PySem.W.ne_bytes (cC I q (congrArg not AA))
  |_=>calc absurd (show Ye=Yd from g) OP
 |_=>cases y<;>calc absurd (show Ye=Yd from g) OP
def oV :mV X (P5 .Lt) (Ik λi j=>.bl (decide (i<j))):=Jd λ_ _ _ _ _ _ _ q=>lt_int q
def rM :mV X (P5 .Gt) (Ik λi j=>.bl (decide (j<i))):=Jd λ_ _ _ _ _ _ _ q=>gt_int q
def Lc :mV X (P5 .GtE) (Ik λi j=>.bl (decide (j<=i))):=Jd λ_ _ _ _ _ _ _ q=>ge_int q
def qT :mV X (P5 .Is) (λx y H Q=>y=.eR/\Q (.bl (decide (x=.eR))) H):=by
 intro e s j H x y v u Q I d g h;let(rfl,q):=h
 cases g
 refine is_none_gen (cC I q ?_)
 cases x<;>first
  |(cases d;rfl)
  |(let(t,rfl):=d;rfl)
def sL :mV X (P5 .IsNot) (λx y H Q=>y=.eR/\Q (.bl (!decide (x=.eR))) H):=by
 intro e s j H x y v u Q I d g h;let(rfl,q):=h
 cases g
 refine isnot_none_gen (cC I q ?_)
 cases x<;>first
  |(cases d;rfl)
  |(let(t,rfl):=d;rfl)
def bz (b:Expr)(h:op≠.In:=by decide)(d:op≠.NotIn:=by decide):Uz op b=Ye:=by
 let g:(op == CmpOp.In)=Ye:=by cases op<;>first|rfl|exact absurd rfl h
 let e:(op == CmpOp.NotIn)=Ye:=by cases op<;>first|rfl|exact absurd rfl d
 cases b<;>simp[Uz,g,e]
def jA {a b:Expr}{ta tb:TE}{pos:Pos}{op:CmpOp}{r:R2}(m:mV X (P5 op) r)(t:PE X a ta)(p:PE X b tb)(o:Uz op b=Ye):PE X (.Compare a [op] [b] pos) (BB r ta tb):=by
 intro d s e H Q I h;calc wpAny_Compare1 (Jc t p I h λv u g x y B z l j q=>m d g e B x y v u Q z l j q) o
meta def NR(Q:Bool->Hp->Prop):VK:=λx d=>∃k,x=.bl k/\Q k d
abbrev CU(t:TE):TT:=λd H Q=>t d H (NR Q)
def ou {a b:Expr}{ta tb:TE}{pos:Pos}{op:CmpOp}{r:R2}(q:mV X (P5 op) r)(C:PE X a ta)(B:PE X b tb)(t:Uz op b=Ye):PT X (.Compare a [op] [b] pos) (CU (BB r ta tb)):=by
 intro d s g H Q I h
 refine wpAny_isTrue_Compare1 (cX (C d s g H _ I h) λv l ⟨x,N,J,m,q1⟩=>cX (B d l g N _ J q1) λu j ⟨y,M,G,r2,p⟩ =>
  cX (q d j g M x y v u _ G m r2 p) λc O ⟨z,L,D,r3,k,e,o⟩=>?_) t
 subst e
 cases r3
 calc Rl #[L,D,o]
meta def Jf(r j:R2)(ta tb tc:TE):TE:=λd H Q=>ta d H λx o=>tb d o λy m=>r x y m λz e=>∃k,z=.bl k /\
 (if k=Yd then tc d e λg l=>j y g l Q else Q (.bl Ye) e)
def CV {a b c:Expr}{ta tb tc:TE}{pos:Pos}{op j:CmpOp}{r o:R2}(U:mV X (P5 op) r)(m:mV X (P5 j) o)(Y:PE X a ta)(W:PE X b tb)(V:PE X c tc)(hm:lastMarks [op,j] [b,c]=Ye:=by rfl'):PT X (.Compare a [op,j] [b,c] pos) (CU (Jf r o ta tb tc)):=by
 intro g s l H Q I h
 refine isTrue_chain (cX (Y g s l H _ I h) λv L ⟨x,H1,I1,N,q1⟩=>test_link (cX (W g L l H1 _ I1 q1) λu J ⟨y,H2,I2,r2,S⟩ =>
  cX (U g J l H2 x y v u _ I2 N r2 S) λd G ⟨z,t,q,r3,k,e,p⟩=>?_)) hm
 subst e
 cases r3
 refine Rl ?_
 cases k with
 |false =>
  let(k',e',T):=p
  cases e'
  calc ite_ff #[t,q,T]
 |true =>
  calc ite_tt (test_last (cX (V g G l t _ q p) λC D ⟨B,H4,I4,r4,R⟩=>cX (m g D l H4 y B u C _ I4 r2 r4 R) λd' s5 ⟨z2,H5,I5,M,k2,Z,O⟩=>?_));subst Z
  cases M
  calc Rl #[H5,I5,O]
meta def Jg(K:bN)(x:V)(H:Hp)(k:Bool):Prop :=
 match x with
 |.eR=>k=Ye
 |.bl b=>k=b
 |.int i=>k=(i != 0)
 |.str y=>y.length<=lj/\k=((y.length:Int) != 0)
 |.byt y=>y.size<=lj/\k=((y.size:Int) != 0)
 |.ref p=>(∃d,bA K H p d/\k=!d.isEmpty)\/(∃d,bY K H p d/\k=!d.isEmpty)\/∃e,H p=Yb (.dK e)/\k=!e.isEmpty
 |_=>False
def zB {kvs:Yi (d×V)}{vs:Yi (d×eF)}(r:KV kvs vs):(!vs.isEmpty)=!kvs.isEmpty:=by
 cases r<;>rfl
def tN (r:Vals xs d):(!d.toArray.isEmpty)=!xs.isEmpty:=by
 cases r<;>simp
def pJ :(lj:Nat)<2 ^ 63:=by rw[RS];decide
def Jh :ME X (λx H Q=>∃k,Jg X.K x H k/\Q k H):=by
 intro C s L H x v Q I o h;let(k,e,q):=h;let N:=pJ;let M:lj=16777216:=RS
 cases x with
 |eR =>
  cases o
  let d:k=Ye:=e;subst d;calc truthy_none #[H,I,q]
 |bl b =>
  cases o
  let d:k=b:=e;subst d;calc Rl #[H,I,q]
 |int i =>
  let(t,rfl):=o;let d:k=(i != 0):=e;subst d;calc PySem.P.truthy_int #[H,I,q]
 |str y =>
  let(t,rfl):=o;obtain⟨G,d⟩:y.length<=lj/\k=((y.length:Int) != 0):=e;subst d;calc PySem.P.truthy_str () #[H,I.tok _,q]
 |byt y =>
  let(t,rfl):=o;obtain⟨G,d⟩:y.size<=lj/\k=((y.size:Int) != 0):=e;subst d;calc PySem.W.truthy_bytes () #[H,I.tok _,q]
 |ref p =>
  cases o
  let d:(∃l,bA X.K H p l/\k=!l.isEmpty)\/(∃l,bY X.K H p l/\k=!l.isEmpty)\/∃g,H p=Yb (.dK g)/\k=!g.isEmpty:=e;rcases d with⟨l,hx,d⟩|⟨l,hx,d⟩|⟨g,hx,d⟩
  .subst d;let(B,r,z,D):=I.list hx;let j:=r.length;exact wpAny_truthy_list z.isList (by simp only[I0];omega) #[H,I.tok _,by rw[tN r];calc q]
  .subst d;let(B,r,z,D):=I.tuple hx;let j:=r.length;exact truthy_tuple z (by simp only[I0];omega) #[H,I.tok _,by rw[tN r];calc q]
  .subst d;obtain⟨D,J,u,r,m⟩:g.length<=lj/\(p == Qq)=Ye/\∃u,KV g u/\s.heap.DictOf (bg X.prog X.w) p u:=I.hok p _ hx;let j:g.length=u.length:=Paired.length r;calc wpAny_truthy_dict J m () #[H,I.tok _,by rw[zB r];calc q]
 |_=>calc(show False from e).elim
def yg (p:PE X a ta)(o:∀d,isTrue a X.env d=(do let v ←d;UZ a.pos;Up [v] (truthy v))):
  PT X a (λg H Q=>ta g H λx j=>∃k,Jg X.K x j k/\Q k j):=by
 intro e s g H Q I h;calc isTrue_plain (cX (p e s g H _ I h) λv l ⟨x,r,q,m,q1⟩=>Jh e l g r x v Q q m q1) (o _)
def lY :mV X (Q5 .Add) (λx y H Q=>∃i j,x=.str i/\y=.str j/\i.length+j.length<=lj/\Q (.str (i++j)) H):=by
 intro d s o H x y v u Q I l g h;let(i,j,rfl,rfl,m,q):=h;let(t,rfl):=l;let(e,rfl):=g;calc add_str (λe p=>#[.str (i++j),H,I.tok _,#[_,rfl],q]) m
def vals1 (r:Vals [x] us):∃u,us=[u]/\RelV x u:=by
 cases r with
 |cons r1 r2=>cases r2;calc#[_,rfl,r1]
def vals2 (r:Vals [x,y] us):∃u d,us=[u,d]/\RelV x u/\RelV y d:=by
 cases r with
 |cons r1 r2 =>
  cases r2 with
  |cons r3 r4=>cases r4;calc#[_,_,rfl,r1,r3]
def iM :iL X (.type "int") (λxs H Q=>(∃i,xs=[.int i]/\Q (.int i) H)\/∃k,xs=[.bl k]/\Q (.int (if k then 1 else 0)) H):=by
 intro d s g H xs j Q I r h;rcases h with⟨i,rfl,q⟩|⟨k,rfl,q⟩
 .have(u,rfl,t,rfl):=vals1 r;exact call_int_int #[.int i,H,I,#[_,rfl],q]
 .have(u,rfl,e):=vals1 r
  cases e
  calc call_int_bool #[.int (if k then 1 else 0),H,I.tok _,#[_,rfl],q]
structure BC(h:Heap) (x dx C:Yh) (mA:Yg->Option eF):Prop where
 obj:h.get? x=Yb (QI C dx)
 ns:h.Ns1 dx mA
 ne:dx≠x
def BD {h:Heap}(n:h.Ns1 l g):∃od,h.get? l=Yb od/\∀name,UA name od=Yb (g name):=by
 let(o,j,B,p,hd,u,_,r):=n;calc#[o,p,λname=>?_];let e:=r name;unfold Wi findBy at e;rw[<-VW]at e;unfold UA;rw[hd];dsimp only
 split
 .rename_i y q
  rw[q]at e;exact congrArg Yb e
 .rename_i q
  rw[q]at e
  let a:j.toList.any (·.refKey)=Ye:=by
   rw[SD];intro y m;let(z,t,d):=u y (Te.mp m);simp[Rh.refKey,d]
  let v:¬j.toList.any (·.refKey)=Yd:=by rw[a];exact OP
  rw[if_neg v];calc congrArg Yb e
def BC.look (I:BC h x e C d):∃od,PySem.W.InstAt h x (QI C e) C (Yb od)/\∀name,UA name od=Yb (d name) :=
 let⟨od,ho,hl⟩:=BD I.ns
 #[od,#[I.obj,rfl,rfl,ho],hl]
def get_map {K:bN}(X:K.In s.heap)(I:BC s.heap x dx C mA)(j:UN K C name=Yd)(g:Rz K C=Yd)(ha:PJ K (.ref C) name=Yb Yc)(hv:mA name=Yb v)(hv':Wj v=Yd)(h:Q v {s with toks:=s.toks+1}):
  OH (OM prog w) A (WA (.ref x) name d) Q E s:=by
 let(l,J,e):=I.look;calc PySem.W.get_value X J (PySem.W.plainGet_of j).1 (PySem.W.findObj_own g ha rfl (by rw[e,hv])) hv' h
def Fo {K:bN}(X:K.In s.heap)(I:BC s.heap x dx C mA)(hs:PJ K (.ref C) "__setattr__"=Yb (Yb (.builtin "object.__setattr__")))(hp:V5 K C=Yd)(ht:SR K C name=Yb Yc)(hh:Rz K C=Yd)(hw:UY mA ns)(hsz:ns.length<=lj)(h:∀h',BC h' x dx C (λy=>if y=name then Yb v else mA y)->Rk dx s.heap h'->Q Unit.unit {s with heap:=h',toks:=s.toks+2}):
  OH (OM prog w) A (setAttr (.ref x) name v) Q E s:=by
 let(u,J,B):=I.look;calc PySem.W.set_plain X J hs (PySem.W.osa_open (s:={s with toks:=s.toks+1}) (r:=Yc) X J hp ht λb=>?_);let(D,p,l):=PySem.W.any_some hh;let o:s.heap.get? x=Yb #[.ref C,Yb dx,.plain,#[]]:=I.obj;calc cB (pC (cB (cB (TY o (cB (PySem.W.Looks.here (s:={s with toks:=s.toks+1}) (PySem.W.looks_clsIn X p) ?_))))));rw[l];calc pC (a:=Yb dx) (cB (pC (cB ?_)));calc wpAny_nsSet1 (s:={s with toks:=s.toks+1}) I.ns λh' e d=>?_;let(z,q,t,g,j,m):=e.count (UY.cons name v hw);calc cB (wpAny_lookBehind g (by rw[j];calc pastItsLine_dict (OX m (by rw[OT];omega))) ?_);calc pC (h _ #[(d.2 _ (Rj I.ne)).trans I.obj,e,I.ne] d)
def CW {K:bN}(X:K.In s.heap)(l:Wy K C=Yd)(hi:PJ K (.ref C) "__init__"=Yb (Yb (.ref f)))(hf:PySem.W.typeIn K (.ref f)=Yb (.type "function"))(h:Qs (OM prog w) (A.under (.builtin "type.__call__" #[.ref C::vs,j])) (.call (.ref f) #[.ref (s⁻¹+1)::vs,j]) (PySem.W.InitBack (s⁻¹+1) R)
   {s with heap:=(s.heap.push Qj).push (QI C s⁻¹)}):
  Qs (OM prog w) A (.call (.ref C) #[vs,j]) R s:=by
 let(o,g,d,t,m):=s;calc PySem.W.make_core (PySem.W.makes_of X l) (PySem.W.looks_findIn X hi) (λe=>PySem.W.bind_fn X e hf) (.inl rfl) h
meta def aX(f:Yg)(v:V):Yi (Yg×V)->Yi (Yg×V)
 | []=>[(f,v)]
 |(g,x)::r=>if g=f then(g,v)::r else(g,x)::aX f v r
theorem rN (f g:Yg)(v:V):∀fs:Yi (Yg×V),(aX f v fs).lookup g=if g=f then Yb v else fs.lookup g
 | []=>by
  show QE g [(f,v)]=_
  by_cases h:g=f
  .have d:(g == f)=Yd:=beq_iff_eq.mpr h;simp only[QE,d,if_pos h]
  .have d:(g == f)=Ye:=beq_eq_false_iff_ne.mpr h;simp only[QE,d,if_neg h]
 |(k,x)::r=>by
  let l:=rN f g v r;rw[show aX f v ((k,x)::r)=(if k=f then(k,v)::r else(k,x)::aX f v r)from rfl]
  by_cases j:k=f
  .rw[if_pos j]
   by_cases h:g=k
   .have d:(g == k)=Yd:=beq_iff_eq.mpr h;simp only[QE,d,if_pos (h.trans j)]
   .have d:(g == k)=Ye:=beq_eq_false_iff_ne.mpr h;simp only[QE,d,if_neg (λe:g=f=>h (e.trans j.symm))]
  .rw[if_neg j]
   by_cases h:g=k
   .have d:(g == k)=Yd:=beq_iff_eq.mpr h;simp only[QE,d,if_neg (λe:g=f=>j (h.symm.trans e))]
   .have d:(g == k)=Ye:=beq_eq_false_iff_ne.mpr h;simp only[QE,d];calc l
theorem qU (f:Yg)(v:V):∀fs:Yi (Yg×V),f∈(aX f v fs).map (·.1)/\∀g,g∈fs.map (·.1)->g∈(aX f v fs).map (·.1)
 | []=>#[by simp[aX],λg h=>by simp at h]
 |(k,x)::r=>by
  let(l,j):=qU f v r;rw[show aX f v ((k,x)::r)=(if k=f then(k,v)::r else(k,x)::aX f v r)from rfl]
  by_cases d:k=f
  .rw[if_pos d];subst d;exact#[by simp,λg h=>by simpa using h]
  .rw[if_neg d];refine#[?_,λg h=>?_]
   .rw[OQ];exact PK _ l
   .rw[OQ]at h|-;rcases L0.mp h with e|e
    .exact L0.mpr (.inl e)
    .exact PK _ (j g e)
theorem rO (f:Yg)(v:V):∀fs:Yi (Yg×V),(aX f v fs).length<=fs.length+1
 | []=>by simp[aX]
 |(k,x)::r=>by
  let e:=rO f v r;rw[show aX f v ((k,x)::r)=(if k=f then(k,v)::r else(k,x)::aX f v r)from rfl]
  by_cases d:k=f
  .rw[if_pos d,OT,OT];omega
  .rw[if_neg d,OT,OT];omega
def lV.some_of (r:lV (Yb v) o):∃u,o=Yb u/\RelV v u:=by
 cases o with
 |none=>calc(show False from r).elim
 |some u=>calc#[u,rfl,r]
def vE (r:RelV v u):Wj u=Yd:=by
 cases v with
 |eR=>cases(show u=Value.none from r);rfl
 |bl b=>cases(show u=Value.bool b from r);rfl
 |int i=>let(t,e):=(show ∃t,u=Value.int i t from r);cases e;rfl
 |str x=>let(t,e):=(show ∃t,u=Value.str x t from r);cases e;rfl
 |byt b=>let(t,e):=(show ∃t,u=Value.bytes b t from r);cases e;rfl
 |flt b=>let(t,e):=(show ∃t,u=Value.float b t from r);cases e;rfl
 |ref a=>cases(show u=Value.ref a from r);rfl
 |ty n=>cases(show u=Value.type n from r);rfl
def AB (j:ny P w H h)(e:H a=Yb (.ins C dx fs)):∃g,BC h a dx C g/\(∀f,lV (fs.lookup f) (g f))/\UY g (fs.map (·.1))/\fs.length<=1000/\H dx=Yb (.own a):=by
 let(d,z,m,l,g,n,r,q):=(show eS P w H h a (.ins C dx fs)from j a _ e);calc#[g,#[l,n,m],r,q,z,d]
structure Il(K:bN) (C:Yh):Prop where
 pg:UN K C OU=Yd
 hd:Rz K C=Yd
 po:V5 K C=Yd
 sa:PJ K (.ref C) "__setattr__"=Yb (Yb (.builtin "object.__setattr__"))
def Il.get {K:bN}(c:Il K C)(f:Yg):UN K C f=Yd:=c.pg
meta def jQ(K:bN)(C:Yh)(f:Yg):Prop:=PJ K (.ref C) f=Yb Yc
def jQ.Ld {K:bN}(n:jQ K C f):SR K C f=Yb Yc:=by
 unfold SR;rw[show PJ K (.ref C) f=Yb Yc from n];rfl
structure Meth(K:bN) (C:Yh) (m:Yg) (f:Yh):Prop where
 at_:PJ K (.ref C) m=Yb (Yb (.ref f))
 fn:PySem.W.isFn K (.ref f)=Yd
 kp:QK K (.ref f)=Yd
def zC (I:Inv X pins σ H s)(e:H a=Yb (.ins C dx fs))(c:Il X.K C)(n:jQ X.K C f)(l:fs.lookup f=Yb v)(h:∀u s',Inv X pins σ H s'->RelV v u->Q u s'):OH (OM X.prog X.w) A (WA (.ref a) f b) Q E s:=by
 let(g,O,r,_,_,_):=AB I.hok e;let(u,j,d):=lV.some_of (v:=v) (o:=g f) (by rw[<-l];calc r f);calc get_map I.tG O (c.get f) c.hd n j (vE d) (h u _ (I.tok _) d)
def zD (I:Inv X pins σ H s)(e:H a=Yb (.ins C dx fs))(c:Il X.K C)(n:jQ X.K C f)(L:fs.length<1000)(t:RelV y u)(h:∀s',Inv X pins σ (upd H a (.ins C dx (aX f y fs))) s'->Q Unit.unit s'):OH (OM X.prog X.w) A (setAttr (.ref a) f u) Q E s:=by
 let(l,O,r,j,_,m):=AB I.hok e;let B:(fs.map (·.1)).length<=lj:=by rw[bM,RS];omega
 calc Fo I.tG O c.sa c.po n.Ld c.hd j B λJ d p=>h _ ?_;let hd:∃o,J.get? dx=Yb o:=let⟨o,_,_,e',_⟩:=d.ns;#[o,e'];calc I.write (x:=a) (e:=dx) (by rw[e];calc True.intro) (.inr m) (λb q G z=>(p.2 b G).trans z) hd ?_;refine#[by rw[ay O.ne];calc m,?_,O.ne,d.obj,_,d.ns,λg=>?_,λg D=>?_]
 .have:=rO f y fs;omega
 .show lV ((aX f y fs).lookup g) (if g=f then Yb u else l g);rw[rN]
  by_cases q:g=f
  .rw[if_pos q,if_pos q];exact t
  .rw[if_neg q,if_neg q];exact r g
 .by_cases q:g=f
  .rw[q];exact(qU f y fs).1
  .refine(qU f y fs).2 g (j g λz=>D ?_);show(if g=f then Yb u else l g)=Yc;rw[if_neg q];calc z
def Inv.made (I:Inv X pins σ H s):Inv X pins σ (upd (upd H s⁻¹ (.own (s⁻¹+1))) (s⁻¹+1) (.ins C s⁻¹ []))
  {s with heap:=(s.heap.push Qj).push (QI C s⁻¹)}:=by
 let g:(s.heap.push Qj).get? s⁻¹=Yb Qj:=OI s.heap rfl
 let p:((s.heap.push Qj).push (QI C s⁻¹)).get? (s⁻¹+1)=Yb (QI C s⁻¹):=by
  let:=OI (s.heap.push Qj) (o:=QI C s⁻¹) rfl
  rwa [PL]at this
 let m:(s.heap.push Qj).Ns s⁻¹ (λ_=>Yc):=#[Qj,#[],_,g,rfl,(λe l=>absurd l (by simp)),λ_=>rfl];let r:=I.laid (a:=s⁻¹) (o:=.own (s⁻¹+1)) (h':=s.heap.push Qj) (t':=s.toks) (λb u q=>mH _ q) (i5 _) #[_,g];calc r.laid (a:=s⁻¹+1) (o:=.ins C s⁻¹ []) (t':=s.toks) (λb u q=>mH _ q) (U0 (PL _ _)) ?_;let d:s⁻¹≠s⁻¹+1:=OZ (QZ _);refine#[by rw[ay d,af],ON _,d,p,λ_=>Yc,(Heap.Ns1.of_empty m).at λo q=>mH _ q,λ_=>True.intro,λy j=>absurd rfl j]
def AD (j:R8 e f d (eval e d)=eval e d)(h:OH (OM prog w) A (eval e d) (λo g=>OH (OM prog w) A (WA o f Yd) Q E g) E s):OH (OM prog w) A (eval (.Attribute e f pos) d) Q E s :=
 Attribute_any_ h (by rw[arm_eval_Attribute,j])
meta def MF(K:bN)(ta:TE)(f:Yg):TE:=λe H Q=>ta e H λx d=>∃a C g fs v,x=.ref a/\d a=Yb (.ins C g fs)/\Il K C/\jQ K C f/\fs.lookup f=Yb v/\Q v d
meta def MG(K:bN)(ta j:TE)(f:Yg):TS:=λD d H=>j d H λy l=>ta d l λx g=>∃a C e fs,x=.ref a/\g a=Yb (.ins C e fs)/\Il K C/\jQ K C f/\fs.length<1000 /\
 D.nx d (upd g a (.ins C e (aX f y fs)))
def kg (p:PE X e ta)(r:R8 e f X.env (eval e X.env)=eval e X.env):PE X (.Attribute e f pos) (MF X.K ta f):=by
 intro d s g H Q I h;calc AD r (cX (p d s g H _ I h) λu J ⟨x,B,z,j,a,C,L,fs,v,ex,t,c,n,l,q⟩=>?_);subst ex;obtain rfl:u=Value.ref a:=j;calc zC z t c n l λD G y m=>#[v,B,y,m,q]
def qV {o value:Expr}{f:Yg}{pos pos':Pos}{ta tv:TE}(z:PE X o ta)(v:PE X value tv)(hs:S3 value (Yb (.Attribute o f pos')) pos.line X.env=pure Ye):PS X (.Assign [.Attribute o f pos'] value pos) (MG X.K ta tv f):=by
 intro d s g H D I h;calc SS (cX (v d s g H _ I h) λu j ⟨y,M,L,m,q⟩=>cX (z d j g M _ L q) λt O ⟨x,R,J,p,a,C,Q,fs,ex,B,c,n,l,r⟩=>?_) hs;subst ex;obtain rfl:t=Value.ref a:=p;calc zD J B c n l m λN G=>#[g,_,G,r]
structure dU(k:Nat) (A:OW):Prop where
 hd:A.handled=Yc
 dp:A.depth+2*k+5<recursionLimit
 un:A.units+16*k+200<SV
 gd:A.guards=Yb []
def dU.mono (r:dU k A)(h:j<=k):dU j A:=#[r.hd,by let:=r.dp;omega,by let:=r.un;omega,r.gd]
def dU.deeper (r:dU (k+1) A)(d:Env):dU k (A.deeper d) :=
 #[r.hd,by let:=r.dp;show A.depth+1+2*k+5<_;omega,by let:=r.un;show A.units+3+16*k+200<_;omega,r.gd]
def zE {A:OW}:(A.under (.builtin "type.__call__" #[.ref C::us,d])).depth=A.depth+1:=by
 first|rfl|simp[U1,Code.weight,Code.isCreation,Code.isGuard,Code.isCaller,Code.frames,V6,guardIds]
def zF {A:OW}:(A.under (.builtin "type.__call__" #[.ref C::us,d])).units=A.units+1:=by
 first|rfl|simp[U1,Code.cUnits,Code.frames,V6]
def yh {A:OW}:(A.under (.builtin "type.__call__" #[.ref C::us,d])).guards=A.guards:=by
 first|rfl|simp[U1,pushGuards,Code.guards,Code.isGuard,guardIds]
def dU.make (r:dU (k+1) A)(C:Yh)(us:List eF)(d:Yi (Yg×eF)):dU k (A.under (.builtin "type.__call__" #[.ref C::us,d])) :=
 #[r.hd,by let:=r.dp;rw[zE];omega,by let:=r.un;rw[zF];omega,by rw[yh];calc r.gd]
def dU.depth (r:dU k A):A.depth<recursionLimit:=by let:=r.dp;omega
def dU.units (r:dU k A):A.units+64<SV:=by let:=r.un;omega
abbrev tO:TA:=λ_ H Q=>Q [] H
abbrev NS(x:V)(Q:Yi V->Hp->Prop):Yi V->Hp->Prop:=λd e=>Q (x::d) e
abbrev NT(e:TA)(d:St)(Q:Yi V->Hp->Prop):VK:=λx g=>e d g (NS x Q)
abbrev kh(ta:TE)(e:TA):TA:=λd H Q=>ta d H (NT e d Q)
def aA :PA X [] tO:=λ_ _ _ _ H Q I h=>Calls.spliced_nil #[[],H,I,.nil,h]
def bJ (p:PE X e te)(hr:PA X es t)(hs:PB (e::es) X.env=(Ye,eval e X.env)::PB es X.env:=by rfl):PA X (e::es) (kh te t):=by
 intro pos d s g H Q I h;rw[hs];show OH _ _ (spliced ((Ye,eval e X.env)::TM pos (PB es X.env))) _ _ s;calc Calls.spliced_cons (cX (p d s g H _ I h) λu l ⟨x,y,r,m,q1⟩=>?_);calc cX (hr pos d l g y _ r q1) λz B ⟨j,v,q,r2,o⟩=>#[x::j,v,q,.cons m r2,o]
meta def NU(Q:VK):Yi V->Hp->Prop:=λd g=>d.length<=lj/\∀p,g p=Yc->Q (.ref p) (upd g p (.J d))
meta def NV(Q:VK):Yi V->Hp->Prop:=λd g=>d.length<=lj/\∀p,g p=Yc->Q (.ref p) (upd g p (.Y d))
abbrev u9(t:TA):TE:=λd H Q=>t d H (NU Q)
abbrev Ji(t:TA):TE:=λd H Q=>t d H (NV Q)
def eJ {es:Yi Expr}{t:TA}{pos:Pos}{x1}(h:PA X es t):PE X (.Tuple es x1 pos) (u9 t):=by
 intro d s m H Q I v;calc wpAny_Tuple_spliced (cX (h pos d s m H _ I v) λp g ⟨o,l,j,r,z,q⟩=>#[by rw[<-r.length];calc z,?_]);let y:l g⁻¹=Yc:=j.hok.fresh (i5 _);calc#[.ref g⁻¹,upd l g⁻¹ (.J o),j.laid (t':=g.toks) (λb u e=>mH _ e) (i5 _) ?_,rfl,q _ y];calc#[z,p,r,#[_,OI _ rfl,rfl,_,rfl],_,OI _ rfl,rfl]
def dH {es:Yi Expr}{t:TA}{pos:Pos}(h:PA X es t):PE X (.List es pos) (Ji t):=by
 intro d s m H Q I v;calc wpAny_List_spliced (cX (h pos d s m H _ I v) λp g ⟨o,l,j,r,z,q⟩=>#[by rw[<-r.length];calc z,?_]);let y:l g⁻¹=Yc:=j.hok.fresh (i5 _);calc#[.ref g⁻¹,upd l g⁻¹ (.Y o),j.laid (t':=g.toks) (λb u e=>mH _ e) (i5 _) ?_,rfl,q _ y];calc#[z,p,0,r,OI _ rfl]
abbrev Sp:=Yi V->Hp->VK->XK->Prop
abbrev xX:=Yi Env->Hp->fy->XK->eF->fy->Prop
structure zG(P:we) (w:OR) (K:bN) (mg:Yg->Option eF) (base:Heap) (A:OW) (outer:Yi Env) (s:fy) (H:Hp):Prop where
 frames:A.frames=Yb outer
 mod:Mod K mg base
 bs:∀b o,base.get? b=Yb o->s.heap.get? b=Yb o/\H b=Yc
 bsz:base.objs.size<=s⁻¹
 qQ:s.heap.FunFrames base outer
 frf:∀b∈frs outer,H b=Yc
 hok:ny P w H s.heap
 bare:TH s.gens
meta def CE(outer:Yi Env)(P:we)(w:OR)(H:Hp)(s:fy)(Q:VK)(u:eF)(s':fy):Prop :=
 ∃v d,s'.os=s.os/\TH s'.gens/\Un (frs outer) [] H d s.heap s'.heap/\ny P w d s'.heap/\RelV v u/\Q v d
meta def CR(CX:xX)(outer:Yi Env)(P:we)(w:OR)(H:Hp)(s:fy)(Q:VK)(E:XK)(r:SE)(s':fy):Prop :=
 match r with
 |.ok (.ret u)=>CE outer P w H s Q u s'
 |.ok _=>False
 |.error e=>CX outer H s E e s'
structure cD(P:we) (w:OR) (K:bN) (mg:Yg->Option eF) (base:Heap) (CX:xX) (k:Nat) (f:Yh) (fd:EF) (ps:Yi Yg) (sp:Sp):Prop where
 len:∀vs H Q E,sp vs H Q E->vs.length=ps.length
 run:∀(A:OW) (outer:Yi Env) (s:fy) (H:Hp) (args:Args) (us:List eF) (vs:Yi V) (Q:VK) (E:XK),dU k A->zG P w K mg base A outer s H->V7 s fd args (ps.zip us)->Vals vs us->sp vs H Q E ->
  Qs (OM P w) A (.call (.ref f) args) (CR CX outer P w H s Q E) s
def zG.make {K:bN}(e:zG P w K mg base A outer s H)(C:Yh)(us:List eF)(d:Yi (Yg×eF)):
  zG P w K mg base (A.under (.builtin "type.__call__" #[.ref C::us,d])) outer s H:=#[by first|calc e.frames|(simpa[U1,Code.envs,V6,pushEnvs]using e.frames),e.mod,e.bs,e.bsz,e.qQ,e.frf,e.hok,e.bare]
def Inv.Jj (I:Inv X pins σ H s):zG X.prog X.w X.K X.mg X.base X.A X.stack s H :=
 #[I.ok.frames,I.ok.mod,I.bs,OX I.ok.bsz I.sz,I.stack,I.wK,I.hok,I.bare]
def Inv.after (I:Inv X pins σ H s)(h:CE X.stack X.prog X.w H s Q u s'):EP X pins σ Q u s':=by
 let(v,p,m,e,un,l,r,q):=h;let(o,g,d,t,j):=s';obtain rfl:j=s.os:=m;calc#[v,p,I.call (h':=o) (g':=g) (d':=d) (t':=t) (ch:=[]) un l e (λb z=>absurd z (by simp)),r,q]
abbrev NW(sp:Sp)(d:Yi V)(E:XK)(Q:VK):Yi V->Hp->Prop:=λe g=>sp (e++d) g Q E
abbrev Le(sp:Sp)(d:Yi V)(E:XK)(t:TA):TE:=λe H Q=>t e H (NW sp d E Q)
meta def Lf(C:Yh)(sp:Sp)(e:Yi V)(E:XK)(t:TA):TE:=λj H Q=>t j H λl g=>∀x d,g x=Yc->g d=Yc->d≠x ->
 sp (.ref x::(l++e)) (upd (upd g d (.own x)) x (.ins C d [])) (λv m=>v=.eR/\Q (.ref x) m) E
meta def Binds(K:bN)(e:EF)(ps:Yi Yg)(ds:List eF):Prop :=
 ∀(s:fy) (d:List eF),K.In s.heap->(d++ds).length=ps.length->V7 s e #[d,[]] (ps.zip (d++ds))
def Binds.all {K:bN}(h:∀us:List eF,us.length=ps.length->bindArgs e #[us,[]]=pure (ps.zip us)):Binds K e ps []:=λs us _ d=>by
 rw[O0]at d|-;calc .of_eq (h us d)
meta def Passes(CX:xX)(X:Cx)(E:XK):Prop:=∀(d:Yi (Yh×Obj)) (j:St) (H:Hp) (s:fy) (e:eF) (g:fy),Inv X d j H s->CX X.stack H s E e g->X.xe e g
def Jk (F:cD X.prog X.w X.K X.mg X.base CX k f fd ps sp)(hr:dU k X.A)(y:Binds X.K fd ps ds)(hd:Vals dvs ds)(q:Passes CX X E)(I:Inv X d j H s)(r:Vals vs us)(h:sp (vs++dvs) H Q E):OH (OM X.prog X.w) X.A (call (.ref f) us) (EP X d j Q) X.xe s:=by
 let r2:Vals (vs++dvs) (us++ds):=r.append hd;let v:(us++ds).length=ps.length:=by rw[<-r2.length];exact F.len _ _ _ _ h
 refine TZ (RY (F.run X.A X.stack s H #[us,[]] (us++ds) (vs++dvs) Q E hr I.Jj (y s us I.tG v) r2 h) λr l g=>?_)
 cases r with
 |error e=>calc q d j H s e l I g
 |ok fl =>
  cases fl with
  |ret u=>calc I.after g
  |next=>calc P7 g
  |brk=>calc P7 g
  |cont=>calc P7 g
def eN {CX:xX}{k:Nat}{f:Yh}{fd:EF}{ps:Yi Yg}{sp:Sp}{dvs:Yi V}{ds:List eF}{E:XK}{x:Yg}{p pos:Pos}{e:Expr}{es:Yi Expr}{t:TA}(F:cD X.prog X.w X.K X.mg X.base CX k f fd ps sp)(hr:dU k X.A)(y:Gl X x)(u:X.mg x=Yb (.ref f))(v:QK X.K (.ref f)=Yd)(z:Binds X.K fd ps ds)(hd:Vals dvs ds)(l:Passes CX X E)(ha:PA X (e::es) t)(hdb:(x == ("__debug__":Yg))=Ye:=by decide)(he:PB (e::es) X.env=(Ye,eval e X.env)::PB es X.env:=by rfl)(hpl:(TM pos (PB es X.env)).any (·.1)=Ye:=by rfl):
  PE X (.Call (.Name x p) (e::es) [] pos) (Le sp dvs E t):=by
 intro d s j H Q I h;calc QA (pW I y u ?_ hdb);calc VX (h₀:=X.base) I.ok.mod.kin v (cX (ha pos d s j H _ I h) λD G ⟨B,J,g,r,q⟩=>#[g.tG,?_]) he hpl;calc Jk F hr z hd l g r q
structure Mk(K:bN) (C f:Yh):Prop where
 makes:Wy K C=Yd
 init:PJ K (.ref C) "__init__"=Yb (Yb (.ref f))
 fn:PySem.W.isFn K (.ref f)=Yd
 kp:QK K (.ref C)=Yd
def CY (M:Mk X.K C f)(F:cD X.prog X.w X.K X.mg X.base CX k f fd ps sp)(hr:dU (k+1) X.A)(J:Binds X.K fd ps ds)(hd:Vals dvs ds)(hx:Passes CX X E)(I:Inv X d q H s)(r:Vals vs us)(h:∀x j,H x=Yc->H j=Yc->j≠x->sp (.ref x::(vs++dvs)) (upd (upd H j (.own x)) x (.ins C j [])) (λv O=>v=.eR/\Q (.ref x) O) E):
  OH (OM X.prog X.w) X.A (call (.ref C) us) (EP X d q Q) X.xe s:=by
 let y:=h (s⁻¹+1) s⁻¹ (I.hok.fresh (Pc _)) (I.hok.fresh (i5 _)) (OZ (QZ _));let l:=Inv.made (C:=C) I;let r2:Vals (V.ref (s⁻¹+1)::(vs++dvs)) (Value.ref (s⁻¹+1)::(us++ds)):=.cons rfl (r.append hd)
 let G:(Value.ref (s⁻¹+1)::us++ds).length=ps.length:=by
  let e:=r2.length;rw[F.len _ _ _ _ y]at e;exact e.symm
 refine TZ (CW (f:=f) I.tG M.makes M.init (beq_iff_eq.mp M.fn) (RY (F.run _ X.stack _ _ #[Value.ref (s⁻¹+1)::us,[]] (Value.ref (s⁻¹+1)::(us++ds)) _ _ E (hr.make C us [])
  (l.Jj.make C us []) (J _ (Value.ref (s⁻¹+1)::us) l.tG G) r2 y) λr z g=>?_))
 cases r with
 |error e=>calc hx d q _ _ e z l g
 |ok fl =>
  cases fl with
  |ret u =>
   let(v,R,N,B,L,D):=l.after g;subst L;calc#[B,#[V.ref (s⁻¹+1),R,N,rfl,D]]
  |next=>calc P7 g
  |brk=>calc P7 g
  |cont=>calc P7 g
def Fp {CX:xX}{k:Nat}{f C:Yh}{fd:EF}{ps:Yi Yg}{sp:Sp}{dvs:Yi V}{ds:List eF}{E:XK}{x:Yg}{p pos:Pos}{e:Expr}{es:Yi Expr}{t:TA}(M:Mk X.K C f)(F:cD X.prog X.w X.K X.mg X.base CX k f fd ps sp)(hr:dU (k+1) X.A)(v:Gl X x)(u:X.mg x=Yb (.ref C))(y:Binds X.K fd ps ds)(hd:Vals dvs ds)(l:Passes CX X E)(ha:PA X (e::es) t)(hdb:(x == ("__debug__":Yg))=Ye:=by decide)(he:PB (e::es) X.env=(Ye,eval e X.env)::PB es X.env:=by rfl)(hpl:(TM pos (PB es X.env)).any (·.1)=Ye:=by rfl):
  PE X (.Call (.Name x p) (e::es) [] pos) (Lf C sp dvs E t):=by
 intro d s j H Q I h;calc QA (pW I v u ?_ hdb);calc VX (h₀:=X.base) I.ok.mod.kin M.kp (cX (ha pos d s j H _ I h) λB D ⟨z,G,g,r,q⟩=>#[g.tG,?_]) he hpl;calc CY M F hr y hd l g r q
structure aY(N P:Yi Yg) (sc:P9):Prop where
 kind:sc.kind=.function
 co:sc.isCoroutine=Ye
 gen:sc.isGenerator=Ye
 nd:N.Nodup
 pre:N.take P.length=P
 par:∀x∈P,sc.names.lookup x=Yb .local\/sc.names.lookup x=Yb .cell
 nofree:∀y∈sc.names,y.2≠.free
theorem vF :∀{binds:Yi (Yg×eF)}{m:Yg->Option eF},(∀v,(x,v)∉binds)->WC d binds m x=m x
 | [],_,_=>rfl
 |(n,v)::r,m,h=>by
  unfold WC;rw[vF λw e=>h w (PK _ e)]
  split
  .have:x≠n:=by rintro rfl;exact h v Qe
   simp[this]
  .rfl
theorem vG :∀{binds:Yi (Yg×eF)}{m:Yg->Option eF},(∀v,(x,v)∉binds)->WD d binds m x=m x
 | [],_,_=>rfl
 |(n,v)::r,m,h=>by
  unfold WD;rw[vG λw e=>h w (PK _ e)]
  split
  .rfl
  .have:x≠n:=by rintro rfl;exact h v Qe
   simp[this]
theorem vH :∀{P:Yi Yg}{vs:List eF}{i:Nat}{m:Yg->Option eF},P.Nodup->P[i]?=Yb x->vs[i]?=Yb v->d x=Yb .local ->
  WC d (P.zip vs) m x=Yb v
 | [],_,_,_,_,h,_,_=>by simp at h
 |_::_,[],_,_,_,_,h,_=>by simp at h
 |p::P,w::vs,0,m,nd,h1,h2,hk=>by
  simp at h1 h2;subst h1;subst h2;show WC d ((p,w)::P.zip vs) m p=_;unfold WC;rw[vF λv e=>(Qz.mp nd).1 (QL e).1,if_pos hk];simp
 |p::P,w::vs,i+1,m,nd,h1,h2,hk=>by
  show WC d ((p,w)::P.zip vs) m x=_;unfold WC;calc vH (i:=i) (Qz.mp nd).2 (by simpa using h1) (by simpa using h2) hk
theorem vI :∀{P:Yi Yg}{vs:List eF}{i:Nat}{m:Yg->Option eF},P.Nodup->P[i]?=Yb x->vs[i]?=Yb v->d x≠Yb .local ->
  WD d (P.zip vs) m x=Yb v
 | [],_,_,_,_,h,_,_=>by simp at h
 |_::_,[],_,_,_,_,h,_=>by simp at h
 |p::P,w::vs,0,m,nd,h1,h2,hk=>by
  simp at h1 h2;subst h1;subst h2;show WD d ((p,w)::P.zip vs) m p=_;unfold WD;rw[vG λv e=>(Qz.mp nd).1 (QL e).1,if_neg hk];simp
 |p::P,w::vs,i+1,m,nd,h1,h2,hk=>by
  show WD d ((p,w)::P.zip vs) m x=_;unfold WD;calc vI (i:=i) (Qz.mp nd).2 (by simpa using h1) (by simpa using h2) hk
meta def start(N:Yi Yg)(vs:Yi V):St:=vs.map Yb++L1 (N.length-vs.length) Yc
meta def vc(CX:xX)(P:we)(w:OR)(K:bN)(mg:Yg->Option eF)(base:Heap)(N:Yi Yg)(d:Yg)(scope:P9)(f:Yh)(j:eF)(A:OW)(outer:Yi Env)(s:fy)(H:Hp)(E:XK):Cx where
 prog:=P
 w:=w
 K:=K
 mg:=mg
 base:=base
 A:=A.deeper (OV d scope s⁻¹ f j)
 N:=N
 s₀:=s
 H₀:=H
 env:=OV d scope s⁻¹ f j
 outer:=outer
 stack:=OV d scope s⁻¹ f j::outer
 ex:=[]
 calm:=Yd
 fn:=λ_=>Yd
 pn:=[]
 xe:=λe l=>OH (OM P w) (A.deeper (OV d scope s⁻¹ f j)) (leaving (OV d scope s⁻¹ f j) e) (λ_ g=>CX outer H s E e g) (λm g=>CX outer H s E m g) l
def yi {d:P9}(h:d.names.lookup x=Yb .cell):∃c,(Wk n d.names []).lookup x=Yb c:=by
 let q:=SG d.names n [] (.inl h);calc Option.isSome_iff_exists.mp q
def vJ {K:bN}(S:aY N ps scope)(hd:A.handled=Yc)(e0:zG P w K mg base A outer s H)(hl:vs.length=ps.length)(r:Vals vs us)(x:InCallC s s⁻¹ (WC (OV d scope s⁻¹ f B).kindOf (ps.zip us) λ_=>Yc) (Wk (s⁻¹+1) scope.names []) (WD (OV d scope s⁻¹ f B).kindOf (ps.zip us) λ_=>Yc) C):
  Inv (vc CX P w K mg base N d scope f B A outer s H E) [] (start N vs) H C:=by
 let J:ps.length<=N.length:=by let:=congrArg Sq S.pre;rw[x9]at this;omega
 let(t,M,rfl,G):=x.done;let j:∀b:Yh,b∉(vc CX P w K mg base N d scope f B A outer s H E).ex:=λb z=>absurd (show b∈([]:Yi Yh)from z) (by simp)
 refine#[#[e0.mod,S.kind,rfl,rfl,i5 _,λy z c t g=>?_,λy hy=>?_,λy c _ h=>?_,λ_=>hd,OW.frames_deeper e0.frames,.inr #[rfl,rfl],λb z=>absurd z (j b),e0.bs,e0.bsz,λb _ _=>j b,λb z=>absurd z (j b),e0.qQ,e0.frf],
  rfl,e0.bare,Un.kept G,#[_,x.toInCall.ns,λi y v t g O=>?_],λy c h=>#[_,x.cell y c h],e0.hok.fresh (i5 _),λy c h=>?_,λp m=>absurd (show p∈([]:Yi (Yh×Obj))from m) (by simp),e0.hok.kept G,?_]
 .exact name_of_addr x.apart (Qh t) (Qh g)
 .have hy:scope.names.lookup y=Yb .cell\/scope.names.lookup y=Yb .free:=hy;rcases hy with hy|hy
  .exact yi hy
  .exact absurd rfl (S.nofree _ (Qh hy))
 .exact O7 (x.above y c (Qh h))
 .have o:i<vs.length:=by
   unfold start at g
   by_cases o:i<vs.length
   .exact o
   .rw[Ph (by simpa using o)]at g;rw[Ru]at g
    split at g<;>cases g
  let L:vs[i]?=Yb v:=by
   unfold start at g;rw[Px (by simpa using o),vv]at g
   cases e:vs[i]? with
   |none=>rw[e]at g;cases g
   |some a=>rw[e]at g;cases g;rfl
  let(u,D,I):=r.get L
  let m:ps[i]?=Yb y:=by
   rw[<-S.pre,List.getElem?_take_of_lt ()];exact t
  let l:ps.Nodup:=by rw[<-S.pre];exact S.nd.sublist (RO _ _)
  calc#[u,I,?_];rcases S.par y (xn m)with k|k
  .exact .inl #[k,vH l m D k]
  .have(c,e):=yi (n:=s⁻¹+1) k;calc .inr #[.inl k,c,e,?_];let q:=x.cell y c e;rw[vI l m D (by show scope.names.lookup y≠_;rw[k];decide)]at q;exact q
 .exact e0.hok.fresh (O7 (x.above y c (Qh h)))
 .unfold start;show _=N.length;rw[mu,bM,Qk];omega
def Im {K:bN}{T kV:eF}(lk:K.lookup f=Yb #[oc,od,.func (SH name d g j scope T kV D R X cdv ct),osl])(hcd:UB K cdv d=Yd)(S:aY N ps scope)(len:∀vs H Q E,sp vs H Q E->vs.length=ps.length)(hbody:∀(A:OW) (outer:Yi Env) (s:fy) (H:Hp) (vs:Yi V) (Q:VK) (E:XK),dU k (A.deeper (OV d scope s⁻¹ f cdv))->sp vs H Q E ->
   ∃t,rL (vc CX P w K mg base N d scope f cdv A outer s H E) j t/\t {nx:=λ_ m=>Q .eR m,rt:=Q} (start N vs) H):
  cD P w K mg base CX (k+1) f (SH name d g j scope T kV D R X cdv ct) ps sp:=by
 calc#[len,λA outer s H U Z vs Q E hr C hb r B=>?_];let hl:=len _ _ _ _ B;let Y:K.In s.heap:=C.mod.kin.keeps λb o e=>(C.bs b o e).1;let M:s.heap.NoLimit:=C.mod.nolimit.keeps λb o e=>(C.bs b o e).1
 let p:∀y∈ps.zip Z,scope.names.lookup y.1=Yb .local\/(scope.names.lookup y.1=Yb .cell/\((Wk (s⁻¹+1) scope.names []).lookup y.1).isSome=Yd):=λ⟨n,v⟩ hy=>by
  rcases S.par n (QL hy).1 with q|q
  .exact .inl q
  .exact .inr #[q,SG _ _ _ (.inl q)]
 calc Vj hr.depth (Y _ _ lk) rfl S.co S.gen rfl (VY Y hcd) (hb _ _ _ _ ?_);calc T3 S.kind p λaa he O x=>?_;subst he;calc#[M.keeps x.toInCall.keep,codeAny_func ?_];let(t,ht,hq):=hbody A outer s H vs Q E (hr.deeper _) B;let I:Inv (vc CX P w K mg base N d scope f cdv A outer s H E) [] (start N vs) H O:=vJ S hr.hd C hl r x;refine O1 (ht [] O (start N vs) H _ I hq) (λfl G z=>?_) λe G z=>z
 let fin:∀{l:St}{m:Hp}{v:V}{u:eF},Inv (vc CX P w K mg base N d scope f cdv A outer s H E) [] l m G->RelV v u->Q v m->CE outer P w H s Q u G :=
  λ{l m v u} J L q=>#[v,m,J.os,J.bare,J.base,J.hok,L,q]
 cases fl with
 |ret u =>
  let(v,l,m,J,L,q):=z;calc fin J L q
 |next =>
  let(l,m,J,q):=z;calc fin (v:=V.eR) (u:=Value.none) J rfl q
 |brk =>
  let(_,_,_,q):=z;calc P7 q
 |cont =>
  let(_,_,_,q):=z;calc P7 q
abbrev NX(r:Yi V->Hp->VK->Prop)(Q:VK):Yi V->Hp->Prop:=λd g=>r d g Q
abbrev MH(r:Yi V->Hp->VK->Prop)(t:TA):TE:=λd H Q=>t d H (NX r Q)
def qd {x:Yg}{p pos:Pos}{e:Expr}{es:Yi Expr}{t:TA}{id:String}{r:Yi V->Hp->VK->Prop}(z:iL X (.builtin id) r)(y:Gl X x)(v:X.mg x=Yc)(u:Sy x=Yb (.builtin id))(B:PA X (e::es) t)(hn:x≠"__name__":=by decide)(g:(x == ("__debug__":Yg))=Ye:=by decide)(he:PB (e::es) X.env=(Ye,eval e X.env)::PB es X.env:=by rfl)(hpl:(TM pos (PB es X.env)).any (·.1)=Ye:=by rfl):PE X (.Call (.Name x p) (e::es) [] pos) (MH r t):=by
 intro d s j H Q I h;calc QA (qR I y v u ?_ hn g);calc PyProof.Rows.callWith_builtin1 (cX (B pos d s j H _ I h) λm o ⟨l,D,C,q,q1⟩=>z d o j D l m Q C q q1) he hpl
def BE {x:Yg}{p pos:Pos}{e:Expr}{es:Yi Expr}{t:TA}{T:String}{r:Yi V->Hp->VK->Prop}(z:iL X (.type T) r)(y:Gl X x)(v:X.mg x=Yc)(u:Sy x=Yb (.type T))(B:PA X (e::es) t)(hn:x≠"__name__":=by decide)(g:(x == ("__debug__":Yg))=Ye:=by decide)(he:PB (e::es) X.env=(Ye,eval e X.env)::PB es X.env:=by rfl)(hpl:(TM pos (PB es X.env)).any (·.1)=Ye:=by rfl):PE X (.Call (.Name x p) (e::es) [] pos) (MH r t):=by
 intro d s j H Q I h;calc QA (qR I y v u ?_ hn g);calc QU (cX (B pos d s j H _ I h) λm o ⟨l,D,C,q,q1⟩=>z d o j D l m Q C q q1) he hpl
end L2
namespace HT
open PySem PyProof.Rows
section
open PySem.SeqAt
open PySem.AutoSeq1 (wpAny_loadPart')
open PySem.MeetsSeq PySem.MeetsSeq2 PySem.MeetsSeq3
end
def Fq (ht:WB s.heap t vs.toArray)(D:WB s.heap b d.toArray)(y:vs≠[])(h1:d=[]->Q (.ref t) s)(h2:d≠[]->Q (.ref s⁻¹) {s with heap:=s.heap.push {cls:=.type "tuple",data:=.seq (vs++d).toArray}})(hsz:vs.length+d.length<=lj):OH (OM prog w) A (Q5 .Add (.ref t) (.ref b)) Q E s:=by
 let((cls,B,data,u),q,z,n,hd):=id ht;let((C,o,r,j),g,m,v,l):=id D;simp only at z hd m l;subst z hd m l;let e:vs.toArray++d.toArray=(vs++d).toArray:=by simp
 by_cases p:d=[]
 .exact V8 #[_,q,rfl] #[_,g,rfl] UO VO SI Ss (R9 _ _)
   (tuple_addW1 t b vs.toArray d.toArray n v B o u j (by simpa using y) (by simp[p])) #[q,g,h1 p]
 .refine V8 #[_,q,rfl] #[_,g,rfl] UO VO SI Ss (R9 _ _)
   (tuple_addW2 t b vs.toArray d.toArray n v B o u j (by simpa using y) (by simpa using p) (by rw[I0,I0];calc hsz)) #[q,g,?_]
  rw[e];calc h2 p
meta def iw(n d:Nat):Option Int->Nat
 |none=>d
 |some v=>if v<0 then(v+(n:Int)).toNat else min v.toNat n
def tP (n d:Nat):iw n d Yc=d:=rfl
def kR (n d k:Nat):iw n d (Yb (k:Int))=min k n:=by
 show(if(k:Int)<0 then((k:Int)+(n:Int)).toNat else min (k:Int).toNat n)=min k n;rw[if_neg (),Qa]
def Jl (n d:Nat)(hd:d<=n)(o:Option Int):iw n d o<=n:=by
 cases o with
 |none=>calc hd
 |some v =>
  show(if v<0 then(v+(n:Int)).toNat else min v.toNat n)<=n
  by_cases e:v<0
  .rw[if_pos e];omega
  .rw[if_neg e];calc Nat.min_le_right _ _
def AE (v:Int)(n d:Nat):(if v<0 then max (v+(n:Int)) 0 else min v (n:Int))=((iw n d (Yb v):Nat):Int):=by
 show(if v<0 then max (v+(n:Int)) 0 else min v (n:Int))=(((if v<0 then(v+(n:Int)).toNat else min v.toNat n):Nat):Int)
 by_cases e:v<0
 .simp only[if_pos e];omega
 .simp only[if_neg e];omega
def zH (d hi:Option Int)(n:Nat):R4 d hi 1 (n:Int)=(((iw n 0 d:Nat):Int),((iw n n hi:Nat):Int)):=by
 let e:¬((1:Int)<0):=()
 unfold R4;simp only[e,if_false];refine Prod.ext ?_ ?_
 .cases d with
  |none=>rfl
  |some v=>exact AE v n 0
 .cases hi with
  |none=>rfl
  |some v=>calc AE v n n
def zI (i j:Nat):P0 (i:Int) (j:Int) 1=j-i:=by
 unfold P0;let d:(1:Int)>0:=()
 simp only[d,if_true,V9]
 split<;>omega
def ki (p:UC v o)(h:Q o s):OH (OM prog w) A (Ry.Slice.slicePartIndex v) Q E s:=by
 cases p with
 |none=>calc slicePart_none h
 |int i t=>calc slicePart_int h
def lE {d hi:Option Int}{n:Nat}{Q:Int×Int×Nat->fy->Prop}(hs:s.heap.IsSliceOf m l j .none)(pl:UC l d)(o:UC j hi)(h:Q (((iw n 0 d:Nat):Int),1,iw n n hi-iw n 0 d) s):OH (OM prog w) A (Q6 (.ref m) (pure (n:Int))) Q E s:=by
 let(q,e,p,g):=id hs;unfold Q6 Uk;calc cB (cB (Pw e g (x:=l) rfl (cB (Pw e g (x:=j) rfl (cB (Pw e g (x:=.none) rfl (pC ?_)))))));calc cB (slicePart_none ?_);show OH _ _ (if((1:Int) == 0)=Yd then _ else _) _ _ s;rw[if_neg (by decide)];calc cB (ki pl (cB (ki o (cB (pC ?_)))));show OH _ _ (match R4 d hi 1 (n:Int)with|(d,hi)=>pure (d,(1:Int),P0 d hi 1)) _ _ s
 rw[zH d hi n];show OH _ _ (pure (((iw n 0 d:Nat):Int),(1:Int),P0 ((iw n 0 d:Nat):Int) ((iw n n hi:Nat):Int) 1)) _ _ s;rw[zI];calc pC h
def CZ (xs:Array eF)(i k:Nat):((QJ k).filterMap λ(m:Nat)=>xs[((i:Int)+(m:Int)*1).toNat]?).toArray=((xs.toList.drop i).take k).toArray:=by
 let e:(λ(m:Nat)=>xs[((i:Int)+(m:Int)*1).toNat]?)=λm=>xs[i+m]?:=by
  funext m
  let:((i:Int)+(m:Int)*1).toNat=i+m:=()
  rw[this]
 rw[e];let:=pick_run xs i k;rw[VZ]at this;let d:((λx=>xs[x]?) ∘ λx=>i+x)=λm=>xs[i+m]?:=rfl;rw[d]at this;rw[this]
def qe (ht:WB s.heap t items)(hs:s.heap.IsSliceOf g u r .none)(pl:UC u e)(v:UC r hi)(hw:¬(iw items.size 0 e=0/\iw items.size items.size hi=items.size))(h:Q (.ref s⁻¹) {s with heap:=s.heap.push {cls:=.type "tuple",data:=.seq ((items.toList.drop (iw items.size 0 e)).take (iw items.size items.size hi-iw items.size 0 e)).toArray}})(hsz:items.size<=lj):OH (OM prog w) A (SJ (.ref t) (.ref g)) Q E s:=by
 let d:sizeOk (.seq ((items.toList.drop (iw items.size 0 e)).take (iw items.size items.size hi-iw items.size 0 e)).toArray):=by
  show((items.toList.drop (iw items.size 0 e)).take (iw items.size items.size hi-iw items.size 0 e)).toArray.size<=lj;rw[I0,x9,P6,Qx];omega
 let C:iw items.size items.size hi<=items.size:=Jl _ _ (i5 _) hi;let(y,j,o,z):=id hs;let p:s.TypeIs (.ref g) "slice":=#[y,j,o];unfold SJ
 try with_reducible refine PY ?_
 first|refine cB (pC ?_)|skip
 refine cB (Uq ht.typeIs (by decide) ?_)
 refine cB (Qd (name:=PM "__getitem__") ht.typeIs Pb
  (QB Pb ht.typeIs Tv ?_ (T8 _ _)))
 show OH _ _ (RU (.ref t)>>=_) _ _ s;calc cB (VP ht ?_);calc cB (TJ p ?_);rw[if_pos (by decide)];refine cB (lE hs pl v ?_)
 let l:¬((((iw items.size 0 e:Nat):Int) == 0&&(1:Int) == 1&&(iw items.size items.size hi-iw items.size 0 e) == items.size)=Yd):=by
  intro q;rw[Pd,Pd]at q;let q1:((iw items.size 0 e:Nat):Int)=0:=QF q.1.1;let B:iw items.size items.size hi-iw items.size 0 e=items.size:=QF q.2;exact hw #[(),()]
 show OH _ _ (if(((iw items.size 0 e:Nat):Int) == 0&&(1:Int) == 1&&(iw items.size items.size hi-iw items.size 0 e) == items.size)=Yd then _ else _) _ _ s;rw[if_neg l,CZ]
 first
  |calc cB (m:=PR _) (Pr (pC #[_,rfl,pC h]) d)
  |calc cB (m:=PR _) (Pr (cB (pC (pC #[_,rfl,pC h]))) d)
  |calc cB (cB (m:=PR _) (Pr (pC (pC #[_,rfl,pC h])) d))
  |calc cB (cB (m:=PR _) (Pr (pC #[_,rfl,pC h]) d))
end HT
namespace L2
open PySem PySem.Spec PyProof.Rows
abbrev TO:=St->Hp->(Option Int->Hp->Prop)->Prop
meta def PO(X:Cx)(e:Option Expr)(t:TO):Prop :=
 ∀(d:Yi (Yh×Obj)) (s:fy) (g:St) (H:Hp) (Q:Option Int->Hp->Prop),Inv X d g H s->t g H Q ->
  OH (OM X.prog X.w) X.A (evalPart e X.env) (λu l=>∃o j,Inv X d g j l/\UC u o/\Q o j) X.xe s
abbrev qf:TO:=λ_ H Q=>Q Yc H
meta def NY(Q:Option Int->Hp->Prop):VK:=λx d=>∃i,x=.int i/\Q (Yb i) d
abbrev yj(t:TE):TO:=λd H Q=>t d H (NY Q)
def intsAre_of :∀{us:List eF},Vals (ns.map V.int) us->VB us ns:=by
 induction ns with
 |nil=>intro us r;rw[Qn]at r;cases r;calc .nil
 |cons n ns ih =>
  intro us r;rw[OQ]at r
  cases r with
  |cons r1 r2 =>
   let(t,e):=r1;subst e;calc .cons n t (ih r2)
def cQ :PO X Yc qf:=by
 intro d s g H Q I h;rw[evalPart_none];calc pC #[Yc,H,I,.none,h]
def bZ {e:Expr}{te:TE}(h:PE X e te):PO X (Yb e) (yj te):=by
 intro d s g H Q I l;rw[evalPart_some];calc cX (h d s g H _ I l) λu p ⟨x,o,m,j,q1⟩=>?_;let(i,rfl,q):=q1;let(t,rfl):=j;calc#[Yb i,o,m,.int i t,q]
meta def CJ(X:Cx)(r:V->Option Int->Option Int->Hp->VK->Prop):Prop :=
 ∀(d:Yi (Yh×Obj)) (s:fy) (g:St) (H:Hp) (x:V) (v l j:eF) (lo hi:Option Int) (m:Yh) (Q:VK),Inv X d g H s->RelV x v->s.heap.IsSliceOf m l j .none->UC l lo->UC j hi->r x lo hi H Q ->
  ∃T id,typeLookup (.type T) "__getitem__"=pure (Yb (.builtin id))/\s.TypeIs v T/\OH (OM X.prog X.w) X.A (SJ v (.ref m)) (EP X d g Q) X.xe s
def CJ.or (h:CJ X r)(h':CJ X p):CJ X (λx lo hi H Q=>r x lo hi H Q\/p x lo hi H Q):=by
 intro d s g H x v l j lo hi m Q I o y u t q;rcases q with q|q
 .exact h d s g H x v l j lo hi m Q I o y u t q
 .exact h' d s g H x v l j lo hi m Q I o y u t q
abbrev NZ(r:V->Option Int->Option Int->Hp->VK->Prop)(x:V)(l:Option Int)(Q:VK):Option Int->Hp->Prop:=λu d=>r x l u d Q
abbrev Oa(r:V->Option Int->Option Int->Hp->VK->Prop)(th:TO)(d:St)(x:V)(Q:VK):Option Int->Hp->Prop:=λl g=>th d g (NZ r x l Q)
abbrev Ob(r:V->Option Int->Option Int->Hp->VK->Prop)(tl th:TO)(d:St)(Q:VK):VK:=λx g=>tl d g (Oa r th d x Q)
abbrev Lg(r:V->Option Int->Option Int->Hp->VK->Prop)(te:TE)(tl th:TO):TE:=λd H Q=>te d H (Ob r tl th d Q)
def b6 {e:Expr}{te:TE}{lo hi:Option Expr}{tl th:TO}{pos p2:Pos}{r:V->Option Int->Option Int->Hp->VK->Prop}(hr:CJ X r)(O:PE X e te)(M:PO X lo tl)(J:PO X hi th):PE X (.Subscript e (.Slice lo hi Yc p2) pos) (Lg r te tl th):=by
 intro d s j H Q I h;calc U3 (cX (O d s j H _ I h) λv y ⟨x,H1,Y,z,q1⟩=>?_);calc wpAny_Slice (cX (M d y j H1 _ Y q1) λo t ⟨l,Z,W,G,C⟩=>cX (J d t j Z _ W C) λm g ⟨u,p,U,D,B⟩=>?_);rw[evalPart_none];calc pC ?_;let S:Inv X d j p {g with heap:=g.heap.push {cls:=.type "slice",data:=.fields #[o,m,.none,]}}:=U.kept (t':=g.toks) λb ob q=>mH _ q;let(T,id,R,L,N):=hr d {g with heap:=g.heap.push {cls:=.type "slice",data:=.fields #[o,m,.none,]}} j p x v o m l u g⁻¹ Q S z (T9 ..) G D B;show OH (OM X.prog X.w) X.A (VQ e (.Slice lo hi Yc p2) v (.ref g⁻¹)) (EP X d j Q) X.xe {g with heap:=g.heap.push {cls:=.type "slice",data:=.fields #[o,m,.none,]}};calc tail_any (ops:=[.ref g⁻¹,v]) L R N (by rfl')
meta def iE(xs:Yi V)(lo hi:Option Int):Yi V:=(xs.drop (HT.iw xs.length 0 lo)).take (HT.iw xs.length xs.length hi-HT.iw xs.length 0 lo)
def rP (xs:Yi V)(lo hi:Option Int):(iE xs lo hi).length<=xs.length:=by
 unfold iE;rw[x9,P6];omega
meta def Lh(K:bN):V->Option Int->Option Int->Hp->VK->Prop:=λx lo hi H Q=>∃a d,x=.ref a/\bY K H a d /\
 ¬(HT.iw d.length 0 lo=0/\HT.iw d.length d.length hi=d.length)/\∀p,H p=Yc->Q (.ref p) (upd H p (.J (iE d lo hi)))
def wN :CJ X (Lh X.K):=by
 intro l s D H x v J G lo hi L Q I t C y u h;let(a,g,rfl,z,B,q):=h
 cases t
 let(j,r,p,m):=I.tuple z;let d:j.toArray.size=g.length:=by rw[I0];exact r.length.symm
 calc#["tuple",_,Pb.lookup,p.typeIs,?_];calc HT.qe p C y u (by rw[d];calc B) ?_ (by rw[d];calc m);rw[d];calc#[.ref s⁻¹,_,I.laid (t':=s.toks) (o:=.J (iE g lo hi)) (λb M q=>mH _ q) (i5 _) ?_,rfl,q _ (I.hok.fresh (i5 _))];calc#[OX (rP g lo hi) m,_,(r.drop (HT.iw g.length 0 lo)).take (HT.iw g.length g.length hi-HT.iw g.length 0 lo),UM _ _,_,OI _ rfl,rfl]
meta def Li(K:bN):R2:=λx y H Q=>∃a b g d,x=.ref a/\y=.ref b/\bY K H a g/\bY K H b d/\g≠[]/\g.length+d.length<=lj /\
 (d=[]->Q (.ref a) H)/\(d≠[]->∀p,H p=Yc->Q (.ref p) (upd H p (.J (g++d))))
def Vals.wO (r:Vals xs us):us=[]↔xs=[]:=by
 cases r with
 |nil=>simp
 |cons _ _=>simp
def Ft :mV X (Q5 .Add) (Li X.K):=by
 intro g s M H x y v u Q I t r h;let(a,b,p,m,rfl,rfl,L,J,G,l,q1,B):=h
 cases t
 cases r
 let(D,d,C,_):=I.tuple L;let(j,r2,p2,_):=I.tuple J;calc HT.Fq C p2 (λz=>G (d.wO.mp z)) (λz=>#[.ref a,H,I,rfl,q1 (r2.wO.mp z)]) (λz=>?_) (by rw[<-d.length,<-r2.length];calc l);calc#[.ref s⁻¹,_,I.laid (t':=s.toks) (o:=.J (p++m)) (λb N q=>mH _ q) (i5 _) ?_,rfl,B (λw=>z (r2.wO.mpr w)) _ (I.hok.fresh (i5 _))];calc#[by rw[mu];calc l,_,d.append r2,UM _ _,_,OI _ rfl,rfl]
meta def zJ(n:Nat)(i:Int):Option Nat:=if 0<=i then(if i<n then Yb i.toNat else Yc)else if -(n:Int)<=i then Yb (i+n).toNat else Yc
meta def dZ{d:Type}(xs:List d)(i:Int):Option d:=(zJ xs.length i).bind λj=>xs[j]?
def AF (h:zJ n i=Yb j):seqIndex? i n=Yb j/\j<n/\-(n:Int)<=i/\i<n:=by
 unfold zJ at h
 by_cases g:0<=i
 .rw[if_pos g]at h
  by_cases d:i<n
  .rw[if_pos d]at h;let e:i.toNat=j:=OL h;exact#[by rw[seqIndex_of g d,e],(),(),d]
  .rw[if_neg d]at h;cases h
 .rw[if_neg g]at h
  by_cases d:-(n:Int)<=i
  .rw[if_pos d]at h;let e:(i+n).toNat=j:=OL h;exact#[by rw[seqIndex_neg () d,e],(),d,()]
  .rw[if_neg d]at h;cases h
def wQ {xs:List d}{v:d}(h:dZ xs i=Yb v):∃j,seqIndex? i xs.length=Yb j/\xs[j]?=Yb v/\j<xs.length/\-(xs.length:Int)<=i/\i<xs.length:=by
 unfold dZ at h
 cases e:zJ xs.length i with
 |none=>rw[e]at h;cases h
 |some j =>
  rw[e]at h;let(o,m,l,g):=AF e;calc#[j,o,h,m,l,g]
def aF {xs:List d}{j:Nat}{v:d}(h:xs[j]?=Yb v):dZ xs (j:Int)=Yb v:=by
 let g:j<xs.length:=(bH.mp h).1
 let e:zJ xs.length (j:Int)=Yb j:=by
  unfold zJ;rw[if_pos (),if_pos ()];simp
 unfold dZ;rw[e];calc h
def tQ (xs:List d)(v:d):dZ (xs++[v]) (-1)=Yb v:=by
 let g:(xs++[v]).length=xs.length+1:=by simp
 let e:zJ (xs++[v]).length (-1)=Yb xs.length:=by
  unfold zJ;rw[g,if_neg (by decide),if_pos ()]
  congr 1
  omega
 unfold dZ;rw[e];show(xs++[v])[xs.length]?=Yb v;simp
meta def Fv(b:Expr):Prop:=∀o i,Vp b Ye o i=operate [o,i] (SJ o i)
meta def C0(X:Cx)(r:R2):Prop :=
 ∀(e slice:Expr) (d:Yi (Yh×Obj)) (s:fy) (g:St) (H:Hp) (x y:V) (v u:eF) (Q:VK),Inv X d g H s->RelV x v->RelV y u->r x y H Q ->
  Vp slice Ye v u=operate [v,u] (SJ v u)->OH (OM X.prog X.w) X.A (VQ e slice v u) (EP X d g Q) X.xe s
meta def Me(X:Cx)(id:String)(r:V->Yi V->Hp->VK->Prop):Prop :=
 ∀(d:Yi (Yh×Obj)) (s:fy) (e:St) (H:Hp) (x:V) (g:Yi V) (v:eF) (j:List eF) (Q:VK),Inv X d e H s->RelV x v->Vals g j->r x g H Q ->
  OH (OM X.prog X.w) X.A (call (.builtin id) (v::j)) (EP X d e Q) X.xe s
def C0.or (h:C0 X r)(h':C0 X m):C0 X (λx y H Q=>r x y H Q\/m x y H Q):=by
 intro d slice e s g H x y v u Q I l j q o;rcases q with q|q
 .exact h d slice e s g H x y v u Q I l j q o
 .exact h' d slice e s g H x y v u Q I l j q o
def jD {a b:Expr}{ta tb:TE}{pos:Pos}{r:R2}(hr:C0 X r)(o:PE X a ta)(m:PE X b tb)(hs:Fv b):PE X (.Subscript a b pos) (BB r ta tb):=by
 intro d s e H Q I h;calc U3 (Jc o m I h λv u g x y t p l j q=>hr a b d g e t x y v u Q p l j q (hs _ _))
meta def Jm(K:bN):R2:=λx y H Q=>∃p d i v,x=.ref p/\y=.int i/\bA K H p d/\dZ d i=Yb v/\Q v H
meta def Fw(K:bN):R2:=λx y H Q=>∃p d i v,x=.ref p/\y=.int i/\bY K H p d/\dZ d i=Yb v/\Q v H
meta def Lj:R2:=λx y H Q=>∃z i c,x=.str z/\y=.int i/\z.length<=lj/\dZ z.cps.toList i=Yb c/\Q (.str ⟨#[c]⟩) H
def aZ :C0 X (Jm X.K):=by
 intro g slice d s C H x y v u Q I N M h D;let(p,W,i,z,rfl,rfl,O,S,q):=h
 cases N
 let(t,rfl):=M;let(o,r,m,Y):=I.list O;let(j,e,V,h3,U,T):=wQ S;let(w,J,l):=r.get V;let R:=r.length;let Z:=pJ;let fin:EP X d C Q w s:=#[z,H,I,l,q]
 by_cases G:0<=i
 .have B:i.toNat=j:=by
   rw[seqIndex_of G T]at e;exact OL e
  exact item_listR m.isList G () (by rw[B];simpa using J) fin D
 .have B:(i+(o.toArray.size:Int)).toNat=j:=by
   rw[seqIndex_neg () U]at e;rw[I0,<-R];exact OL e
  exact U4 (x:=w) m.isList.typeIs Ur.lookup
   (wpAny_getItem_list_neg (Q:=λr L=>r=w/\EP X d C Q r L) m.isList () (by rw[I0]<;>omega) () (by rw[B];simpa using J) #[rfl,fin]) D
def aI :C0 X (Fw X.K):=by
 intro e slice d s l H x y v u Q I C B h G;let(p,S,i,z,rfl,rfl,J,M,q):=h
 cases C
 let(t,rfl):=B;let(D,r,m,T):=I.tuple J;let(j,O,N,Y,W,V):=wQ M;let(w,R,g):=r.get N;let L:=r.length;let U:=pJ;let fin:EP X d l Q w s:=#[z,H,I,g,q]
 exact U4 (x:=w) m.typeIs slot_tuple_getitem.lookup
  (getItem_tuple (j:=j) (Q:=λr o=>r=w/\EP X d l Q r o) m () () (by rw[I0,<-L];calc O) (by simpa using R) #[rfl,fin]) G
def wR :C0 X Lj:=by
 intro d slice e s L H x y v u Q I m l h o;let(z,i,c,rfl,rfl,N,r,q):=h;let(t,rfl):=m;let(M,rfl):=l;let(j,g,D,R,C,B):=wQ r;let p:z.cps.toList.length=z.length:=by simp[U5]
 rw[p]at g C B;let O:=pJ
 calc tail_any (typeIs_str s z t) slot_str_getitem.lookup (getItem_str (c:=c) (by
  let J:decide (i < -(2 ^ 63:Int))=Ye:=decide_eq_false ();let G:decide (i ≥ 2 ^ 63)=Ye:=decide_eq_false ();rw[J,G,Bool.or_false]) (by rw[g];simpa using D) #[.str ⟨#[c]⟩,H,I.tok _,#[_,rfl],q]) o
meta def Io(K:bN):R2:=λx y H Q=>Jm K x y H Q\/Fw K x y H Q\/Lj x y H Q
def nB :C0 X (Io X.K):=aZ.or (aI.or wR)
def zK (d:List eF)(n j:Nat)(u:eF):U6 (·.setIfInBounds j u) {cls:=.type "list",data:=.seq d.toArray n}={cls:=.type "list",data:=.seq (d.set j u).toArray n}:=by
 simp[U6]
def Inv.Y (I:Inv X g j H s)(h:H p=Yb (.Y xs)):
  ∃(d:List eF) (n:Nat),Vals xs d/\s.heap.get? p=Yb {cls:=.type "list",data:=.seq d.toArray n}/\xs.length<=lj:=by
 let(z,d,n,r,e):=I.hok p _ h;calc#[d,n,r,e,z]
def Inv.Jo {g:List eF}(I:Inv X d l H s)(h:H p=Yb (.Y xs))(ho:s.heap.get? p=Yb {cls:=.type "list",data:=.seq g.toArray n})(hf:f {cls:=.type "list",data:=.seq g.toArray n}={cls:=.type "list",data:=.seq its'.toArray j})(r:Vals ys its')(hz:ys.length<=lj)(t:Nat):
  Inv X d l (upd H p (.Y ys)) {s with heap:=s.heap.update p f,toks:=t}:=by
 let e:(s.heap.update p f).get? p=Yb {cls:=.type "list",data:=.seq its'.toArray j}:=by
  rw[Ql f ho (by rw[hf]<;>rfl),hf]
 calc I.write (x:=p) (e:=p) (by rw[h];trivial) (.inl rfl) (λb u m q=>(P1 _ _ (Rj m)).trans q) #[_,e] ?_;calc#[hz,its',j,r,e]
meta def Lk:V->V->V->Hp->(Hp->Prop)->Prop:=λo i v H Q=>∃p d k j,o=.ref p/\i=.int k/\H p=Yb (.Y d)/\zJ d.length k=Yb j/\Q (upd H p (.Y (d.set j v)))
def set_list :K1 X Lk:=by
 intro d s J H o i v T U u Q I N O M h;let(p,L,k,j,rfl,rfl,z,S,q):=h
 cases N
 let(t,rfl):=O;let(e,n,r,l,R):=I.Y z;let(g,Y,C,B):=AF S;let m:=r.length;let V:=pJ
 let G:Inv X d J (upd H p (.Y (L.set j v))) {s with heap:=s.heap.update p (U6 (·.setIfInBounds j u))} :=
  I.Jo z l (zK e n j u) (r.set M j) (by rw[Ve];calc R) s.toks
 by_cases D:0<=k
 .have y:k.toNat=j:=by
   rw[seqIndex_of D B]at g;exact OL g
  exact PySem.W.ki_setAt l D () (by rw[I0,<-m];calc B) (by rw[y];calc#[_,G,q])
 .have y:(k+(e.toArray.size:Int)).toNat=j:=by
   rw[seqIndex_neg () C]at g;rw[I0,<-m];exact OL g
  calc PySem.W.ki_setBack l () (by rw[I0,<-m];calc C) () (by rw[y];calc#[_,G,q])
def wU (d hi:Option Int)(n:Nat):(PU d hi Yc n).1=((HT.iw n 0 d:Nat):Int)/\(PU d hi Yc n).2.1=((HT.iw n n hi:Nat):Int)/\(PU d hi Yc n).2.2=1:=by
 refine#[?_,?_,rfl]
 .cases d with
  |none=>simp[PU,HT.iw]
  |some i =>
   simp only[PU,HT.iw,Wl,show(1:Int)>0 by decide,if_true]
   by_cases h:i<0
   .simp only[h,if_true]<;>omega
   .simp only[h,if_false]<;>omega
 .cases hi with
  |none=>simp[PU,HT.iw]
  |some i =>
   simp only[PU,HT.iw,Wl,show(1:Int)>0 by decide,if_true]
   by_cases h:i<0
   .simp only[h,if_true]<;>omega
   .simp only[h,if_false]<;>omega
def vd (d:List eF)(e hi:Option Int):Wm d.toArray e hi Yc=((d.drop (HT.iw d.length 0 e)).take (HT.iw d.length d.length hi-HT.iw d.length 0 e)).toArray:=by
 let(l,j,g):=wU e hi d.toArray.size;unfold Wm;rw[l,j,g];simp only[sliceRange_one,pick_run,I0]<;>rfl
meta def Ll(K:bN):V->Option Int->Option Int->Hp->VK->Prop:=λx e g H Q=>∃a d,x=.ref a/\bA K H a d/\∀p,H p=Yc->Q (.ref p) (upd H p (.Y (iE d e g)))
def qg :CJ X (Ll X.K):=by
 intro l s D H x v J G g j L Q I p C u t h;let(a,d,rfl,B,q):=h
 cases p
 let(y,r,m,z):=I.list B;let e:=r.length;calc#["list",_,Ur.lookup,m.isList.typeIs,?_];refine UD m.isList C u t .none (by simp) ?_ (by rw[I0]<;>omega)
 rw[vd,<-e];calc#[.ref s⁻¹,_,I.laid (t':=s.toks) (o:=.Y (iE d g j)) (λb M q=>mH _ q) (i5 _) ?_,rfl,q _ (I.hok.fresh (i5 _))];calc#[OX (rP d g j) z,_,0,(r.drop (HT.iw d.length 0 g)).take (HT.iw d.length d.length j-HT.iw d.length 0 g),OI _ rfl]
meta def oW:V->Bool
 |.eR=>Yd
 |.bl _=>Yd
 |.int _=>Yd
 |.str _=>Yd
 |_=>Ye
meta def Fx:V->V->Bool
 |.eR,.eR=>Yd
 |.bl a,.bl b=>a == b
 |.bl a,.int b=>(if a then 1 else 0) == b
 |.int a,.bl b=>a == (if b then 1 else 0)
 |.int a,.int b=>a == b
 |.str a,.str b=>a == b
 |_,_=>Ye
def C1 (g:RelV y u)(d:RelV x v)(l:oW y=Yd)(j:oW x=Yd):Qo A s u v (Fx y x):=by
 cases y with
 |eR =>
  cases g
  cases x with
  |eR=>cases d;calc Qo.same _
  |bl b=>cases d;calc Qo.none_bool b
  |int b=>let(t,rfl):=d;calc Qo.none_int b t
  |str b=>let(t,rfl):=d;calc Qo.none_str b t
  |_=>calc absurd (show Ye=Yd from j) OP
 |bl a =>
  cases g
  cases x with
  |eR=>cases d;calc Qo.bool_none a
  |bl b=>cases d;calc Qo.bool_bool a b
  |int b=>let(t,rfl):=d;calc Qo.bool_int a b t
  |str b=>let(t,rfl):=d;calc Qo.bool_str a b t
  |_=>calc absurd (show Ye=Yd from j) OP
 |int a =>
  let(e,rfl):=g
  cases x with
  |eR=>cases d;calc Qo.int_none a e
  |bl b=>cases d;calc Qo.int_bool a e b
  |int b=>let(t,rfl):=d;calc Qo.int_int a e b t
  |str b=>let(t,rfl):=d;calc VS a e b t
  |_=>calc absurd (show Ye=Yd from j) OP
 |str a =>
  let(e,rfl):=g
  cases x with
  |eR=>cases d;calc Qo.str_none a e
  |bl b=>cases d;calc Qo.str_bool a e b
  |int b=>let(t,rfl):=d;calc VT a e b t
  |str b=>let(t,rfl):=d;calc Qo.str_str a e b t
  |_=>calc absurd (show Ye=Yd from j) OP
 |_=>calc absurd (show Ye=Yd from l) OP
meta def zL(x:V)(u:eF):Bool:=match u with
 |.none=>Fx .eR x
 |.bool b=>Fx (.bl b) x
 |.int i _=>Fx (.int i) x
 |.str z _=>Fx (.str z) x
 |_=>Ye
def C2 (r:RelV y u)(f:oW y=Yd):zL x u=Fx y x:=by
 cases y with
 |eR=>cases r;rfl
 |bl b=>cases r;rfl
 |int i=>let(t,rfl):=r;rfl
 |str z=>let(t,rfl):=r;rfl
 |_=>calc absurd (show Ye=Yd from f) OP
theorem qh :∀{xs:Yi V}{us:List eF},Vals xs us->xs.all oW=Yd->us.any (zL x)=xs.any λy=>Fx y x
 |_,_,.nil,_=>rfl
 |y::xs,u::us,.cons r t,f=>by
  rw[UE,Pd]at f;rw[S8,S8,C2 r f.1,qh t f.2]
theorem nC (d:RelV x v)(e:oW x=Yd):∀{xs:Yi V}{us:List eF},Vals xs us->xs.all oW=Yd->∀u∈us,Qo A s u v (zL x u)
 |_,_,.nil,_=>λu hu=>by cases hu
 |y::xs,u::us,.cons r t,f=>λg hu=>by
  rw[UE,Pd]at f;rcases L0.mp hu with rfl|hu
  .rw[C2 r f.1];exact C1 r d f.1 e
  .exact nC d e t f.2 g hu
meta def nh(x:V)(xs:Yi V):Bool:=xs.any λy=>Fx y x
meta def MI(K:bN)(e:Bool):R2:=λx y H Q=>∃p d,y=.ref p/\(bA K H p d\/bY K H p d)/\oW x=Yd/\d.all oW=Yd/\Q (.bl (if e then !nh x d else nh x d)) H
def eB :mV X (P5 .In) (MI X.K Ye):=by
 intro l s z H x y v u Q I j o h;let(p,B,rfl,hq,m,fs,q):=h
 cases o
 rcases hq with hq|hq
 .have(d,r,e,t):=I.list hq;calc SeqAt.in_listAt (zL x) e.isList (λw g=>nC j m r fs w (by simpa using g)) #[.bl _,H,I,rfl,?_];rw[show d.toArray.any (zL x)=d.any (zL x) by simp,qh r fs];exact q
 .have(d,r,e,t):=I.tuple hq;calc SeqAt.in_tupleAt (zL x) e (λw g=>nC j m r fs w (by simpa using g)) #[.bl _,H,I,rfl,?_];rw[show d.toArray.any (zL x)=d.any (zL x) by simp,qh r fs];calc q
def lZ :mV X (P5 .NotIn) (MI X.K Yd):=by
 intro l s z H x y v u Q I j o h;let(p,B,rfl,hq,m,fs,q):=h
 cases o
 rcases hq with hq|hq
 .have(d,r,e,t):=I.list hq;calc SeqAt.notIn_listAt (zL x) e.isList (λw g=>nC j m r fs w (by simpa using g)) #[.bl _,H,I,rfl,?_];rw[show d.toArray.any (zL x)=d.any (zL x) by simp,qh r fs];exact q
 .have(d,r,e,t):=I.tuple hq;calc SeqAt.notIn_tupleAt (zL x) e (λw g=>nC j m r fs w (by simpa using g)) #[.bl _,H,I,rfl,?_];rw[show d.toArray.any (zL x)=d.any (zL x) by simp,qh r fs];calc q
def aM :iL X (.builtin "len") (λxs H Q=>∃p ys,xs=[.ref p]/\(bA X.K H p ys\/bY X.K H p ys)/\Q (.int ys.length) H):=by
 intro l s t H xs v Q I r h;let(p,ys,rfl,hq,q):=h;let(u,rfl,m):=vals1 r
 cases m
 let y:=pJ;rcases hq with hq|hq
 .have(j,e,g,o):=I.list hq;let d:=e.length;exact Calls.call_len_list g.isList (by simp only[I0]<;>omega) #[.int ys.length,H,I.tok _,#[s.toks+1,by rw[I0,d]],q]
 .have(j,e,g,o):=I.tuple hq;let d:=e.length;calc len_tuple g (by simp only[I0]<;>omega) #[.int ys.length,H,I.tok _,#[s.toks+1,by rw[I0,d]],q]
def qi :iL X (.builtin "len") (λxs H Q=>∃z,xs=[.str z]/\z.length<=lj/\Q (.int z.length) H):=by
 intro d s e H xs g Q I r h;let(z,rfl,j,q):=h;let(u,rfl,t,rfl):=vals1 r;let l:=pJ;calc len_str () #[.int z.length,H,I.tok _,#[_,rfl],q]
def jU :iL X (.type "list") (λxs H Q=>∃p ys,xs=[.ref p]/\(bA X.K H p ys\/bY X.K H p ys)/\∀l,H l=Yc->Q (.ref l) (upd H l (.Y ys))):=by
 intro t s G H xs L Q I r h;let(p,ys,rfl,hq,q):=h;let(u,rfl,J):=vals1 r
 cases J
 let fin:∀(d:List eF),Vals ys d->ys.length<=lj->∀(g:Heap) (m:Nat),(∀b D,s.heap.get? b=Yb D->g.get? b=Yb D) ->
   g.get? s⁻¹=Yb {cls:=.type "list",dict:=Yc,data:=.seq d.toArray m,slots:=#[]}->EP X t G Q (.ref s⁻¹) {s with heap:=g}:=λd j v g m kp e =>
  #[.ref s⁻¹,_,I.laid (t':=s.toks) kp (i5 _) (show eS X.prog X.w _ g _ (.Y ys)from#[v,d,m,j,e]),rfl,q _ (I.hok.fresh (i5 _))]
 rcases hq with hq|hq
 .have(d,j,z,v):=I.list hq;let y:=j.length;let(o,B,C,n,hd):=z.isList;exact call_list_seq p (.inl rfl) B C hd (λg m kp e=>fin d j v g m kp e) (by simp only[I0]<;>omega)
 .have(d,j,z,v):=I.tuple hq;let y:=j.length;let(o,B,C,n,hd):=z;calc call_list_seq p (.inr rfl) B C hd (λg m kp e=>fin d j v g m kp e) (by simp only[I0]<;>omega)
def cg :iL X (.type "tuple") (λxs H Q=>∃p ys,xs=[.ref p]/\((bA X.K H p ys/\∀l,H l=Yc->Q (.ref l) (upd H l (.J ys)))\/(bY X.K H p ys/\Q (.ref p) H))):=by
 intro d s v H xs G Q I r h;let(p,ys,rfl,h):=h;let(u,rfl,C):=vals1 r
 cases C
 rcases h with⟨hq,q⟩|⟨hq,q⟩
 .have(g,m,t,y):=I.list hq;let z:=m.length;refine call_tuple_list t.isList (λj kp=>?_) (by simp only[I0]<;>omega)
  let B:Inv X d v H {s with heap:=j}:=I.kept (t':=s.toks) kp
  let D:Inv X d v (upd H j.objs.size (.J ys)) {s with heap:=j.push {cls:=.type "tuple",data:=.seq g.toArray}} :=
   B.laid (t':=s.toks) (λb o e=>mH _ e) (i5 _) (show eS X.prog X.w _ _ _ (.J ys)from#[y,g,m,UM _ _,_,OI _ rfl,rfl])
  exact#[.ref j.objs.size,_,D,rfl,q _ (B.hok.fresh (i5 _))]
 .have(g,m,t,y):=I.tuple hq;calc call_tuple_same t #[.ref p,H,I,rfl,q]
meta def Mf(K:bN)(T:String)(x:V)(H:Hp):Prop:=match x with
 |.str _=>T="str"
 |.int _=>T="int"
 |.ref p=>(T="list"/\∃e,bA K H p e)\/(T="tuple"/\∃o,K.lookup p=Yb o/\o.cls=.type "tuple"/\o.dict=Yc) \/
   (T="dict"/\((∃d,H p=Yb (.dK d))\/∃d,H p=Yb (.dT d)))\/(T="set"/\∃S n,H p=Yb (.set S n))
 |_=>False
def C4 {T:String}(I:Inv X d m H s)(r:RelV x v)(ty:Mf X.K T x H):
  s.TypeIs v T/\∀a,v=.ref a->∃l,s.heap.get? a=Yb l/\l.dict=Yc:=by
 cases x with
 |str z =>
  let(t,rfl):=r
  cases(show T="str" from ty)
  calc#[typeIs_str s z t,λ_ e=>nomatch e]
 |int i =>
  let(t,rfl):=r
  cases(show T="int" from ty)
  calc#[Sf s i t,λ_ e=>nomatch e]
 |ref p =>
  cases r
  rcases ty with⟨rfl,xs,hq⟩|⟨rfl,o,hk,hc,hd⟩|⟨rfl,hk⟩|⟨rfl,S,n,hk⟩
  .have(q,_,j,_):=I.list hq;refine#[j.isList.typeIs,λa e=>?_]
   cases e
   let(o,n,e,c,hd,_):=j;exact#[o,e,hd]
  .refine#[#[o,I.tG p o hk,hc],λa e=>?_]
   cases e
   exact#[o,I.tG _ o hk,hd]
  .have z:∃o,s.heap.get? p=Yb o/\o.ExactDict:=by
    rcases hk with⟨kvs,hk⟩|⟨kvs,hk⟩
    .have(_,_,_,_,o,_,_,e,ex,_):=I.hok p _ hk;exact#[o,e,ex]
    .have(_,_,_,_,o,_,_,e,ex,_):=I.hok p _ hk;exact#[o,e,ex]
   let(o,e,ex):=z;refine#[#[o,e,ex.1],λa g=>?_]
   cases g
   exact#[o,e,ex.2.1]
  .have(o,_,_,_,e,ex,_):=I.hok p _ hk;refine#[#[o,e,ex.1],λa g=>?_]
   cases g
   calc#[o,e,ex.2.1]
 |_=>calc P7 ty
abbrev Oc(r:V->Yi V->Hp->VK->Prop)(x:V)(Q:VK):Yi V->Hp->Prop:=λd e=>r x d e Q
meta def Od(K:bN)(T:String)(r:V->Yi V->Hp->VK->Prop)(t:TA)(e:St)(Q:VK):VK:=λx d=>Mf K T x d/\t e d (Oc r x Q)
meta def MJ(K:bN)(T:String)(r:V->Yi V->Hp->VK->Prop)(g:TE):TE:=λe H Q=>g e H λx d=>Mf K T x d/\r x [] d Q
abbrev Oe(K:bN)(T:String)(r:V->Yi V->Hp->VK->Prop)(e:TE)(t:TA):TE:=λd H Q=>e d H (Od K T r t d Q)
def Jp {T id:String}(u:PlainAttrs T)(g:Slot T name id)(j:typeOf (.builtin id)=pure (.type "method_descriptor"))(z:Me X id r)(y:PE X o to)(hbase:R8 o name X.env (eval o X.env)=eval o X.env:=by rfl)(hline:(apos.endLine == cpos.line)=Yd:=by rfl):PE X (.Call (.Attribute o name apos) [] [] cpos) (MJ X.K T r to):=by
 intro d s l H Q I h;calc UP hbase hline (cX (y d s l H _ I h) λv q ⟨x,D,p,m,ty,q1⟩=>?_);let(C,B):=C4 p m ty;calc#[T,id,u,g,j,C,B,U7 rfl (VE (z d q l D x [] v [] Q p m .nil q1))]
def yk {o e:Expr}{es:Yi Expr}{to:TE}{t:TA}{name:Yg}{apos cpos:Pos}{T id:String}{r:V->Yi V->Hp->VK->Prop}(G:PlainAttrs T)(g:Slot T name id)(l:typeOf (.builtin id)=pure (.type "method_descriptor"))(L:Me X id r)(J:PE X o to)(M:PA X (e::es) t)(hbase:R8 o name X.env (eval o X.env)=eval o X.env:=by rfl)(hfew:((TM cpos (PB (e::es) X.env)).all (λx=>!x.1)&&(backToKw cpos (keywordEach [] X.env)).all (λx=>x.1.isSome)
   && decide ((e::es).length+([]:Yi Keyword).length+(if([]:Yi Keyword).isEmpty then 0 else 1)<30))=Yd:=by rfl)(hline:(apos.endLine == cpos.line)=Yd:=by rfl)(hs:PB (e::es) X.env=(Ye,eval e X.env)::PB es X.env:=by rfl)(hplain:(TM cpos (PB es X.env)).any (·.1)=Ye:=by rfl):
  PE X (.Call (.Attribute o name apos) (e::es) [] cpos) (Oe X.K T r to t):=by
 intro d s j H Q I h;calc wpAny_Call_method_late hbase hfew hline rfl (cX (J d s j H _ I h) λv C ⟨x,U,u,p,ty,q1⟩=>?_);let(O,N):=C4 u p ty;calc#[T,id,G,g,l,O,N,?_];let q:=M cpos d C j U _ u q1;rw[hs]at q|-;refine U7 (by show(Ye||(TM cpos (PB es X.env)).any (·.1))=Ye;rw[hplain]<;>rfl) (Calls.evalArgs_plain ?_)
 calc cX q λz B ⟨y,S,R,r2,D⟩=>L d B j S x y v z Q R p r2 D
meta def Mg(X:Cx)(id:String)(r:V->Yi V->Hp->VK->Prop):Prop :=
 ∀(d:Yi (Yh×Obj)) (s:fy) (e:St) (H:Hp) (x:V) (g:Yi V) (v:eF) (j:List eF) (Q:VK),Inv X d e H s->RelV x v->Vals g j->r x g H Q ->
  OH (OM X.prog X.w) X.A (call (.builtin id) (v::j)) (EP X d e Q) X.xe s
theorem Vals.one :∀{x:V}{us:List eF},Vals [x] us->∃u,us=[u]/\RelV x u
 |_,_,.cons r .nil=>#[_,rfl,r]
theorem Vals.zero :∀{us:List eF},Vals [] us->us=[]
 |_,.nil=>rfl
def Vals.dropLast (h:Vals xs us):Vals xs.dropLast us.dropLast:=by
 induction h with
 |nil=>calc .nil
 |cons r t ih =>
  cases t with
  |nil=>calc .nil
  |cons q t'=>calc .cons r ih
def Vals.reverse (h:Vals xs us):Vals xs.reverse us.reverse:=by
 induction h with
 |nil=>calc .nil
 |cons r t ih=>rw[Rm,Rm];calc Vals.append ih (.cons r .nil)
theorem Vals.rep (h:Vals xs us):∀k:Nat,Vals (L1 k xs).flatten (L1 k us).flatten
 |0=>.nil
 |k+1=>by
  rw[Qi,Qi,Rn,Rn];calc Vals.append h (Vals.rep h k)
def zM {d:Type}(l:List d):l.eraseIdx (l.length-1)=l.dropLast:=by
 induction l with
 |nil=>rfl
 |cons a r ih =>
  cases r with
  |nil=>rfl
  |cons b r =>
   let e:(a::b::r).length-1=((b::r).length-1)+1:=by
    let j:(a::b::r).length=r.length+2:=rfl;let g:(b::r).length=r.length+1:=rfl;omega
   rw[e,List.eraseIdx_cons_succ,ih]
   all_goals rfl
theorem foldl_rep (d:List eF):∀(k:Nat) (g:List eF),
  Ua (λl j=>l++j) g.toArray (L1 k d.toArray)=(g++(L1 k d).flatten).toArray
 |0,g=>by simp
 |k+1,g=>by
  let e:g.toArray++d.toArray=(g++d).toArray:=by simp
  let m:(g++d)++(L1 k d).flatten=g++(L1 (k+1) d).flatten:=by
   rw[Qi,Rn,PC]
  rw[<-m,<-foldl_rep d k (g++d),<-e,Qi,List.foldl_cons]
def Inv.Jq {d:List eF}(I:Inv X pins σ H s)(m:H l=Yb (.Y xs))(e:s.heap.get? l=Yb {cls:=.type "list",data:=.seq d.toArray n})(hf:f d.toArray=its'.toArray)(hv:Vals ys its')(hz:ys.length<=lj):
  Inv X pins σ (upd H l (.Y ys)) {s with heap:=s.heap.update l (U6 f),toks:=t'}:=by
 let q:=PySem.IsL.update e f;rw[hf]at q;calc I.write (x:=l) (e:=l) (by rw[m];calc trivial) (.inl rfl) (λo u j g=>(P1 s.heap (U6 f) (Rj j)).trans g) #[_,q] ?_;calc#[hz,its',_,hv,q]
def Inv.Ln (I:Inv X pins σ H s)(g:Vals ys d)(e:ys.length<=lj):
  Inv X pins σ (upd H s⁻¹ (.Y ys)) {s with heap:=s.heap.push {cls:=.type "list",data:=.seq d.toArray},toks:=t'} :=
 I.laid (λ_ _ q=>mH _ q) (i5 _) #[e,d,0,g,OI _ rfl]
def Inv.fresh (I:Inv X pins σ H s):H s⁻¹=Yc:=I.hok.fresh (i5 _)
def Inv.yl (I:Inv X pins σ H s)(g:H l=Yb (.Y xs)):xs.length<=lj/\∃(d:List eF) (n:Nat),Vals xs d/\xs.length=d.length/\s.heap.get? l=Yb {cls:=.type "list",data:=.seq d.toArray n}:=by
 let(z,d,n,r,e):=I.hok l _ g;calc#[z,d,n,r,r.length,e]
def ym (h:n<=lj):Rr n=Ye:=by
 unfold Rr;calc decide_eq_false ()
meta def Fy:V->Yi V->Hp->VK->Prop:=λx e H Q=>∃l d y,x=.ref l/\e=[y]/\H l=Yb (.Y d)/\d.length<lj/\Q .eR (upd H l (.Y (d++[y])))
def BF :Mg X "list.append" Fy:=by
 intro g s t H x C v D Q I m o h;let(l,B,y,rfl,rfl,j,G,q):=h
 cases m
 let(u,rfl,p):=o.one;let(z,d,n,r,J,e):=I.yl j;calc RA F.slot_list_append #[_,e,rfl] F.entry_list_append (F.args_list_append_2 _ _) (PySem.list_append l d.toArray n u (by rw[I0];omega)) #[e,?_];calc#[.eR,_,I.Jq (its':=d++[u]) j e (by simp) (r.append (.cons p .nil)) ?_,rfl,q];rw[mu,SW];omega
meta def Fz:V->Yi V->Hp->VK->Prop:=λx g H Q=>∃l b e d,x=.ref l/\g=[.ref b]/\H l=Yb (.Y e)/\H b=Yb (.Y d)/\e.length+d.length<=lj/\Q .eR (upd H l (.Y (e++d)))
def vK :Mg X "list.extend" Fz:=by
 intro o s L H x R v S Q I t y h;let(l,b,O,M,rfl,rfl,p,G,T,q):=h
 cases t
 let(u,rfl,B):=y.one
 cases B
 let(z,g,n,r,U,e):=I.yl p;let(N,d,C,r2,D,J):=I.yl G;let m:g.toArray.size+d.toArray.size<=lj:=by rw[I0,I0];omega
 let j:¬(!g.toArray.isEmpty&&Rr (g.toArray.size+d.toArray.size))=Yd:=by
  rw[ym m,Vq];exact OP
 refine RA F.slot_list_extend #[_,e,rfl] F.entry_list_extend (F.args_list_extend_2 _ _)
  (AutoSeq1.list_extend_list_list_0 l g.toArray n b d.toArray C j (by rw[I0];omega) ()) #[e,J,?_]
 calc#[.eR,_,I.Jq (its':=g++d) p e (by simp) (r.append r2) ?_,rfl,q];rw[mu];omega
meta def ML:V->Yi V->Hp->VK->Prop:=λx e H Q=>∃l d y,x=.ref l/\e=[]/\H l=Yb (.Y d)/\d[d.length-1]?=Yb y/\Q y (upd H l (.Y d.dropLast))
def Jr :Mg X "list.pop" ML:=by
 intro m s J H x M v N Q I p t h;let(l,L,y,rfl,rfl,o,C,q):=h
 cases p
 let j:=t.zero;subst j;let(z,d,n,r,G,e):=I.yl o;let(u,D,B):=r.get C
 let g:d.toArray[d.toArray.size-1]?=Yb u:=by
  show d.toArray[d.length-1]?=Yb u;rw[<-Vk,<-G];exact D
 calc RA F.slot_list_pop #[_,e,rfl] F.entry_list_pop (F.args_list_pop_1 _) (MeetsSeq.list_pop_last l d.toArray n u g (by rw[I0];omega)) #[e,?_];refine#[y,_,I.Jq (its':=d.dropLast) o e ?_ r.dropLast ?_,B,q]
 .show d.toArray.eraseIdxIfInBounds (d.toArray.size-1)=d.dropLast.toArray;rw[I0,List.eraseIdxIfInBounds_toArray,zM]
 .rw[Tf];omega
meta def Lp:R2:=λx y H Q=>∃l b e d,x=.ref l/\y=.ref b/\H l=Yb (.Y e)/\H b=Yb (.Y d)/\e.length+d.length<=lj/\∀p,H p=Yc->Q (.ref p) (upd H p (.Y (e++d)))
def iW :mV X (Q5 .Add) Lp:=by
 intro j s G H x y v u Q I o m h;let(l,b,M,J,rfl,rfl,t,B,O,q):=h
 cases o
 cases m
 let(z,g,n,r,R,e):=I.yl t;let(L,d,N,r2,p,D):=I.yl B;calc PySem.P.add_list e D ?_ (by rw[I0,I0];omega);let C:g.toArray++d.toArray=(g++d).toArray:=by simp
 rw[C];calc#[.ref _,_,I.Ln (t':=s.toks) (r.append r2) (by rw[mu];omega),rfl,q _ I.fresh]
meta def MM:R2:=λx y H Q=>∃l k d,x=.ref l/\y=.int k/\H l=Yb (.Y d)/\-(2 ^ 63)<=k/\k<2 ^ 63/\d.length*k.toNat<=lj /\
 ∀p,H p=Yc->Q (.ref p) (upd H p (.Y (L1 k.toNat d).flatten))
def len_rep {d:Type}(xs:List d)(k:Nat):(L1 k xs).flatten.length=k*xs.length:=by
 induction k with
 |zero=>simp
 |succ k ih=>rw[Qi,Rn,mu,ih,U8,Nat.add_comm]
def C5 :mV X (Q5 .Mult) MM:=by
 intro G s Y H x y v u Q I N M h;let(l,k,Z,rfl,rfl,R,V,S,J,q):=h
 cases N
 let(t,rfl):=M;let(z,d,n,r,O,e):=I.yl R;let o:d.toArray.size*k.toNat<=lj:=by rw[I0,<-O];exact J
 let B:¬d.toArray.size*k.toNat>(2 ^ 63-1) / 8:=by
  let:(lj:Nat)<=(2 ^ 63-1) / 8:=by decide
  omega
 let p:¬(!Ry.List.listFitsIndex k)=Yd:=by
  rw[fitsIndex_both V S];exact OP
 let g:¬Rr (d.toArray.size*k.toNat)=Yd:=by
  rw[ym o];exact OP
 let j:Ua (λD C=>D++C) #[] (L1 (if d.toArray.isEmpty=Yd then 0 else k.toNat) d.toArray)=(L1 k.toNat d).flatten.toArray:=by
  let W:∀m:Nat,Ua (λD C=>D++C) #[] (L1 m d.toArray)=(L1 m d).flatten.toArray:=λm=>by
   let:=foldl_rep d m [];rw[QM]at this;exact this
  rw[W]
  cases d with
  |nil=>simp
  |cons a r'=>rw[if_neg (by simp)]
 refine Ul (T:="list") (U:="int") (by decide) #[_,e,rfl] (λL=>Sf L k t) noFill_list_mul F.fills_int_mul Sg repeat_list F.slot_int_index.lookup
  (RA Sg (Sf s k t) F.entry_int_rmul (F.args_int_rmul_2 _ _) (int___rmul___int_list k t l d.toArray n)
   #[e,rfl,#[_,e,rfl],RA F.slot_list_mul #[_,e,rfl] F.entry_list_mul (F.args_list_mul_2 _ _) (AutoListH.list___mul___list_int_3 l d.toArray n k t p B g) #[e,?_]])
 rw[j];calc#[.ref _,_,I.Ln (t':=s.toks) (r.rep k.toNat) (by rw[len_rep,Nat.mul_comm];calc J),rfl,q _ I.fresh]
end L2
namespace Att
open PySem PySem.W PySem.Calls PyProof.Rows
def sE :∀(ns:Yi Int) (vs:List eF),WellAll P h vs (ns.map WData.int)->VB vs ns:=by
 intro ns
 induction ns with
 |nil =>
  intro vs w;rw[Qn]at w
  cases w
  calc .nil
 |cons n ns ih =>
  intro vs w;rw[OQ]at w
  cases w with
  |cons a b =>
   cases a
   calc .cons _ _ (ih _ b)
def BG {l:Tw}(hn:l.most=Yb n)(hpre:l.row.toRowW.claim.pre args=Yd)(hwl:WellAll P h e args):
  ∃a vs ns,e=[Value.ref a]/\args=[WData.list (ns.map WData.int)]/\h.get? a=Yb {cls:=.type "list",data:=.seq vs.toArray}/\VB vs ns/\ns.length<=n:=by
 let o:WShape.hasAll [] args [.list .int]=Yd:=(pre_splitW hpre).1;let p:l.pre.holds [] {args:=args}=Yd:=(pre_splitW hpre).2;let(d,r,rfl,y,v):=hasAllW_cons o;obtain rfl:=hasAllW_nil v;let(z,rfl,u):=hasW_list y;let(ns,rfl):=items_int u
 let g:ns.length<=n:=by
  unfold Tw.pre at p
  let m:(WTm.not (.lt (.lit (.int (n:Int))) (.len (.arg 0)))).holds [] {args:=[.list (ns.map .int)]}=Yd:=by
   let m:=(holds_andW p).1;rw[hn]at m;exact m
  let j:=condW_of m (w_not (w_lt w_lit (w_len_list (w_arg rfl))));rw[bM]at j;calc Nat.le_of_not_lt λq=>?_;let t:(n:Int)<((ns.length:Nat):Int):=()
  first
   |(rw[decide_eq_true t]at j;calc absurd j (by decide))
   |(simp at j;omega)
 cases hwl with
 |cons w1 w2 =>
  cases w2
  cases w1 with
  |list ho hall=>calc#[_,_,ns,rfl,rfl,ho,sE ns _ hall,g]
def BH (l:Tw)(args:Yi WData):l.row.toRowW.claim.post args (.bool Yd) args=Yd :=
 postW_of (r:=l.row.toRowW) (X:=(Yd == Yd))
  (show WShape.has [] (.bool Yd) .bool=Yd by first|rfl|decide|simp[WShape.has,WShape.arms,WShape.armsAll])
  (show(WTm.eq .res (.lit (.bool Yd))).value [] {args:=args,res:=Yb (.bool Yd),after:=args}=Yb (.bool (Yd == Yd))from w_eq_bool (w_res rfl) w_lit) rfl
def yn {l:Tw}(hn:l.most=Yb n)(hdf:d.params.defaults=[])(call:∀(w:OR) (g e:fy) (mg C:Yg->Option eF) (y:Yh) (o:Obj) (B z p:eF) (a:Yh) (vs:List eF) (ns:Yi Int),
   Ground q j [] Q w g mg C e.heap->O w e.heap ->
   e.heap.get? y=Yb o->o.data=.func (docDef d.name d.params d.body d.scope B z p)->e.heap.CodeRec z d.name->mg d.name=Yb (.ref y) ->
   e.heap.get? a=Yb {cls:=.type "list",data:=.seq vs.toArray}->VB vs ns->ns.length<=n->e.gens=#[] ->
   Qs (OM l.prog w) VC (.call (.ref y) #[[.ref a],[]]) (λr s'=>r=.ok (.ret (.bool Yd))/\OldK e.heap s'.heap/\s'.os=e.os/\TH s'.gens) e):
  WalkO q j Q O l.row.toRowW d [] (λf vs=>WE f vs):=by
 intro w g e mg C G Y y o B z p dV kV T hd I M H W N J as t L R D V;obtain rfl:dV=.none:=Dflts.none M hdf;obtain rfl:kV=.none:=Dflts.noKw M;let(a,vs,ns,rfl,rfl,u,m,v):=BG hn t D;calc enter_call (RY (call w g e mg C y o B z p a vs ns G Y T (fd_plain hd) I H u m v W) λr s' S=>?_);let(rfl,h2,Z,X):=S;calc#[.inl #[.bool Yd,.bool Yd,[],rfl,λ_=>rfl,.bool Yd,BH l _,λ_=>#[List.Pairwise.nil,λ_ U=>(nomatch U)]],h2,Z,X]
end Att
namespace L2
open PySem PySem.Spec PyProof.Rows
theorem vL :∀{vs:List eF}{ns:Yi Int},VB vs ns->Vals (ns.map V.int) vs
 |_,_,.nil=>.nil
 |_,_,.cons n t h=>.cons #[t,rfl] (vL h)
meta def Js(H:Hp):Prop:=∀b,H b=Yc\/∃o d,H b=Yb (.nX o (.Y d))
def C6 {K:bN}{T:EF}(KX:K.In g.heap)(hns:g.heap.Ns OY mg)(l:g.heap.Ns builtinsNs M)(hbb:∀x:Yg,x≠"__name__"->M x=Sy x)(hlim:g.heap.NoLimit)(hg:g.gens=#[])(ha:g.heap.get? a=Yb {cls:=.type "list",data:=.seq vs.toArray})(hi:VB vs ns)(hl:ns.length<=lj)(hr:dU k VC)(F:∀base:Heap,K.In base->base.Ns OY mg->cD P w K mg base CX k N T [x] sp)(hbind:∀(s:fy) (u:eF),V7 s T #[[u],[]] [(x,u)])(hsp:∀H:Hp,Js H->bA K H a (ns.map V.int)->sp [.ref a] H (λv _=>v=.bl Yd) λ_ _ _=>False)(hCX:∀H e s',CX [] H g (λ_ _ _=>False) e s'->False):
  Qs (OM P w) VC (.call (.ref N) #[[.ref a],[]]) (λr s'=>r=.ok (.ret (.bool Yd))/\OldK g.heap s'.heap/\s'.os=g.os/\TH s'.gens) g:=by
 let Q:=vL hi;let y:=hi.length
 let core:∀H:Hp,Js H->bA K H a (ns.map V.int)->ny P w H g.heap->(∀b,H b≠Yc->b=a)->(H a≠Yc->K.lookup a=Yc) ->
   Qs (OM P w) VC (.call (.ref N) #[[.ref a],[]]) (λr s'=>r=.ok (.ret (.bool Yd))/\OldK g.heap s'.heap/\s'.os=g.os/\TH s'.gens) g:=by
  intro H R hS C S hK;let j:∀{b:Yh}{o:Obj},g.heap.get? b=Yb o->H b=Yc->(wJ g.heap H).get? b=Yb o:=λe n=>CN e n
  let L:∀{b:Yh}{o:Obj}{G:Array Rh}{I:Nat},g.heap.get? b=Yb o->o.data=.dict G I->H b=Yc:=λ{b o G I} e d=>by
   cases q:H b with
   |none=>rfl
   |some u =>
    let O:b=a:=S b (by rw[q];simp);subst O;rw[ha]at e;cases e;let d':Data.seq vs.toArray _=Data.dict G I:=d
    cases d'
  let p:∀{b:Yh}{m:Yg->Option eF},g.heap.Ns b m->(wJ g.heap H).Ns b m:=λ{b m} ⟨o,G,I,e,d,r⟩=>#[o,G,I,j e (L e d),d,r]
  let D:K.In (wJ g.heap H):=λb o e=>j (KX b o e) (by
   cases q:H b with
   |none=>rfl
   |some u =>
    let O:b=a:=S b (by rw[q];simp);subst O;rw[hK (by rw[q];simp)]at e;cases e)
  let hM:Mod K mg (wJ g.heap H):=#[D,p hns,#[M,p l,hbb],let⟨mc,h1,h2⟩:=hlim;#[mc,p h1,h2]];let e0:zG P w K mg (wJ g.heap H) VC [] g H:=#[rfl,hM,λb o e=>Fc e,U0 (Bw _ _),trivial,λb l=>absurd (show b∈([]:Yi Yh)from l) (by simp),C,.of_eq hg];refine RY ((F _ D (p hns)).run VC [] g H #[[.ref a],[]] [.ref a] [.ref a] _ _ hr e0 (hbind g (.ref a)) (.cons rfl .nil) (hsp H R hS)) λr s' h=>?_
  cases r with
  |error e=>calc(hCX H e s' h).elim
  |ok fl =>
   cases fl with
   |next=>calc P7 h
   |brk=>calc P7 h
   |cont=>calc P7 h
   |ret u =>
    let(v,H',os,J,un,B,Y,q):=h;let Z:v=.bl Yd:=q;subst Z;obtain rfl:u=Value.bool Yd:=Y;refine#[rfl,OldK.of_keep λb o e=>?_,os,J]
    cases q:H b with
    |none=>calc un.keep b o e q (by intro z;calc absurd (show b∈([]:Yi Yh)from z) (by simp)) (by simp)
    |some u =>
     rcases R b with z|⟨ob,xs,z⟩
     .rw[q]at z;cases z
     .have X:=un.frzs b ob _ z;let(U,_):=C b _ z;let(e2,_):=B b _ X;rw[e]at U;cases U;exact e2
 cases hk:K.lookup a with
 |some o =>
  let e:=KX a o hk;rw[ha]at e
  cases e
  refine core (λ_=>Yc) (λ_=>.inl rfl) (.inr #[_,vs.toArray,_,hk,rfl,rfl,rfl,by rw[I0,y];exact hl,by simpa using Q]) (λb u z=>by let t:(Yc:Option HO)=Yb u:=z;cases t) (λb z=>absurd rfl z) λz=>absurd rfl z
 |none =>
  refine core (λb=>if b=a then Yb (.nX {cls:=.type "list",data:=.seq vs.toArray} (.Y (ns.map V.int)))else Yc) (λb=>?_) (.inl (.inr #[{cls:=.type "list",data:=.seq vs.toArray},if_pos rfl])) (λb u z=>?_) (λb z=>?_) λ_=>hk
  .by_cases l:b=a
   .exact .inr #[_,_,if_pos l]
   .exact .inl (if_neg l)
  .by_cases l:b=a
   .have t:=(if_pos l).symm.trans z
    cases t
    subst l;exact#[ha,by rw[bM];calc hl,vs,_,Q,ha]
   .have t:=(if_neg l).symm.trans z
    cases t
  .by_cases l:b=a
   .exact l
   .exact absurd (if_neg l) z
def FA {l:Tw}{K:Params->bN}{CX:OR->xX}{sp:OR->Sp}(hn:l.most=Yb n)(hn2:n<=lj)(hdf:d.params.defaults=[])(hr:dU k VC)(hY:∀(w:OR) (h:Heap),D w h->(K w.params).In h)(F:∀(w:OR) (mg:Yg->Option eF) (y:Yh) (h:Heap),(K w.params).In h->h.Ns OY mg->mg d.name=Yb (.ref y) ->
   ∃B:EF,(∀(s:fy) (u:eF),V7 s B #[[u],[]] [(x,u)]) /\
    ∀base:Heap,(K w.params).In base->base.Ns OY mg->cD l.prog w (K w.params) mg base (CX w) k y B [x] (sp w))(hsp:∀(w:OR) (H:Hp) (a:Yh) (ns:Yi Int),ns.length<=n->Js H->bA (K w.params) H a (ns.map V.int)->sp w [.ref a] H (λv _=>v=.bl Yd) λ_ _ _=>False)(hCX:∀(w:OR) (H:Hp) (s:fy) (e:eF) (s':fy),CX w [] H s (λ_ _ _=>False) e s'->False):
  WL q m S D l.row.toRowW d [] (λf vs=>WE f vs):=by
 calc Att.yn hn hdf λw C r mg X y o U cd R a vs ns G Y Z hd L z t p j J=>?_;let I:=hY w _ Y;let(B,M,Q):=F w mg y _ I G.T.g z;calc C6 I G.T.g G.T.b G.T.builtins G.T.nolimit J t p (OX j hn2) hr Q M (λH O N=>hsp w H a ns j O N) λH e s'=>hCX w H r e s'
meta def mh(s:Stmt):Arguments:=match s with
 |.FunctionDef _ a _ _ _ _ _ _ _ _=>a
 |_=>{posonlyargs:=[],args:=[],vararg:=Yc,kwonlyargs:=[],kw_defaults:=[],kwarg:=Yc,defaults:=[]}
meta def bx(s:Stmt):Yi Stmt:=match s with
 |.FunctionDef _ _ b _ _ _ _ _ _ _=>b
 |_=>[]
meta def ak(s:Stmt):P9:=match s with
 |.FunctionDef _ _ _ _ _ _ sc _ _ _=>sc
 |_=>{kind:=.function,names:=[],isGenerator:=Ye,isCoroutine:=Ye}
abbrev gz:xX:=λ_ _ _ _ _ _=>False
abbrev E0:XK:=λ_ _ _=>False
def lF :Passes gz X E0:=λ_ _ _ _ _ _ _ h=>h.elim
structure jn(K:bN) (x qual:Yg) (st:Stmt) (f:Yh) (fd:EF):Prop where
 ex:∃(oc:eF) (od:Option Yh) (kV doc pm:eF) (an:Option Yh) (cdv ct:eF) (osl:Array (Option eF)),
  fd=SH x qual (mh st) (bx st) (ak st) .none kV doc pm an cdv ct/\K.lookup f=Yb #[oc,od,.func fd,osl]/\UB K cdv qual=Yd
 kp:QK K (.ref f)=Yd
def jn.ok {K:bN}{st:Stmt}(F:jn K x d st f l)(S:aY N ps (ak st))(e:∀vs H Q E,sp vs H Q E->vs.length=ps.length)(hbody:∀(cdv:eF) (A:OW) (outer:Yi Env) (s:fy) (H:Hp) (vs:Yi V) (Q:VK) (E:XK),dU k (A.deeper (OV d (ak st) s⁻¹ f cdv))->sp vs H Q E ->
   ∃t,rL (vc gz P w K mg base N d (ak st) f cdv A outer s H E).pB (bx st) t/\t {nx:=λ_ r=>Q .eR r,rt:=Q} (start N vs) H):cD P w K mg base gz (k+1) f l ps sp:=by
 let(y,v,kV,p,u,B,cdv,z,m,rfl,o,j):=F.ex;calc Im o j S e λA outer s H vs Q E hr g=>?_;let(t,h,q):=hbody cdv A outer s H vs Q E hr g;calc#[t,h.pB,q]
def jn.binds {K:bN}{st:Stmt}(F:jn K x d st f l)(h:∀(kV e g:eF) (j:Option Yh) (cdv ct:eF) (us:List eF),us.length=ps.length->bindArgs (SH x d (mh st) (bx st) (ak st) .none kV e g j cdv ct) #[us,[]]=pure (ps.zip us)):Binds K l ps []:=by
 let(q,p,kV,e,g,j,cdv,ct,m,rfl,r,o):=F.ex;calc .all (h kV e g j cdv ct)
def gJ (hr:dU k A):A.units+1<SV:=Ub (VF (by decide:1<=64) _) hr.units
def aV (h:n<=1000):n<lj:=Ub h (by decide)
def pv (i:Nat)(e:X.N[i]?=Yb x:=by rfl)(d:KY X.env.scope x:=by first|calc Or.inl rfl|calc Or.inr (Or.inl rfl)|calc Or.inr (Or.inr rfl))(hd:(x == ("__debug__":Yg))=Ye:=by decide)(hcd:(x == ("__classdict__":Yg))=Ye:=by decide):PE X (.Name x pos) (jt i):=CO e d hd hcd
def bP {c A B:Prop}[Decidable c](e:c->A)(d:¬c->B):if c then A else B:=by
 by_cases h:c
 .rw[if_pos h];exact e h
 .rw[if_neg h];calc d h
meta def aR(H d:Hp):Prop:=∀b o,H b=Yb o->d b=Yb o
def aR.refl (H:Hp):aR H H:=λ_ _ h=>h
def aR.trans (a:aR H e)(b:aR e d):aR H d:=λc o h=>b c o (a c o h)
def aR.free (e:aR H d)(h:d l=Option.none):H l=Option.none:=by
 cases q:H l with
 |none=>rfl
 |some o =>
  rw[e l o q]at h
  cases h
def aR.seq {K:bN}(e:aR H d)(h:bA K H a xs):bA K d a xs:=by
 rcases h with(h|⟨o,h⟩)|h
 .exact .inl (.inl (e _ _ h))
 .exact .inl (.inr #[o,e _ _ h])
 .exact .inr h
meta def cZ {κ:Type}[DecidableEq κ](kvs:Yi (κ×V))(k:κ):Option V:=(kvs.find? λd=>decide (d.1=k)).map (·.2)
meta def putK {κ:Type}[DecidableEq κ](kvs:Yi (κ×V))(k:κ)(v:V):Yi (κ×V) :=
 if(kvs.any λd=>decide (d.1=k))=Yd then kvs.map (λd=>if d.1=k then(d.1,v)else d)else kvs++[(k,v)]
def fJ {κ:Type}[DecidableEq κ]{p:κ×V}{r:Yi (κ×V)}{k:κ}(e:p.1=k):cZ (p::r) k=Yb p.2:=by simp[cZ,PD,e]
def fK {κ:Type}[DecidableEq κ]{p:κ×V}{r:Yi (κ×V)}{k:κ}(e:¬p.1=k):cZ (p::r) k=cZ r k:=by simp[cZ,PD,e]
theorem tR {κ:Type}[DecidableEq κ](k:κ):∀kvs:Yi (κ×V),(kvs.any λd=>decide (d.1=k))=(cZ kvs k).isSome
 | []=>rfl
 |p::r=>by
  rw[S8]
  by_cases e:p.1=k
  .simp only[fJ e,decide_eq_true e,Bool.true_or,Option.isSome_some]
  .rw[fK e,decide_eq_false e,Bool.false_or];calc tR k r
def nF {κ:Type}[DecidableEq κ](kvs:Yi (κ×V))(k:κ)(v:V):(putK kvs k v).length<=kvs.length+1:=by
 unfold putK
 split
 .rw[bM];omega
 .rw[mu,OT,RJ];omega
def C7 {κ:Type}[DecidableEq κ]{kvs:Yi (κ×V)}{k:κ}(v:V)(h:cZ kvs k=Yc):putK kvs k v=kvs++[(k,v)]:=by
 unfold putK;rw[tR,h];calc if_neg (by decide)
def lV.lH (r:lV o u):o.isSome=u.isSome:=by
 cases o with
 |none=>cases u with
  |none=>rfl
  |some _=>calc(show False from r).elim
 |some _=>cases u with
  |none=>calc(show False from r).elim
  |some _=>rfl
def KV.val {κ:Type}[DecidableEq κ]{kvs:Yi (κ×V)}{vs:Yi (κ×eF)}(r:KV kvs vs)(k:κ):lV (cZ kvs k) (RZ vs k):=by
 unfold KV at r
 induction r with
 |nil=>calc True.intro
 |@cons p q ps qs h t ih =>
  let(g,j):=h
  by_cases e:p.1=k
  .have d:q.1=k:=g.symm.trans e;let b:RZ (q::qs) k=Yb q.2:=by simp[RZ,PD,d]
   rw[fJ e,b];exact j
  .have d:¬q.1=k:=λz=>e (g.trans z);let b:RZ (q::qs) k=RZ qs k:=by simp[RZ,PD,d]
   rw[fK e,b];calc ih
def KV.any {κ:Type}[DecidableEq κ]{kvs:Yi (κ×V)}{vs:Yi (κ×eF)}(r:KV kvs vs)(k:κ):(kvs.any λd=>decide (d.1=k))=vs.any λd=>decide (d.1=k):=by
 unfold KV at r
 induction r with
 |nil=>rfl
 |cons h t ih=>rw[S8,S8,ih,h.1]
def KV.repl {κ:Type}[DecidableEq κ]{kvs:Yi (κ×V)}{vs:Yi (κ×eF)}(r:KV kvs vs)(k:κ){y:V}{u:eF}(j:RelV y u):
  KV (kvs.map λd=>if d.1=k then(d.1,y)else d) (vs.map λd=>if d.1=k then(d.1,u)else d):=by
 unfold KV at r|-
 induction r with
 |nil=>calc .nil
 |@cons p q ps qs h t ih =>
  rw[OQ,OQ];calc .cons ?_ ih;let(g,l):=h
  by_cases e:p.1=k
  .rw[if_pos e,if_pos (g.symm.trans e)];exact#[g,j]
  .rw[if_neg e,if_neg (λz=>e (g.trans z))];calc#[g,l]
def KV.put {κ:Type}[DecidableEq κ]{kvs:Yi (κ×V)}{vs:Yi (κ×eF)}(r:KV kvs vs)(k:κ){y:V}{u:eF}(d:RelV y u):KV (putK kvs k y) (stored vs k u):=by
 unfold putK stored;rw[r.any k]
 by_cases e:(vs.any λg=>decide (g.1=k))=Yd
 .rw[if_pos e,if_pos e];exact r.repl k d
 .rw[if_neg e,if_neg e];calc Paired.snoc r #[rfl,d]
def KV.length {κ:Type}[DecidableEq κ]{kvs:Yi (κ×V)}{vs:Yi (κ×eF)}(r:KV kvs vs):kvs.length=vs.length:=Paired.length r
def rQ (r:RelV (kV k) u):(bg P w).is k u=Yd:=by
 cases k with
 |inl i=>let(t,e):=(show ∃t,u=Value.int i t from r);subst e;calc yc P w i t
 |inr x=>let(t,e):=(show ∃t,u=Value.str x t from r);subst e;calc yd P w x t
theorem vM :∀{ks:Yi Key}{us:List eF},Vals (ks.map kV) us->ItemsAre (bg P w) ks us
 | [],_,r=>by rw[Qn]at r;cases r;calc .nil
 |k::ks,_,r=>by
  rw[OQ]at r
  cases r with
  |cons h t=>calc .cons (rQ h) (vM t)
abbrev KT(H:Hp):Yi (Yi Key×V)->Yi (Yi Key×Yh×eF)->Prop:=Paired λp q=>p.1=q.1/\H q.2.1=Yb (.J (p.1.map kV))/\RelV p.2 q.2.2
def KT.val (r:KT H kvs xs)(k:Yi Key):lV (cZ kvs k) ((Ww xs k).map (·.2)):=by
 induction r with
 |nil=>calc True.intro
 |@cons p q ps qs h t ih =>
  let(g,_,j):=h
  by_cases e:p.1=k
  .have d:q.1=k:=g.symm.trans e;let b:Ww (q::qs) k=Yb q.2:=by simp[Ww,PD,d]
   rw[fJ e,b];exact j
  .have d:¬q.1=k:=λz=>e (g.trans z);let b:Ww (q::qs) k=Ww qs k:=by simp[Ww,PD,d]
   rw[fK e,b];calc ih
def KT.repl (r:KT H kvs xs)(k:Yi Key)(l:RelV y u):
  KT H (kvs.map λg=>if g.1=k then(g.1,y)else g) (xs.map (putAt k u)):=by
 induction r with
 |nil=>calc .nil
 |@cons p q ps qs h t ih =>
  rw[OQ,OQ];calc .cons ?_ ih;let(d,j,m):=h;unfold putAt
  by_cases e:p.1=k
  .rw[if_pos e,if_pos (d.symm.trans e)];exact#[d,j,l]
  .rw[if_neg e,if_neg (λz=>e (d.trans z))];calc#[d,j,m]
def KT.put (r:KT H kvs xs)(k:Yi Key)(j:H b=Yb (.J (k.map kV)))(d:RelV y u):
  KT H (putK kvs k y) (storedH xs k b u):=by
 let e:(kvs.any λg=>decide (g.1=k))=(Ww xs k).isSome:=by
  rw[tR,(r.val k).lH,Us]
 unfold putK storedH;rw[e]
 by_cases q:(Ww xs k).isSome=Yd
 .rw[if_pos q,if_pos q];exact r.repl k d
 .rw[if_neg q,if_neg q];calc Paired.snoc r #[rfl,j,d]
def KT.keeps (r:KT H kvs xs)(ht:∀b ys,H b=Yb (.J ys)->d b=Yb (.J ys)):KT d kvs xs :=
 Paired.Fb r λ_ _ z=>#[z.1,ht _ _ z.2.1,z.2.2]
def Ip (ok:ny P w H h)(e:Rd H a u):eS P w H h a u:=e.ok ok
def tS (ok:ny P w H h)(e:Rd H a (.dK kvs)):kvs.length<=lj/\(a == Qq)=Ye/\∃vs,KV kvs vs/\h.DictOf (bg P w) a vs :=
 show eS P w H h a (.dK kvs)from Ip ok e
def Iq (ok:ny P w H h)(e:H a=Yb (.dK kvs)):kvs.length<=lj/\(a == Qq)=Ye/\∃vs,KV kvs vs/\h.DictOf (bg P w) a vs:=tS ok (.inl e)
def tT (ok:ny P w H h)(e:H a=Yb (.J (ks.map kV))):(VA (bg P w)).is h ks a:=by
 let(_,d,r,(o,l,j,n,g),_):=(show eS P w H h a (.J (ks.map kV))from ok a _ e);calc#[o,d.toArray,n,l,j,g,by simpa using vM r]
def yo (ok:ny P w H h)(e:Rd H a (.dT kvs)):kvs.length<=lj/\(a == Qq)=Ye /\
  ∃xs,KT H kvs xs/\h.DictOfH (VA (bg P w)) a xs:=by
 let(z,y,xs,r,o,B,C,v,u,j,g,d):=(show eS P w H h a (.dT kvs)from Ip ok e);refine#[z,y,xs,r,o,B,C,v,u,j,g,λx hx=>?_,d]
 let all:∀{l:Yi (Yi Key×V)}{m:Yi (Yi Key×Yh×eF)},KT H l m->∀x∈m,(VA (bg P w)).is h x.1 x.2.1:=by
  intro l m q
  induction q with
  |nil=>intro x hx;calc nomatch hx
  |@cons p q ps qs hq t ih =>
   intro x hx;rcases L0.mp hx with e|hx
   .subst e;exact tT ok (by rw[<-hq.1];calc hq.2.1)
   .exact ih x hx
 calc all r x hx
def Lq (ok:ny P w H h)(e:H a=Yb (.dT kvs)):kvs.length<=lj/\(a == Qq)=Ye /\
  ∃xs,KT H kvs xs/\h.DictOfH (VA (bg P w)) a xs:=yo ok (.inl e)
meta def cF(H:Hp)(a:Yh)(y:V)(r:Option V):Prop :=
 (∃d k,Rd H a (.dK d)/\y=kV k/\r=cZ d k)\/∃d k b,Rd H a (.dT d)/\y=.ref b/\H b=Yb (.J (k.map kV))/\r=cZ d k
meta def oO(H:Hp)(a:Yh)(y v:V)(e:Hp):Prop :=
 (∃d k,H a=Yb (.dK d)/\y=kV k/\d.length<lj/\e=upd H a (.dK (putK d k v))) \/
 ∃d k b,H a=Yb (.dT d)/\y=.ref b/\H b=Yb (.J (k.map kV))/\d.length<lj/\e=upd H a (.dT (putK d k v))
def cF.k {k:Key}(e:H a=Yb (.dK kvs)):cF H a (kV k) (cZ kvs k):=.inl #[kvs,k,.inl e,rfl,rfl]
def cF.t {k:Yi Key}(e:H a=Yb (.dT kvs))(d:H b=Yb (.J (k.map kV))):cF H a (.ref b) (cZ kvs k):=.inr #[kvs,k,b,.inl e,rfl,d,rfl]
def oO.k {k:Key}(e:H a=Yb (.dK kvs))(d:kvs.length<lj):oO H a (kV k) v (upd H a (.dK (putK kvs k v))):=.inl #[kvs,k,e,rfl,d,rfl]
def oO.t {k:Yi Key}(e:H a=Yb (.dT kvs))(g:H b=Yb (.J (k.map kV)))(d:kvs.length<lj):
  oO H a (.ref b) v (upd H a (.dT (putK kvs k v))):=.inr #[kvs,k,b,e,rfl,g,d,rfl]
def Inv.big (I:Inv X pins σ H s):Qq<s⁻¹:=by
 let h:OY<s⁻¹:=(I.mod.glob.keeps I.bk).lt;calc Nat.lt_trans (by decide) h
def BI (J:A.units+1<SV)(I:Inv X pins σ H s)(g:cF H a y (Yb v))(C:RelV y u)(h:∀m s',Inv X pins σ H s'->RelV v m->Q m s'):
  OH (OM X.prog X.w) A (SJ (.ref a) u) Q E s:=by
 rcases g with⟨kvs,k,e,ey,l⟩|⟨kvs,k,b,e,ey,eb,l⟩
 .subst ey;let(z,hd,G,j,B):=tS I.hok e;let(m,q,d):=lV.some_of (v:=v) (o:=RZ G k) (by rw[l];calc j.val k);exact wpAny_getItem_of (rQ C) B.mapOf q (h m _ (I.tok _) d)
 .subst ey
  cases(show u=Value.ref b from C)
  let(z,hd,D,j,B):=yo I.hok e;let(m,q,d):=lV.some_of (v:=v) (o:=(Ww D k).map (·.2)) (by rw[l];calc j.val k);let(p,L,t):=ri.mp q;calc wpAny_getItem_heap (Sh J) (tT I.hok eb) B L ?_;rw[t];calc h m _ (I.tok _) d
def MN (p:A.units+1<SV)(I:Inv X pins σ H s)(g:cF H a y o)(m:RelV y u)(h:∀s',Inv X pins σ H s'->Q (.bool o.isSome) s'):
  OH (OM X.prog X.w) A (P5 .In u (.ref a)) Q E s:=by
 rcases g with⟨kvs,k,e,ey,l⟩|⟨kvs,k,b,e,ey,eb,l⟩
 .subst ey;let(z,hd,B,d,j):=tS I.hok e;calc wpAny_in_of (rQ m) hd j.mapOf ?_;rw[<-(d.val k).lH,<-l];exact h _ (I.tok _)
 .subst ey
  cases(show u=Value.ref b from m)
  let(z,hd,t,d,j):=yo I.hok e;calc wpAny_in_heap (Sh p) (tT I.hok eb) hd j ?_;let q:=(d.val k).lH;rw[Us]at q;rw[<-q,<-l];calc h _ (I.tok _)
def FE (p:A.units+1<SV)(I:Inv X pins σ H s)(g:cF H a y o)(m:RelV y u)(h:∀s',Inv X pins σ H s'->Q (.bool (!o.isSome)) s'):
  OH (OM X.prog X.w) A (P5 .NotIn u (.ref a)) Q E s:=by
 rcases g with⟨kvs,k,e,ey,l⟩|⟨kvs,k,b,e,ey,eb,l⟩
 .subst ey;let(z,hd,B,d,j):=tS I.hok e;calc wpAny_notIn_of (rQ m) hd j.mapOf ?_;rw[<-(d.val k).lH,<-l];exact h _ (I.tok _)
 .subst ey
  cases(show u=Value.ref b from m)
  let(z,hd,t,d,j):=yo I.hok e;calc wpAny_notIn_heap (Sh p) (tT I.hok eb) hd j ?_;let q:=(d.val k).lH;rw[Us]at q;rw[<-q,<-l];calc h _ (I.tok _)
def wV (I:Inv X pins σ H s)(g:KW (H a))(hs:Rk a s.heap h')(j:∃q,h'.get? a=Yb q)(new:eS X.prog X.w (upd H a d) h' a d):
  Inv X pins σ (upd H a d) {s with heap:=h',toks:=t'} :=
 I.write (x:=a) (e:=a) g (.inl rfl) (λb q l z=>(hs.2 b l).trans z) j new
def C8 (z:kvs.length<=lj)(hd:(a == Qq)=Ye)(d:KV kvs vs)(e:h'.DictOf (bg P w) a vs):
  eS P w g h' a (.dK kvs):=#[z,hd,vs,d,e]
def BJ (R:A.units+1<SV)(I:Inv X pins σ H s)(g:oO H a y v M)(D:RelV y u)(G:RelV v r)(h:∀s',Inv X pins σ M s'->Q Unit.unit s'):
  OH (OM X.prog X.w) A (setItem (.ref a) u r) Q E s:=by
 rcases g with⟨kvs,k,e,ey,l,eH⟩|⟨kvs,k,b,e,ey,eb,l,eH⟩
 .subst ey eH;let(z,hd,O,d,C):=Iq I.hok e;let p:O.length<=lj:=by rw[<-d.length];exact z
  let B:(putK kvs k v).length<=lj:=by let:=nF kvs k v;omega
  calc wpAny_setItem_pairs (hsz:=p) (rQ D) C λJ j t=>h _ ?_;let S:∃q,J.get? a=Yb q:=let⟨q,_,_,m,_⟩:=j;#[q,m];exact wV I (by rw[e];calc True.intro) t S (C8 B hd (d.put k G) j)
 .subst ey eH
  cases(show u=Value.ref b from D)
  let(z,hd,N,d,C):=Lq I.hok e;let p:N.length<=lj:=by rw[<-Paired.length d];exact z
  let B:(putK kvs k v).length<=lj:=by let:=nF kvs k v;omega
  calc wpAny_setItem_heap (hsz:=p) (Sh R) (tT I.hok eb) C λJ j t=>h _ ?_;let(q,Y,Z,m,W,V,U,_,T):=j;calc wV I (by rw[e];calc True.intro) t #[q,m] #[B,hd,_,(d.put k eb G).keeps λc ys L=>?_,q,Y,Z,m,W,V,U,T];rw[ay (jB L e nofun)]
  calc L
meta def Jt(i:Expr):Prop:=∀d e,Vp i Ye d e=operate [d,e] (SJ d e)
def AG {T id:String}(hl:typeLookup (.type T) "__getitem__"=pure (Yb (.builtin id)))(hs:Jt slice)(h:OH (OM prog w) A (eval d m) (λo l=>OH (OM prog w) A (eval slice m) (λi e=>e.TypeIs o T/\OH (OM prog w) A (SJ o i) Q E e) E l) E s):
  OH (OM prog w) A (eval (.Subscript d slice pos) m) Q E s:=by
 calc U3 (O1 h (λo l q=>O1 q (λi e g=>?_) λ_ _ x=>x) λ_ _ x=>x);let(t,g):=g;unfold VQ;calc cB ?_;rw[getitemInPython_of_ne t.not_modules];refine cB (wpAny_specialOf t hl ?_)
 let fin:OH (OM prog w) A (Vp slice Ye o i) (λr j=>OH (OM prog w) A (letTemporaryGo d o r>>=λ_=>pure r) Q E j) E e:=by
  rw[hs o i];exact wpAny_operating (O1 g (λr j p=>cB (wpAny_letTemporaryGo (pC p))) λ_ _ x=>x)
 first
  |calc pC (cB fin)
  |calc cB (pC (cB fin))
  |calc cB fin
def yp (I:Inv X d l H s)(g:cF H a y o):s.TypeIs (.ref a) "dict":=by
 rcases g with⟨kvs,k,e,_,_⟩|⟨kvs,k,b,e,_,_,_⟩
 .have(_,_,p,_,j):=tS I.hok e;exact j.typeIs
 .have(_,_,m,_,j):=yo I.hok e;calc j.typeIs
meta def Of(x:V)(Q:VK):VK:=λy d=>∃a v,x=.ref a/\cF d a y (Yb v)/\Q v d
abbrev Og(ty:TE)(d:St)(Q:VK):VK:=λx e=>ty d e (Of x Q)
abbrev Lr(e ty:TE):TE:=λd H Q=>e d H (Og ty d Q)
meta def Ls(j ty g:TE):TS:=λD d H=>g d H λv o=>j d o λx m=>ty d m λy l=>∃a e,x=.ref a/\oO l a y v e/\D.nx d e
def jV {o i:Expr}{pos:Pos}{td ty:TE}(z:X.A.units+1<SV)(B:PE X o td)(hi:PE X i ty)(hs:Jt i):PE X (.Subscript o i pos) (Lr td ty):=by
 intro d s l H Q I h;calc AG Um.lookup hs (cX (B d s l H _ I h) λu p ⟨x,J,D,r,q1⟩=>cX (hi d p l J _ D q1) λO N ⟨y,G,m,q,a,v,ex,g,t⟩=>?_);subst ex;obtain rfl:u=Value.ref a:=r;calc#[yp m g,BI z m g q λL M C j=>#[v,G,C,j,t]]
def qj {o i value:Expr}{pos pos':Pos}{td ty tv:TE}(G:X.A.units+1<SV)(J:PE X o td)(hi:PE X i ty)(C:PE X value tv)(hs:S3 value (Yb (.Subscript o i pos')) pos.line X.env=pure Ye):
  PS X (.Assign [.Subscript o i pos'] value pos) (Ls td ty tv):=by
 intro d s j H D I h;calc wpAny_Assign_Subscript (cX (C d s j H _ I h) λr m ⟨v,S,O,t,q1⟩=>cX (J d m j S _ O q1) λu l ⟨x,R,N,q,B⟩=>cX (hi d l j R _ N B) λV U ⟨y,W,M,p,a,Q,ex,g,z⟩=>?_) hs;subst ex;obtain rfl:u=Value.ref a:=q;calc BJ G M g p t λT L=>#[j,Q,L,z]
def yq (h:Heap)(d:Qq<h.objs.size):eS P w H (h.push {cls:=.type "dict",data:=.dict #[]}) h.objs.size (.dK []) :=
 #[ON _,beq_eq_false_iff_ne.mpr (Rj (OZ d)),[],.nil,Wz h]
meta def Ju:TE:=λ_ H Q=>∀p,H p=Yc->Q (.ref p) (upd H p (.dK []))
def qk {pos:Pos}:PE X (.Dict [] [] pos) Ju:=λd s e H Q I h =>
 wpAny_Dict_empty #[.ref s⁻¹,_,I.laid (a:=s⁻¹) (o:=.dK []) (t':=s.toks) (λ_ _ q=>mH _ q) (i5 _) (yq s.heap I.big),rfl,h _ (I.hok.fresh (i5 _))]
meta def zN:Yi (TE×TE)->St->Hp->(Yi (V×V)->Hp->Prop)->Prop
 | [],_,H,Q=>Q [] H
 |(tk,tv)::r,σ,H,Q=>tk σ H λx j=>tv σ j λy g=>zN r σ g λd e=>Q ((x,y)::d) e
abbrev VV:Yi (V×V)->Yi (eF×eF)->Prop:=Paired λp q=>RelV p.1 q.1/\RelV p.2 q.2
meta def Mh(X:Cx)(pos:Pos)(keys:Yi (Option Expr))(d:Yi Expr)(j:Yi (TE×TE)):Prop :=
 ∀(e:Yi (Yh×Obj)) (s:fy) (g:St) (H:Hp) (Q:Yi (V×V)->Hp->Prop),Inv X e g H s->zN j g H Q ->
  OH (OM X.prog X.w) X.A (evalPairs (pairTrees keys d X.env pos)) (λo p=>∃l m,Inv X e g m p/\VV l o/\Q l m) X.xe s
def FF :Mh X pos [] [] []:=λd s e H Q I h=>pairTrees_nil_walk #[[],H,I,.nil,h]
def nH (D:PE X k m)(C:PE X v l)(hr:Mh X pos ks vs e):
  Mh X pos (Yb k::ks) (v::vs) ((m,l)::e):=λd s g H Q I h =>
 pairTrees_cons_walk (cX (D d s g H _ I h) λu p ⟨x,O,L,r,q1⟩=>cX (C d p g O _ L q1) λS o ⟨y,N,J,q,z⟩ =>
  cX (hr d o g N _ J z) λR T ⟨B,M,G,j,t⟩=>#[(x,y)::B,M,G,.cons #[r,q] j,t])
meta def pK(kvs more:Yi (Key×V)):Yi (Key×V):=more.foldl (λd e=>putK d e.1 e.2) kvs
def KV.merge :∀{more:Yi (Key×V)}{d:Yi (Key×eF)}{kvs:Yi (Key×V)}{vs:Yi (Key×eF)},KV more d->KV kvs vs->KV (pK kvs more) (merged vs d):=by
 intro more d kvs vs r;unfold KV at r
 induction r generalizing kvs vs with
 |nil=>intro q;calc q
 |@cons p q ps qs h t ih =>
  intro g
  let e:KV (putK kvs p.1 p.2) (stored vs q.1 q.2):=by
   let:=g.put p.1 h.2;rw[<-h.1];exact this
  calc ih e
theorem oX :∀(more kvs:Yi (Key×V)),(pK kvs more).length<=kvs.length+more.length
 | [],kvs=>by show kvs.length<=kvs.length+0;omega
 |p::r,kvs=>by
  let e:=oX r (putK kvs p.1 p.2);let d:=nF kvs p.1 p.2;show(pK (putK kvs p.1 p.2) r).length<=_;rw[OT];omega
theorem tU :∀{kvs:Yi (Key×V)}{e:Yi (eF×eF)},VV (kvs.map λg=>(kV g.1,g.2)) e->∃d,Carries (bg P w) e d/\KV kvs d
 | [],_,r=>by rw[Qn]at r;cases r;calc#[[],True.intro,.nil]
 |p::kvs,_,r=>by
  rw[OQ]at r
  cases r with
  |@cons a b as bs h t =>
   let(d,c,q):=tU (P:=P) (w:=w) t;let(l,j):=b;calc#[(p.1,j)::d,#[rQ h.1,rfl,c],.cons #[rfl,h.2] q]
meta def Ir(e:Yi (TE×TE)):TE:=λl H Q=>∀p,H p=Yc->zN e l (upd H p (.dK [])) λm j=>j p=Yb (.dK [])/\∃d:Yi (Key×V),m=d.map (λg=>(kV g.1,g.2))/\d.length<=15/\Q (.ref p) (upd j p (.dK (pK [] d)))
def FG (h:Mh X pos keys d g)(m:keys.all (·.isSome)=Yd)(M:keys.length=d.length)(R:keys≠[])(h15:keys.length<=15):PE X (.Dict keys d pos) (Ir g):=by
 intro j s u H Q I q;let L:=I.hok.fresh (i5 s⁻¹);let U:=I.laid (a:=s⁻¹) (o:=.dK []) (h':=s.heap.push {cls:=.type "dict",data:=.dict #[]}) (t':=s.toks) (λ_ _ q=>mH _ q) (i5 _) (yq s.heap I.big);calc wpAny_Dict_walk (knd:=bg X.prog X.w) m M R h15 (cX (h j _ u _ _ U (q _ L)) λV W ⟨Y,H2,t,r,e,l,S,Z,D⟩=>?_);subst S;let(y,c,B):=tU (P:=X.prog) (w:=X.w) r;let(z,hd,v,C,T):=Iq t.hok e
 cases C
 refine#[y,c,T,λh' p J=>#[.ref s⁻¹,_,?_,rfl,D]]
 let G:(pK [] l).length<=lj:=by
  let O:=oX l [];rw[RJ]at O;rw[RS];omega
 let N:∃q,h'.get? s⁻¹=Yb q:=let⟨q,_,_,hq,_⟩:=p;#[q,hq];calc wV t (by rw[e];calc True.intro) J N (C8 G hd (B.merge .nil) p)
end L2
set_option maxHeartbeats 4000000
namespace L2
open PySem
set_option genInjectivity true in
inductive T where
 |s (x:Yg)|i (n:Int)|n|t (xs:Yi T)
def T.induct {P:T->Prop}(hs:∀x,P (.s x))(hi:∀n,P (.i n))(hn:P .n)(ht:∀xs,(∀x∈xs,P x)->P (.t xs))(a:T):P a :=
 T.rec (motive_1:=P) (motive_2:=λxs=>∀x∈xs,P x) hs hi hn ht (λ_ h=>nomatch h) (λ_ _ g e y d=>by
  cases d with
  |head=>calc g
  |tail _ h=>calc e y h) a
mutual
noncomputable def T.dep:T->Nat
 |.t xs=>T.nI xs+1
 |_=>0
noncomputable def T.nI:Yi T->Nat
 | []=>0
 |x::r=>max x.dep (T.nI r)
end
def T.C9 (h:x∈xs):x.dep<=T.nI xs:=by
 induction xs with
 |nil=>cases h
 |cons y r ih =>
  unfold T.nI
  cases h with
  |head=>calc Vf _ _
  |tail _ h=>calc OX (ih h) (UQ _ _)
mutual
noncomputable def T.eqB:T->T->Bool
 |.s x,.s y=>x == y
 |.i m,.i k=>m == k
 |.n,.n=>Yd
 |.t xs,.t ys=>T.ql xs ys
 |_,_=>Ye
noncomputable def T.ql:Yi T->Yi T->Bool
 | [],[]=>Yd
 |x::r,y::q=>x.eqB y&&T.ql r q
 |_,_=>Ye
end
def T.yr (h:∀x∈xs,∀y,T.eqB x y=Yd↔x=y):∀ys,T.ql xs ys=Yd↔xs=ys:=by
 induction xs with
 |nil=>intro ys;cases ys<;>simp[T.ql]
 |cons x r ih =>
  intro ys
  cases ys with
  |nil=>simp[T.ql]
  |cons y q =>
   unfold T.ql;rw[Pd,h x (.head _) y,ih (λz d=>h z (.tail _ d)) q,List.cons.injEq]
def T.eqB_iff (a:T):∀b,T.eqB a b=Yd↔a=b:=by
 induction a using T.induct with
 |hs x=>intro b;cases b<;>simp[T.eqB]
 |hi x=>intro b;cases b<;>simp[T.eqB]
 |hn=>intro b;cases b<;>simp[T.eqB]
 |ht xs ih =>
  intro b
  cases b with
  |t ys=>unfold T.eqB;rw[T.yr ih ys,T.t.injEq]
  |_=>simp[T.eqB]
def T.Dc (a:T):T.eqB a a=Yd:=(T.eqB_iff a a).mpr rfl
noncomputable instance:DecidableEq T:=λa b=>if h:T.eqB a b=Yd then .isTrue ((T.eqB_iff a b).mp h)else .isFalse λz=>h ((T.eqB_iff a b).mpr z)
def T.Dd (a b:Yi T):T.ql a b=decide (a=b):=by rw[Sb,decide_eq_true_iff,T.yr (λx _=>T.eqB_iff x)]
theorem T.pL :∀(xs ys:Yi T),T.ql xs ys=((QJ (min xs.length ys.length)).all (λj=>T.eqB (xs.getD j .n) (ys.getD j .n))&&xs.length == ys.length)
 | [],[]=>rfl
 | [],y::q=>by simp[T.ql]
 |x::r,[]=>by simp[T.ql]
 |x::r,y::q=>by
  unfold T.ql;rw[T.pL r q,OT,OT,Nat.succ_min_succ,List.range_succ_eq_map,UE,List.all_map];let e:(r.length+1 == q.length+1)=(r.length == q.length):=by simp
  rw[e,Bool.and_assoc];rfl
set_option genInjectivity true in
inductive Hd where
 |num (n:Int)|name (x:Yg)|gap (n:Int)|op (s:Yg)|row|more|first|others|long|tag (t:Yg)|call (f:Yg)|mat (arms:Yi (Yg×Yi Yg))|ife|lt (x:Yg)|fold (x y:Yg)
inductive Tm where
 |mk (h:Hd) (ks:Yi Tm)
meta def Tm.hd:Tm->Hd|.mk h _=>h
meta def Tm.ks:Tm->Yi Tm|.mk _ ks=>ks
def Tm.induct {P:Tm->Prop}(g:∀h ks,(∀k∈ks,P k)->P (.mk h ks))(a:Tm):P a :=
 Tm.rec (motive_1:=P) (motive_2:=λd=>∀x∈d,P x) g (λ_ h=>nomatch h) (λ_ _ l j y e=>by
  cases e with
  |head=>calc l
  |tail _ h=>calc j y h) a
meta def cM:Hd->Nat->Bool
 |.num _,n=>n == 0
 |.name _,n=>n == 0
 |.gap _,n=>n == 0
 |.op _,n=>n == 2
 |.row,_=>Yd
 |.more,n=>n == 2
 |.first,n=>n == 1
 |.others,n=>n == 1
 |.long,n=>n == 1
 |.tag _,_=>Yd
 |.call _,_=>Yd
 |.mat arms,n=>n == arms.length+1
 |.ife,n=>n == 3
 |.lt _,n=>n == 2
 |.fold _ _,n=>n == 3
inductive Wf:Tm->Prop
 |mk {h:Hd}{ks:Yi Tm}:cM h ks.length=Yd->(∀k∈ks,Wf k)->Wf (.mk h ks)
meta def bnd:Hd->Nat->Yi (Yi Yg)
 |.mat arms,_=>[]::arms.map (·.2)
 |.lt x,_=>[[],[x]]
 |.fold x y,_=>[[],[],[x,y]]
 |_,n=>L1 n []
meta def jE(a:Yg×Yi Yg)(k:T):T:=.t [.s a.1,.t (a.2.map .s),k]
meta def ni:Hd->Yi T->T
 |.num n,_=>.t [.s "num",.i n]
 |.name x,_=>.t [.s "name",.s x]
 |.gap n,_=>.t [.s "gap",.i n]
 |.op s,ks=>.t (.s "op"::.s s::ks)
 |.row,ks=>.t [.s "row",.t ks]
 |.more,ks=>.t (.s "more"::ks)
 |.first,ks=>.t (.s "first"::ks)
 |.others,ks=>.t (.s "others"::ks)
 |.long,ks=>.t (.s "long"::ks)
 |.tag t,ks=>.t [.s "tag",.s t,.t ks]
 |.call f,ks=>.t [.s "call",.s f,.t ks]
 |.mat arms,ks=>.t [.s "match",ks.headD .n,.t (O9 jE arms ks.tail)]
 |.ife,ks=>.t (.s "if"::ks)
 |.lt x,ks=>.t (.s "let"::.s x::ks)
 |.fold x y,ks=>.t [.s "fold",ks.getD 0 .n,.s x,.s y,ks.getD 1 .n,ks.getD 2 .n]
mutual
noncomputable def enc:Tm->T
 |.mk h ks=>ni h (FH ks)
noncomputable def FH:Yi Tm->Yi T
 | []=>[]
 |k::r=>enc k::FH r
end
theorem yu :∀ks:Yi Tm,FH ks=ks.map enc
 | []=>rfl
 |k::r=>by unfold FH;rw[yu r];rfl
def bI (h:Hd)(ks:Yi Tm):enc (.mk h ks)=ni h (ks.map enc):=by unfold enc;rw[yu]
mutual
noncomputable def Tm.size:Tm->Nat
 |.mk _ ks=>Tm.sizes ks+1
noncomputable def Tm.sizes:Yi Tm->Nat
 | []=>0
 |k::r=>k.size+Tm.sizes r
end
mutual
noncomputable def Tm.depth:Tm->Nat
 |.mk _ []=>0
 |.mk _ (k::r)=>Tm.mj (k::r)+1
noncomputable def Tm.mj:Yi Tm->Nat
 | []=>0
 |k::r=>max k.depth (Tm.mj r)
end
def Tm.bQ (k:Tm)(r:Yi Tm):Tm.sizes (k::r)=k.size+Tm.sizes r:=by rw[Tm.sizes]
def Tm.eO (h:Hd)(ks:Yi Tm):(Tm.mk h ks).size=Tm.sizes ks+1:=by rw[Tm.size]
def Tm.pN (h:Hd)(k:Tm)(r:Yi Tm):(Tm.mk h (k::r)).depth=Tm.mj (k::r)+1:=by rw[Tm.depth]
theorem Tm.er :∀(a b:Yi Tm),Tm.sizes (a++b)=Tm.sizes a+Tm.sizes b
 | [],b=>by simp[Tm.sizes]
 |k::r,b=>by rw[R0,Tm.bQ,Tm.bQ,Tm.er r b];omega
def Tm.size_pos (a:Tm):0<a.size:=by cases a;unfold Tm.size;omega
def Tm.zO {ks:Yi Tm}(h:k∈ks):k.depth<=Tm.mj ks:=by
 induction ks with
 |nil=>cases h
 |cons y r ih =>
  unfold Tm.mj
  cases h with
  |head=>calc Vf _ _
  |tail _ h=>calc OX (ih h) (UQ _ _)
def Tm.jv {ks:Yi Tm}(m:k∈ks):k.depth<(Tm.mk h ks).depth:=by
 cases ks with
 |nil=>cases m
 |cons y r=>rw[Tm.pN];calc Nat.lt_succ_of_le (Tm.zO m)
def Tm.yw {ks:Yi Tm}(a:∀k∈ks,k.depth<=n):(Tm.mk h ks).depth<=n+1:=by
 cases ks with
 |nil=>unfold Tm.depth;omega
 |cons y r =>
  unfold Tm.depth;calc Q0 ?_;generalize(y::r)=l at a
  induction l with
  |nil=>calc ON _
  |cons z q ih=>unfold Tm.mj;exact WG.mpr #[a z (.head _),ih λk d=>a k (.tail _ d)]
open PySem.Spec PyProof.Rows
meta def d7(d:Env):Yi (Yg×RT)->Yi (Yg×Yh)->Yi (Yg×Yh)
 | [],cs=>cs
 |(n,k)::r,cs=>d7 d r (if k == .free then(n,(d.cells.lookup n).getD 0)::cs else cs)
def oY (h:∀x∈scope.names,x.2=.free->∃c,d.cells.lookup x.1=Yb c):closureFor scope d=pure (d7 d scope.names []):=by
 let go:∀(l:Yi (Yg×RT)) (j:Yi (Yg×Yh)),(∀x∈l,x.2=.free->∃c,d.cells.lookup x.1=Yb c) ->
   (forIn l j λx r=>if(x.2 == NameKind.free)=Yd then do let a ←cellOf d x.1;pure (ForInStep.yield ((x.1,a)::r))else pure (ForInStep.yield r):Sem (Yi (Yg×Yh)))=pure (d7 d l j):=by
  intro l
  induction l with
  |nil=>intro j _;rfl
  |cons x r ih =>
   intro j o;let(n,k):=x;rw[Sd]
   by_cases p:k=.free
   .subst p;let(c,q):=o (n,.free) Qe rfl;let e:cellOf d n=pure c:=by unfold cellOf;rw[show d.cells.lookup n=Yb c from q]
    simp only[beq_self_eq_true,if_true,e,pure_bind];rw[ih _ λy m=>o y (PK _ m)];unfold d7;rw[show d.cells.lookup n=Yb c from q]
    cases r<;>rfl
   .have t:(k == NameKind.free)=Ye:=by simpa using p
    simp only[t,Q7,if_false,pure_bind];rw[ih _ λy m=>o y (PK _ m)]
    conv=>rhs;unfold d7
    simp only[t,Q7,if_false]
 simp only[closureFor];let g:=go scope.names [] h;simp only[g];rfl
theorem jW :∀(l:Yi (Yg×RT)) (o:Yi (Yg×Yh)),(∀x∈l,x.2=.free->∃c,d.cells.lookup x.1=Yb c)->(∀y c,o.lookup y=Yb c->d.cells.lookup y=Yb c) ->
  ∀y c,(d7 d l o).lookup y=Yb c->d.cells.lookup y=Yb c
 | [],_,_,hc=>hc
 |(n,k)::r,o,hl,hc=>by
  refine jW r _ (λx q=>hl x (PK _ q)) λy c e=>?_
  by_cases j:(k == NameKind.free)=Yd
  .rw[if_pos j]at e;rw[Pe]at e
   by_cases p:y=n
   .subst p;simp only[beq_self_eq_true]at e;let(u,m):=hl (y,k) Qe (by simpa using j);let g:d.cells.lookup y=Yb u:=m;rw[g]at e|-;exact e
   .have t:(y == n)=Ye:=beq_eq_false_iff_ne.mpr p;rw[t]at e;exact hc y c e
  .rw[if_neg j]at e;calc hc y c e
theorem oZ :∀(l:Yi (Yg×RT)) (e:Yi (Yg×Yh)) (y:Yg),(∃c,e.lookup y=Yb c)->∃c,(d7 d l e).lookup y=Yb c
 | [],_,_,h=>h
 |(n,k)::r,e,y,h=>by
  refine oZ r _ y ?_
  by_cases g:(k == NameKind.free)=Yd
  .rw[if_pos g,Pe]
   cases hb:(y == n)with
   |true=>calc#[_,rfl]
   |false=>exact h
  .rw[if_neg g];calc h
theorem qm :∀(l:Yi (Yg×RT)) (g:Yi (Yg×Yh)) (y:Yg),(y,NameKind.free)∈l->∃c,(d7 d l g).lookup y=Yb c
 | [],_,_,h=>nomatch h
 |(n,k)::r,g,y,h=>by
  rcases L0.mp h with e|h
  .have m:y=n:=congrArg Prod.fst e;let j:NameKind.free=k:=congrArg Prod.snd e;subst m;subst j;calc oZ r _ y #[(d.cells.lookup y).getD 0,?_];rw[if_pos (by rfl),Pe,beq_self_eq_true]
  .exact qm r _ y h
theorem kZ {d:Env}:∀{names:Yi (Yg×RT)}{x:Yg}{g:RT},(names.map λ(n,k)=>if(k == NameKind.free&&d.scope.kind == .function&&d.kindOf n == Yb .cell)then(n,NameKind.cell)else(n,k)).lookup x=Yb g ->
  names.lookup x=Yb g\/(g=.cell/\names.lookup x=Yb .free)
 | [],_,_,h=>by simp at h
 |(n,k)::r,x,g,h=>by
  let j:=@kZ d r x g;change QE x ((if(k == NameKind.free&&d.scope.kind == .function&&d.kindOf n == Yb .cell)=Yd then(n,NameKind.cell)else(n,k))::_)=_ at h
  cases hx:x == n with
  |true =>
   by_cases e:(k == NameKind.free&&d.scope.kind == .function&&d.kindOf n == Yb .cell)=Yd
   .rw[if_pos e]at h;simp only[Pe,hx]at h
    cases h
    let l:k=.free:=by simp at e;exact e.1.1
    subst l;exact .inr #[rfl,by simp only[Pe,hx]]
   .rw[if_neg e]at h;simp only[Pe,hx]at h
    cases h
    calc .inl (by simp only[Pe,hx])
  |false =>
   by_cases e:(k == NameKind.free&&d.scope.kind == .function&&d.kindOf n == Yb .cell)=Yd
   .rw[if_pos e]at h;simp only[Pe,hx]at h|-;exact j h
   .rw[if_neg e]at h;simp only[Pe,hx]at h|-;calc j h
theorem qo {d:Env}:∀{names:Yi (Yg×RT)}{x:Yg},names.lookup x=Yb .free ->
  (names.map λ(n,k)=>if(k == NameKind.free&&d.scope.kind == .function&&d.kindOf n == Yb .cell)then(n,NameKind.cell)else(n,k)).lookup x=Yb .cell \/
  (names.map λ(n,k)=>if(k == NameKind.free&&d.scope.kind == .function&&d.kindOf n == Yb .cell)then(n,NameKind.cell)else(n,k)).lookup x=Yb .free
 | [],_,h=>by simp at h
 |(n,k)::r,x,h=>by
  let g:=@qo d r x;show QE x ((if(k == NameKind.free&&d.scope.kind == .function&&d.kindOf n == Yb .cell)=Yd then(n,NameKind.cell)else(n,k))::_)=_\/QE x ((if(k == NameKind.free&&d.scope.kind == .function&&d.kindOf n == Yb .cell)=Yd then(n,NameKind.cell)else(n,k))::_)=_
  cases hx:x == n with
  |true =>
   simp only[Pe,hx]at h
   cases h
   by_cases e:(NameKind.free == NameKind.free&&d.scope.kind == .function&&d.kindOf n == Yb .cell)=Yd
   .rw[if_pos e];exact .inl (by simp only[Pe,hx])
   .rw[if_neg e];calc .inr (by simp only[Pe,hx])
  |false =>
   simp only[Pe,hx]at h
   by_cases e:(k == NameKind.free&&d.scope.kind == .function&&d.kindOf n == Yb .cell)=Yd
   .rw[if_pos e];simp only[Pe,hx];exact g h
   .rw[if_neg e];simp only[Pe,hx];calc g h
def nJ (I:Nat->fy->Prop)(turn:∀n s,I n s->OH (OM prog w) A (S4 it) (λr o=>match r with
   |none=>R (.ok .next) o
   |some v=>OH (OM prog w) A (Qy d it v) (λ_ l=>OH (OM prog w) A (TQ d g v) (λ_ t =>
     OH (OM prog w) A (forIn z Yd λc r=>if r=Yd then do let ok ←isTrue c g (eval c g);pure (ForInStep.yield ok)else pure (ForInStep.yield r)) (λok j =>
      if ok=Yd then OH (OM prog w) A (eval C g) (λx q =>
       OH (OM prog w) A (call (.builtin "list.append") [D,x]) (λ_ p=>∃m,m<n/\I m p) E q) E j
      else ∃m,m<n/\I m j) E t) E l) E o) E s)(hE:∀e s',E e s'->notedBy (OM prog w) A g (λe s'=>R (.error e) s') e s')(n:Nat)(h:I n s):
  Qs (OM prog w) A (.compLoop (.ListComp C [#[d,iter,z,0]] scope pos) 0 it D g) R s:=by
 calc U9 rfl I (λn s L=>?_) n h;show OH _ A ((Vr (.ListComp C [#[d,iter,z,0]] scope pos) 0 it D g).onRaise (λx=>do VD x g;theTreesLotGoes x)) _ _ s;calc Vs ?_;rw[compTurn_list];refine cB (Qf (cB (O1 (turn n s L) (λr o y=>?_) hE)))
 cases r with
 |none=>calc pC y
 |some v =>
  calc cB (O1 y (λ_ l B=>?_) hE);refine cB (O1 B (λ_ t J=>cB (O1 J (λok j u=>?_) hE)) hE)
  cases ok with
  |false=>calc pC #[rfl,u]
  |true =>
   calc cB (cB (O1 u (λx q H=>cB (O1 H (λ_ p G=>pC (pC #[rfl,G])) hE)) hE))
meta def br(X:Cx)(scope:P9)(j:Yi Yg)(g:Yi Yh)(C:Yh)(d:fy)(e:Hp):Cx where
 prog:=X.prog
 w:=X.w
 K:=X.K
 mg:=X.mg
 base:=X.base
 A:=X.A
 N:=j
 s₀:=d
 H₀:=e
 env:=compEnvC scope (d7 X.env scope.names []) C X.env
 outer:=X.stack
 stack:=X.stack
 ex:=g
 fn:=λ_=>Ye
 calm:=X.calm
 pn:=[]
 xe:=λ_ _=>False
meta def tV(X:Cx)(g:Yi Expr)(t:TT):Prop :=
 ∀(d:Yi (Yh×Obj)) (s:fy) (e:St) (H:Hp) (Q:Bool->Hp->Prop),Inv X d e H s->t e H Q ->
  OH (OM X.prog X.w) X.A (forIn g Yd λc r=>if r=Yd then do let ok ←isTrue c X.env (eval c X.env);pure (ForInStep.yield ok)else pure (ForInStep.yield r)) (TP X d e Q) X.xe s
meta def vN:TT:=λ_ H Q=>Q Yd H
def fZ :tV X [] vN:=λd s e H Q I h=>by
 rw[SK];calc pC #[H,I,h]
def yx {c:Expr}{t:TT}(g:PT X c t):tV X [c] t:=λd s e H Q I h=>by
 simp only[Sd,SK,if_true];calc cB (cB (O1 (g d s e H Q I h) (λb l j=>pC (pC j)) λ_ _ x=>x))
meta def iX(own:Nat)(fr:Yi Nat)(d:St):St:=L1 own Yc++fr.map λj=>(d[j]?).join
meta def lI(J:It)(g:TG)(y:TT)(z:TE)(Q:VK)(q:St)(C:Hp):Prop:=∃W:Nat->Nat->St->Yi V->Hp->Prop,(∃m,W 0 m q [] C)/\∀i m j e H,W i m j e H ->
 (J.stop i H/\e.length<=lj/\∀p,H p=Yc->Q (.ref p) (upd H p (.Y e))) \/
 (J.go i H/\e.length<lj/\∃N:St->Yi V->Hp->Prop,(∀d l o,N d l o->∃r,r < m/\W (i+1) r d l o)/\∀x u,J.yld i H x u->g x j u λd o=>y d o λok t =>
  if ok=Yd then z d t λv B=>N d (e++[v]) B else N d e t)
meta def vO(own:Nat)(fr:Yi Nat)(e:TI)(g:TG)(j:TT)(l:TE):TE:=λd H Q=>e d H λJ m=>lI J g j l Q (iX own fr d) m
def De {X:Cx}(r:σ.length=X.N.length){i:Nat}(g:(own++fr.map λj=>X.N.getD j OU)[i]?=Yb x)(d:(iX own.length fr σ)[i]?=Yb (Yb v)):
  ∃j∈fr,X.N[j]?=Yb x/\X.N.getD j OU=x/\σ[j]?=Yb (Yb v):=by
 unfold iX at d
 by_cases m:i<own.length
 .rw[Px (by simpa using m),Ru,if_pos m]at d
  cases d
 .rw[Ph (by simpa using m),Qk,vv]at d;rw[Ph (),vv]at g
  cases e:fr[i-own.length]? with
  |none=>rw[e]at d;cases d
  |some j =>
   rw[e]at g d;simp only[To,SM]at g d
   let p:σ[j]?=Yb (Yb v):=by
    cases q:σ[j]? with
    |none=>rw[q]at d;cases d
    |some o=>rw[q]at d;exact congrArg Yb d
   let l:j<X.N.length:=by rw[<-r];exact(bH.mp p).1
   calc#[j,xn e,?_,g,p];rw[<-g,PX,my l];rfl
def tW (I:Inv X pins σ H s)(hkind:scope.kind=.function)(hcell:∀x∈scope.names,x.2≠.cell)(hfr:∀x∈scope.names,x.2=.free->X.env.scope.names.lookup x.1=Yb .cell\/X.env.scope.names.lookup x.1=Yb .free)(hin:∀j∈fr,scope.names.lookup (X.N.getD j OU)=Yb .free)(hC:s⁻¹<=C)(hf:∀b∈M,qb X pins H b)(hfo:∀b∈M,b<s⁻¹)(old:∀b o,s.heap.get? b=Yb o->d.get? b=Yb o)(hn:d.Ns C m):
  Inv (br X scope (own++fr.map λj=>X.N.getD j OU) M C s H) [] (iX own.length fr σ) H {s with heap:=d,toks:=Z}:=by
 let B:∀x∈scope.names,x.2=.free->∃c,X.env.cells.lookup x.1=Yb c:=λx G e=>I.ok.has x.1 (hfr x G e);let sub:∀y c,(d7 X.env scope.names []).lookup y=Yb c->X.env.cells.lookup y=Yb c:=jW _ _ B (by intro y c e;simp at e);let g:∀y,scope.names.lookup y=Yb .free->∃c,(d7 X.env scope.names []).lookup y=Yb c:=λy e=>qm _ _ _ (Qh e)
 refine#[#[I.ok.mod,?_,I.ok.glob,I.ok.blt,hC,λx y c U T=>I.ok.inj x y c (sub x c U) (sub y c T),λx G=>?_,(λx c G=>nomatch G),I.ok.hd,I.ok.frames,.inl rfl,λb D=>?_,I.bs,OX I.ok.bsz I.sz,λb o e D=>?_,λb D z=>?_,I.stack,I.wK],
  rfl,I.bare,Un.kept old,#[m,hn,λi x v U T h3=>?_],λx c e=>?_,I.hok.fresh hC,λx c e=>I.freeC x c (sub x c e),λp hp=>absurd (show p∈([]:Yi (Yh×Obj))from hp) (by simp),I.hok.kept old,?_]
 .exact hkind
 .have Q:(relabel scope X.env).names.lookup x=Yb .cell\/(relabel scope X.env).names.lookup x=Yb .free:=G
  let O:scope.names.lookup x=Yb .free:=by
   rcases Q with e|e
   .rcases kZ e with e|⟨_,e⟩
    .exact absurd rfl (hcell _ (Qh e))
    .exact e
   .rcases kZ e with e|⟨z,_⟩
    .exact e
    .cases z
  exact g x O
 .refine#[OZ (OJ (hfo b D) hC),λx c e=>(hf b D).2.2.2.2.1 x c (sub x c e)]
 .rcases(hf b D).2.2.2.1 with z|z
  .exact I.ok.noex b o e z
  .exact absurd (OJ (OG e) (OX I.ok.bsz z)) (PN _)
 .have J:b∈M:=D;let Y:b∈frs X.stack:=z;rcases L0.mp (I.tH b Y)with e|e
  .exact(hf b J).2.1 e
  .exact(hf b J).2.2.1 e
 .have(j,hj,e1,e2,e3):=De (own:=own) I.len U T;let t:scope.names.lookup x=Yb .free:=by rw[<-e2];exact hin j hj
  let W:=hfr _ (Qh t) rfl;let(m0,aa,S):=I.loc;let(u,r,l):=S j x v e1 e3 (.inr W);calc#[u,r,?_];rcases l with⟨k,_⟩|⟨_,c,ec,z⟩
  .have V:X.env.scope.names.lookup x=Yb .local:=k;rcases W with q|q<;>(rw[show X.env.scope.names.lookup x=_ from q]at V;cases V)
  .have(c',L):=g x t;let:=sub x c' L;rw[ec]at this
   cases this
   let(o,R,hd):=z;exact .inr #[qo t,c,L,o,old c o R,hd]
 .have(v,o,R,hd):=I.cell x c (sub x c e);exact#[v,o,old c o R,hd]
 .show(iX own.length fr σ).length=(own++fr.map λj=>X.N.getD j OU).length;simp[iX]
def tX (I:Inv X pins σ H s)(y:∀b∈t,qb X pins H b)(I':Inv (br X scope R t C s H) j σ' p s')(hC:s⁻¹<=C)(hD:s⁻¹<=D)(hDC:D≠C)(hDn:p D=Yc)(pl:s'.heap.PlainList D ys)(rv:Vals vs ys.toList)(hz:vs.length<=lj)(hs:Rk C s'.heap h''):
  Inv X pins σ (upd p D (.Y vs)) {s' with heap:=h''}:=by
 let un:Un (frs X.stack) t H p s.heap s'.heap:=I'.base;let r:p C=Yc:=I'.free;let at':∀b,b≠C->h''.get? b=s'.heap.get? b:=λb g=>hs.2 b g;let l:∀b o,s.heap.get? b=Yb o->b≠C:=λb o e=>OZ (OJ (OG e) hC);let G:∀b o,s.heap.get? b=Yb o->b≠D:=λb o e=>OZ (OJ (OG e) hD);let d:∀b u,H b=Yb u->b≠D:=λb u e=>OZ (OJ (I.hok.lt e) hD)
 let B:Un (frs X.stack) t H (upd p D (.Y vs)) s.heap h'':=by
  refine#[λb o e n L m=>?_,λb o e n L m=>?_,λb o e n m=>?_,λb o e m=>?_,λb M e=>?_,λb o u e=>?_,λb N e=>?_]
  .rw[at' b (l b o e)];exact un.keep b o e n L m
  .rw[at' b (l b o e)];exact un.slot b o e n L m
  .rw[ay (G b o e)];exact un.free b o e n m
  .rw[at' b (l b o e)];exact un.there b o e m
  .rw[ay (d b _ e)];exact un.tups b M e
  .rw[ay (d b _ e)];exact un.frzs b o u e
  .rw[ay (d b _ e)];exact un.tbls b N e
 let J:ny X.prog X.w (upd p D (.Y vs)) h'':=λb u e=>by
  by_cases g:b=D
  .subst g;rw[af]at e
   cases e
   let(n,O):=pl;calc#[hz,ys.toList,n,rv,?_];rw[at' b hDC]
   simpa using O
  .rw[ay g]at e;refine(I'.hok b u e).stay (λc v Q q=>?_) (λc q=>?_) λc M q=>?_
   .rw[at' c ?_];calc q;rintro rfl;rcases Q with z|z
    .rw[<-z,r]at e;cases e
    .rw[r]at z;cases z
   .rw[ay (λz=>by rw[z,hDn]at q;cases q)];exact q
   .rw[ay (λz=>by rw[z,hDn]at q;cases q)];exact q
 calc I.Ih (s':={s' with heap:=h''}) (ch:=t) I'.os B J I'.bare λb g=>#[(y b g).2.2.2.1,(y b g).2.1,(y b g).2.2.2.2.1,(y b g).2.2.2.2.2]
structure Jv(Y:Cx) (D:Yh) (fp:Yi Yh):Prop where
 stat:∀{H:Hp}{pl:Yi (Yh×Obj)},(∀b∈fp,H b=Yc)->(∀p∈pl,p.1=D)->∀b∈fp,qb Y pl H b
 pin:∀{σ:St}{H:Hp}{s:fy}{o:Obj}{pl:Yi (Yh×Obj)},Inv Y pl σ H s->H D=Yc->s.heap.get? D=Yb o->(∀v,o.data≠.cell v)->Inv Y ([(D,o)]++pl) σ H s
 put:∀{σ:St}{H:Hp}{s:fy}{h:Heap}{t:Nat}{pl:Yi (Yh×Obj)},Inv Y pl σ H s->(∀b o,b≠D->s.heap.get? b=Yb o->h.get? b=Yb o)->H D=Yc->(∀p∈pl,p.1≠D)->Inv Y pl σ H {s with heap:=h,toks:=t}
 out:D∉fp
def FI {ad:Yi Expr}{W:Nat->Nat->St->Yi V->Hp->Prop}{Q:Yi V->Hp->Prop}(hc:Y.calm=Yd)(hx:∀e s,¬Y.xe e s)(hg:PG Y tg g)(ht:tV Y ad tt)(he:PE Y ag te)(T:Turn Y.prog Y.w Y.K tg J fp it tn)(d:Jv Y D fp)(I:Inv Y [] σ H s)(st:tn 0 s.heap)(fn:∀b∈fp,H b=Yc)(dn:H D=Yc)(dd:s.heap.PlainList D #[])(w0:W 0 m σ [] H)(turn:∀i m σ' vs H,W i m σ' vs H->(J.stop i H/\vs.length<=lj/\Q vs H) \/
   (J.go i H/\vs.length<lj/\∃N:St->Yi V->Hp->Prop,(∀j aa H2,N j aa H2->∃m',m' < m/\W (i+1) m' j aa H2)/\∀x H',J.yld i H x H'->g x σ' H' λj H2=>tt j H2 λok Z =>
    if ok=Yd then te j Z λv H4=>N j (vs++[v]) H4 else N j vs Z))(fin:∀{σ:St}{H:Hp}{s:fy}{pl:Yi (Yh×Obj)}{vs:Yi V}{ys:Array eF}{pn:Nat},Inv Y pl σ H s->H D=Yc->s.heap.get? D=Yb {cls:=.type "list",data:=.seq ys pn}->Vals vs ys.toList->vs.length<=lj->Q vs H->R (.ok .next) s):
  Qs (OM Y.prog Y.w) Y.A (.compLoop (.ListComp ag [#[tg,iter,ad,0]] scope pos) 0 (.ref it) (.ref D) Y.env) R s:=by
 refine nJ (E:=Y.xe) (λn s'=>∃i σ' H' vs ys,Inv Y [] σ' H' s'/\tn i s'.heap/\(∀b∈fp,H' b=Yc)/\H' D=Yc/\s'.heap.PlainList D ys/\Vals vs ys.toList/\W i n σ' vs H')
  ?_ (λe s z=>(hx e s z).elim) m #[0,σ,H,[],#[],I,st,fn,dn,dd,.nil,w0]
 rintro n s3 ⟨i,C,Z,vs,ys,J3,ab,ae,ah,⟨pn,ac⟩,rv,w3⟩;generalize ho:({cls:=.type "list",data:=.seq ys pn}:Obj)=od at ac;let ai:Inv Y [(D,od)] C Z s3:=d.pin (pl:=[]) J3 ah ac λv z=>by rw[<-ho]at z;cases z
 let l:∀p∈[(D,od)],p.1=D:=λp O=>by
  let e':p=(D,od):=by simpa using O
  rw[e']
 rcases turn i n C vs Z w3 with⟨stop,hz,q⟩|⟨go,hz,N,hN,step⟩
 .refine cX (T.done Y rfl rfl rfl hc i _ s3 C Z Y.xe ai (d.stat ae l) ab stop) λr s4 ⟨hr,J4⟩=>?_;subst hr;exact fin J4 ah (ho▸(J4.pin (D,od) (rj _ (by simp))).1) rv hz q
 .refine cX (T.item Y rfl rfl rfl hc i _ s3 C Z Y.xe ai (d.stat ae l) ab go) λr s4 ⟨u,hr,h4⟩=>?_;subst hr;calc cX h4 λ_ s5 ⟨x,H5,J5,r5,y5,M,ak⟩=>?_;let al:=J5.pinned (d.stat ak l) (T.obj _ _ M);calc cX (hg _ s5 C H5 x u _ al r5 (step x H5 y5)) λ_ s6 ⟨B,H6,J6,q6⟩=>?_;refine cX (ht _ s6 B H6 _ J6 q6) λok s7 ⟨H7,J7,q7⟩=>?_
  let after:∀{s8:fy}{H8:Hp},Inv Y ([(D,od)]++pI fp s5.heap) B H8 s8->tn (i+1) s8.heap/\(∀b∈fp,H8 b=Yc)/\H8 D=Yc/\s8.heap.PlainList D ys:=λ{s8 H8} U=>by
   refine#[T.keep _ _ _ M λb L o e=>(U.pin (b,o) (rj _ (rj _ (fc L e)))).1,λb L=>?_,?_,pn,?_]
   .have(o,e,d):=T.obj _ _ M b L;exact(U.pin (b,o) (rj _ (rj _ (fc L e)))).2.1
   .exact(U.pin (D,od) (rj _ (O4 _ (by simp)))).2.1
   .rw[ho];exact(U.pin (D,od) (rj _ (O4 _ (by simp)))).1
  cases ok with
  |false =>
   let(m',hm,w7):=hN _ _ _ q7;let(a1,a2,a3,a4):=after J7;calc#[m',hm,i+1,B,H7,vs,ys,J7.fB (λp O=>absurd O (by simp)),a1,a2,a3,a4,rv,w7]
  |true =>
   calc cX (he _ s7 B H7 _ J7 q7) λy s8 ⟨v8,H8,U,r8,n8⟩=>?_;let(m',hm,w8):=hN _ _ _ n8;let(a1,a2,a3,a4):=after U
   let aj:ys.size<=lj:=by
    let e1:vs.length=ys.toList.length:=rv.length;let e2:ys.toList.length=ys.size:=by simp
    omega
   refine wpAny_list_append_plain (hsz:=aj) a4 λam S G=>?_
   refine#[m',hm,i+1,B,H8,vs++[v8],ys.push y,d.put (t:=s8.toks) (U.fB λp O=>absurd O (by simp)) (λb o L e=>by rw[G.2 b L];calc e) a3 (λp O=>absurd O (by simp)),
    T.keep _ _ _ a1 λb L o e=>(G.2 b (λz=>d.out (z▸L))).trans e,a2,a3,S,?_,w8]
   let:Vals (vs++[v8]) (ys.toList++[y]):=rv.append (.cons r8 .nil)
   simpa using this
def yy (own:Yi Yg)(fr:Yi Nat)(hc:X.calm=Yd)(hkind:scope.kind=.function)(hcell:∀x∈scope.names,x.2≠.cell)(hnames:∀x∈scope.names,x.2=.local->scope.names.lookup x.1=Yb .local)(hfr:∀x∈scope.names,x.2=.free->X.env.scope.names.lookup x.1=Yb .cell\/X.env.scope.names.lookup x.1=Yb .free)(hin:∀j∈fr,scope.names.lookup (X.N.getD j OU)=Yb .free)(hi:PI X tg iter wi)(hg:∀t C s H,PG (br X scope (own++fr.map λj=>X.N.getD j OU) t C s H) tg g)(ht:∀t C s H,tV (br X scope (own++fr.map λj=>X.N.getD j OU) t C s H) u tt)(he:∀t C s H,PE (br X scope (own++fr.map λj=>X.N.getD j OU) t C s H) S te)(hs:∀x,Pg iter X.env x=pure x)(I:Inv X pins σ H s)(h:vO own.length fr wi g tt te σ H Q)(fin:∀{t:Yi Yh}{C:Yh}{d s4:fy}{L H3:Hp}{aa:St}{vs:Yi V}{ys:Array eF}{pn:Nat}{pl:Yi (Yh×Obj)},Inv X pins σ L d->(∀b∈t,qb X pins L b)->Inv (br X scope (own++fr.map λj=>X.N.getD j OU) t C d L) pl aa H3 s4->d⁻¹<=C->d⁻¹≠C->H3 d⁻¹=Yc->s4.heap.get? d⁻¹=Yb {cls:=.type "list",data:=.seq ys pn}->Vals vs ys.toList->vs.length<=lj->Q (.ref d⁻¹) (upd H3 d⁻¹ (.Y vs))->compPost (OM X.prog X.w) X.A X.xe U R (.ref d⁻¹) C (.ok .next) s4):
  OH (OM X.prog X.w) X.A (comprehension (.ListComp S [#[tg,iter,u,0]] scope pos) scope X.env (firstIterPos [#[tg,iter,u,0]] pos) (newList []) (firstAsync [#[tg,iter,u,0]]) (firstIter [#[tg,iter,u,0]] X.env) U) R X.xe s:=by
 let B:∀x∈scope.names,x.2=.free->∃c,X.env.cells.lookup x.1=Yb c:=λx hx e=>I.ok.has x.1 (hfr x hx e);calc UG (use:=U) rfl hs (oY B) hkind hnames ?_;calc cX (hi pins s σ H _ I h) λv s1 h1=>cX h1 λan d h2=>?_;let(it,t,tn,J,L,e,I2,T,ad,f2,W,(m0,w0),ab):=h2;subst e;let ah:∀b∈t,b<d⁻¹:=λb D=>by let(o,e,_):=T.obj 0 _ ad b D;exact OG e
 calc Pr (wpAny_newFunctionEnv hcell (by intro y hy;simp at hy) (λr m l=>?_) hkind);dsimp only at m l|-;generalize hH2:d.heap.push {cls:=.type "list",dict:=Yc,data:=.seq ([]:List eF).toArray}=G2 at m l|-;let hC:G2.objs.size=d⁻¹+1:=by rw[<-hH2,PL]
 let G:d⁻¹≠G2.objs.size:=by rw[hC];exact OZ (QZ _)
 let O:d⁻¹<=G2.objs.size:=by rw[hC];exact Pc _
 let ae:∀b o,d.heap.get? b=Yb o->r.get? b=Yb o:=λb o e=>l.extBut b o (by rw[hC];calc OZ (Ut (OG e))) (mH _ (hH2▸mH _ e));let ai:r.PlainList d⁻¹ #[]:=#[_,l.extBut _ _ G (mH _ (hH2▸OI _ rfl))]
 let I3:Inv (br X scope (own++fr.map λj=>X.N.getD j OU) t G2.objs.size d L) [] (iX own.length fr σ) L {d with heap:=r,toks:=d.toks+([]:Yi (Yg×eF)).length} :=
  tW I2 hkind hcell hfr hin O f2 ah ae m
 let ac:tn 0 r:=T.keep 0 _ _ ad λb _ o e=>ae b o e;let ak:d⁻¹∉t:=λhm=>PN _ (ah _ hm);let aj:L d⁻¹=Yc:=I2.hok.fresh (i5 _);let sub:∀y c,(d7 X.env scope.names []).lookup y=Yb c->X.env.cells.lookup y=Yb c:=jW _ _ B (by intro y c e;simp at e)
 let Z:∀y c,(d7 X.env scope.names []).lookup y=Yb c->c≠d⁻¹:=λy c e=>by
  let(_,o,ho,_):=I2.cell y c (sub y c e);exact OZ (OG ho)
 let am:d⁻¹∉frs X.stack:=λz=>by
  rcases L0.mp (I2.tH _ z)with e|e
  .exact absurd I2.lt (by rw[<-e];calc PN _)
  .exact I2.Fd (i5 _) e
 let dI:Jv (br X scope (own++fr.map λj=>X.N.getD j OU) t G2.objs.size d L) d⁻¹ t:=#[λ{H' pl} hn hp b D=>by
  calc#[hn b D,(I3.ok.exf b D).1,I3.ok.exfs b D,.inl D,(I3.ok.exf b D).2,λp al z=>?_];let ag:p∈pl:=by simpa[br]using al
  exact ak (by rw[<-hp p ag,z];calc D),λ{σ' H' s' o pl} J hn e hcl=>J.fB λp hp=>by
  rcases IF.mp hp with hp|hp
  rotate_left
  .exact J.pin p (rj _ hp)
  let e':p=(d⁻¹,o):=by simpa using hp
  subst e';exact#[e,hn,G,am,hcl],
  λ{σ' H' s' h' t' pl} J k hn hp=>J.turned (it:=d⁻¹) k hn G (.inr (i5 _)) Z (λp q=>hp p (by simpa[br]using q)),ak]
 let M:Qs (OM X.prog X.w) X.A (.compLoop (.ListComp S [#[tg,iter,u,0]] scope pos) 0 (.ref it) (.ref d⁻¹) (compEnvC scope (d7 X.env scope.names []) G2.objs.size X.env))
   (compPost (OM X.prog X.w) X.A X.xe U R (.ref d⁻¹) G2.objs.size) {d with heap:=r,toks:=d.toks+([]:Yi (Yg×eF)).length} :=
  FI (Y:=(br X scope (own++fr.map λj=>X.N.getD j OU) t G2.objs.size d L)) hc (λ_ _ z=>z) (hg _ _ _ _) (ht _ _ _ _) (he _ _ _ _) T dI I3 ac (λb D=>(f2 b D).1) aj ai w0 ab λ{aa H3 s4 pl vs ys pn} J4 dn3 e4 rv hz q=>fin I2 f2 J4 O G dn3 e4 rv hz (q _ dn3)
 calc codeAny_compStart_list M (T.self X.A 0 _ _ _ ac M)
def FJ (own:Yi Yg)(fr:Yi Nat)(L:X.calm=Yd)(hkind:scope.kind=.function)(hcell:∀x∈scope.names,x.2≠.cell)(hnames:∀x∈scope.names,x.2=.local->scope.names.lookup x.1=Yb .local)(hfr:∀x∈scope.names,x.2=.free->X.env.scope.names.lookup x.1=Yb .cell\/X.env.scope.names.lookup x.1=Yb .free)(hin:∀j∈fr,scope.names.lookup (X.N.getD j OU)=Yb .free)(hi:PI X tg iter u)(hg:∀l C s H,PG (br X scope (own++fr.map λj=>X.N.getD j OU) l C s H) tg g)(ht:∀l C s H,tV (br X scope (own++fr.map λj=>X.N.getD j OU) l C s H) d v)(he:∀l C s H,PE (br X scope (own++fr.map λj=>X.N.getD j OU) l C s H) m y)(hs:∀x,Pg iter X.env x=pure x:=by intro _;rfl):PE X (.ListComp m [#[tg,iter,d,0]] scope pos) (vO own.length fr u g v y):=by
 intro z s S H Q I h;rw[eval_ListComp];calc yy own fr L hkind hcell hnames hfr hin hi hg ht he hs I h λR M B e r t O D J q=>?_;let(G,p,_):=id B.loc;calc#[G,p,λT o=>#[.ref _,_,tX R M B e (i5 _) r t #[_,O] D J o,rfl,q]]
meta def nK(scope d:P9)(e:Yi Yg)(fr:Yi Nat):Bool :=
 scope.kind == .function&&scope.names.all (λx=>x.2 != .cell&&(x.2 != .local||scope.names.lookup x.1 == Yb .local)&&(x.2 != .free||d.names.lookup x.1 == Yb .cell||d.names.lookup x.1 == Yb .free)) &&
  fr.all (λj=>scope.names.lookup (e.getD j OU) == Yb .free)
def lJ {o iter tg:Expr}{d:Yi Expr}{scope:P9}{pos:Pos}{t:TI}{g:TG}{u:TT}{v:TE}(y:P9)(p own:Yi Yg)(fr:Yi Nat)(I:X.calm=Yd)(r:X.env.scope=y)(J:X.N=p)(ok:nK scope y p fr=Yd)(hi:PI X tg iter t)(hg:∀m C s H,PG (br X scope (own++fr.map λj=>p.getD j OU) m C s H) tg g)(ht:∀m C s H,tV (br X scope (own++fr.map λj=>p.getD j OU) m C s H) d u)(he:∀m C s H,PE (br X scope (own++fr.map λj=>p.getD j OU) m C s H) o v)(hs:∀x,Pg iter X.env x=pure x:=by intro _;rfl):PE X (.ListComp o [#[tg,iter,d,0]] scope pos) (vO own.length fr t g u v):=by
 subst r J;unfold nK at ok;simp only[Pd,Pj,bne_iff_ne,beq_iff_eq,QN]at ok;let((D,q),B):=ok;refine FJ own fr I D (λx l=>(q x l).1.1) (λx l e=>?_) (λx l e=>?_) (λj G=>B j G) hi hg ht he hs
 .rcases(q x l).1.2 with z|z
  .exact absurd e z
  .exact z
 .rcases(q x l).2 with(z|z)|z
  .exact absurd e z
  .exact .inl z
  .exact .inr z
def sN (n:Nat)(l:Nat->St->Yi V->Hp->Prop)(I:l 0 σ0 [] H0)(r:∀i d vs H,i<=n->l i d vs H->vs.length<=i)(hn:n<=lj)(z:∀i d vs H,i<n->l i d vs H->J.go i H)(u:∀d vs H,l n d vs H->J.stop n H)(hs:∀i d vs H x t,i<n->l i d vs H->J.yld i H x t->g x d t λj C=>tt j C λok B=>if ok=Yd then te j B λv L=>l (i+1) j (vs++[v]) L else l (i+1) j vs B)(hd:∀d vs H,l n d vs H->∀p,H p=Yc->Q (.ref p) (upd H p (.Y vs))):lI J g tt te Q σ0 H0:=by
 calc#[λi m d vs H=>m=n-i/\i<=n/\l i d vs H,#[n,by simp,ON _,I],?_];rintro i m d vs H ⟨rfl,G,p⟩;let M:=r i d vs H G p
 by_cases o:i<n
 .exact .inr #[z i d vs H o p,(),l (i+1),λj D C q=>#[n - (i+1),(),rfl,o,q],λx t y=>hs i d vs H x t o p y]
 .have e:i=n:=()
  subst e;calc .inl #[u d vs H p,(),hd d vs H p]
def mw (j:Nat->St->Yi V->Hp->Prop)(r:j 0 σ0 [] H0)(l:∀i e vs H,i<=n->j i e vs H->vs.length<=i)(hn:n<=lj)(hs:∀i e vs H,i<n->j i e vs H->g (.int (m+i)) e H λd u=>tt d u λok o=>if ok=Yd then te d o λv t=>j (i+1) d (vs++[v]) t else j (i+1) d vs o)(hd:∀e vs H,j n e vs H->∀p,H p=Yc->Q (.ref p) (upd H p (.Y vs))):lI (I9 m n) g tt te Q σ0 H0 :=
 sN n j r l hn (λ_ _ _ _ h _=>h) (λ_ _ _ _=>i5 _) (λi e vs H x z q p y=>by let(rfl,rfl):=y;calc hs i e vs _ q p) hd
def jw {K:bN}(j:Nat->St->Yi V->Hp->Prop)(r:j 0 σ0 [] H0)(l:∀i d vs H,i<=xs.length->j i d vs H->vs.length<=i)(hn:xs.length<=lj)(o:∀i d vs H,i<=xs.length->j i d vs H->bA K H a xs)(hs:∀i x d vs H,xs[i]?=Yb x->j i d vs H->g x d H λe u=>tt e u λok q=>if ok=Yd then te e q λv t=>j (i+1) e (vs++[v]) t else j (i+1) e vs q)(hd:∀d vs H,j xs.length d vs H->∀p,H p=Yc->Q (.ref p) (upd H p (.Y vs))):lI (Ij K a) g tt te Q σ0 H0:=by
 calc sN xs.length j r l hn (λi d vs H m p=>#[xs,xs[i],o i d vs H (O7 m) p,by simp[m]]) (λd vs H p=>#[xs,o _ d vs H (i5 _) p,i5 _]) (λi d vs H x z m p y=>?_) hd;let(rfl,y):=y;calc hs i x d vs _ (y xs (o i d vs _ (O7 m) p)) p
structure rR(h:Heap) (lo:Nat) (xs ys:Array eF) (as:Yi Nat):Prop where
 rise:as.Pairwise (· < ·)
 low:∀a∈as,lo<=a
 pairs:∀(j:Nat) (a:Nat),as[j]?=Yb a->∃x y,xs[j]?=Yb x/\ys[j]?=Yb y/\RL h a x y
def rR.lt (g:rR h d xs ys as)(m:a∈as):a<h.objs.size:=by
 let(j,l):=List.mem_iff_getElem?.mp m;let(_,_,_,_,e):=g.pairs j a l;calc OG e
def rR.keep (g:rR h d xs ys as)(k:∀c o,d<=c->h.get? c=Yb o->h'.get? c=Yb o):rR h' d xs ys as :=
 #[g.rise,g.low,λj a e=>by
  let(x,y,p,m,l):=g.pairs j a e;calc#[x,y,p,m,k a _ (g.low a (xn e)) l]]
def rR.snoc (g:rR h d xs ys as)(k:∀c o,d<=c->h.get? c=Yb o->h'.get? c=Yb o)(hn:d<=n)(l:h.objs.size<=n)(q:xs[as.length]?=Yb x)(p:ys[as.length]?=Yb y)(r:RL h' n x y):
  rR h' d xs ys (as++[n]):=by
 let u:=g.keep k;refine#[List.pairwise_append.mpr #[g.rise,Su _ _,λa m b t=>?_],λa m=>?_,λj a e=>?_]
 .rw[tF.mp t];exact OJ (g.lt m) l
 .rcases IF.mp m with h|h
  .exact g.low a h
  .rw[tF.mp h];exact hn
 .rcases Nat.lt_trichotomy j as.length with hj|hj|hj
  .rw[Px hj]at e;exact u.pairs j a e
  .subst hj;rw[Ph (i5 _),Va]at e
   cases e
   exact#[x,y,q,p,r]
  .rw[SX (by rw[mu,SW];omega)]at e;cases e
theorem wW :∀{ys:Yi Yg}{us:List eF},Vals (ys.map V.str) us->StrsAre us ys
 | [],_,.nil=>.nil
 |_::_,_,.cons ⟨t,e⟩ r=>by subst e;calc .cons _ t (wW r)
meta def rJoin(K:bN):V->Yi V->Hp->VK->Prop:=λx e H Q=>∃z p d,x=.str z/\e=[.ref p]/\bA K H p (d.map V.str)/\(d.map (·.length)).sum+d.length*z.length<=16777216/\Q (.str (Txt.join z d)) H
def FL :Me X "str.join" (rJoin X.K):=by
 intro d s B H x D v G Q I e l h;let(z,p,C,rfl,rfl,r,y,q):=h;let(t,rfl):=e;let(u,rfl,j):=vals1 l
 cases j
 let(o,g,m,L):=I.list r;calc join_list m.isList (by simpa using wW g) y λJ k=>#[.str _,H,I.tok _,#[_,rfl],q]
theorem tY :∀{bs:Yi Bool}{us:List eF},Vals (bs.map V.bl) us->LSm.BoolsAre us bs
 | [],_,.nil=>.nil
 |_::_,_,.cons e r=>by cases e;calc .cons _ (tY r)
def Dg (D:X.calm=Yd):iL X (.builtin "all") (λxs H Q=>∃(p:Yh) (bs:Yi Bool),xs=[.ref p]/\bA X.K H p (bs.map V.bl)/\Q (.bl (bs.all id)) H):=by
 intro l s J H xs L Q I r h;let(p,bs,rfl,B,q):=h;let(u,rfl,y):=vals1 r
 cases y
 let(d,t,z,O):=I.list B;let m:=tY t;let j:=z.isList;let g:p<s⁻¹:=by let(_,e,_):=j;exact OG e
 refine call_all_walk (SA j ?_)
 refine#[s⁻¹,[s⁻¹,p],[s⁻¹],d.toArray.size,_,_,λi=>(bs[i]?).getD Yd,rfl,Walks.list (A:=X.A.in1) (I.ok.hd D) _ p (OZ g) d.toArray,
  #[#[_,OI _ rfl,rfl,rfl],j.push _],λi v N S T G o=>?_,λR M C=>?_]
 .have(b,e,rfl):=m.get i v (by simpa using G);simp only[e,Option.getD_some]at o;exact Rl o
 .have e:((QJ d.toArray.size).all λi=>(bs[i]?).getD Yd)=bs.all id:=by
   rw[I0,m.length];exact LSm.range_all bs
  rw[e];calc#[.bl _,H,I.kept (LSm.kept_iter C),rfl,q]
meta def MO:V->Option Int->Option Int->Hp->VK->Prop:=λx d e H Q=>∃z,x=.str z/\z.length<=lj/\Q (.str (QC z d e)) H
def part_of (h:UC v o):∃p:Option (Int×Tok),v=partValue p/\p.map (·.1)=o:=by
 cases h with
 |none=>calc#[Yc,rfl,rfl]
 |int i t=>calc#[Yb (i,t),rfl,rfl]
def Dh :CJ X MO:=by
 intro d s C H x v G D M N L Q I j r o m h;let(z,rfl,p,q):=h;let(t,rfl):=j;let(g,rfl,B):=part_of o;let(e,rfl,y):=part_of m;calc#["str",_,PySem.F.slot_str_getitem.lookup,typeIs_str s z t,?_];calc wpAny_getItem_str_slice (l:=g) (u:=e) (st:=Yc) r rfl ?_;subst B y
 cases g<;>cases e<;>calc post_val_or_str #[OX (Txt.slice_le z _ _) p,λJ k=>#[.str _,H,I.tok _,#[_,rfl],q]]
meta def vP(xs:Yi V)(d hi st:Option Int):Yi V:=(Uc (PU d hi st xs.length).1 (PU d hi st xs.length).2.1 (PU d hi st xs.length).2.2).filterMap (xs[·]?)
theorem qW (r:Vals xs us):∀d:Yi Nat,Vals (d.filterMap (xs[·]?)) (d.filterMap (us[·]?))
 | []=>.nil
 |i::d=>by
  rw[Qw,Qw]
  cases e:xs[i]? with
  |none=>rw[r.none_of e];calc qW r d
  |some x =>
   let(u,j,g):=r.get e;rw[j];calc .cons g (qW r d)
meta def MP(K:bN)(te:TE)(tl th tk:TO):TE:=λd H Q=>te d H λx q=>tl d q λl o=>th d o λu m=>tk d m λk j=>∃a g,x=.ref a/\bA K j a g/\k≠Yb 0/\(vP g l u k).length<=lj /\
 ∀p,j p=Yc->Q (.ref p) (upd j p (.Y (vP g l u k)))
def BK {e st:Expr}{lo hi:Option Expr}{te:TE}{tl th tk:TO}{p2 pos:Pos}(he:PE X e te)(hl:PO X lo tl)(hu:PO X hi th)(hk:PO X (Yb st) tk):PE X (.Subscript e (.Slice lo hi (Yb st) p2) pos) (MP X.K te tl th tk):=by
 intro d s g H Q I h;calc U3 (cX (he d s g H _ I h) λv M ⟨x,H1,I1,N,q1⟩=>?_);calc wpAny_Slice (cX (hl d M g H1 _ I1 q1) λD L ⟨l,H2,I2,V,S⟩=>cX (hu d L g H2 _ I2 S) λC J ⟨u,H3,I3,U,R⟩=>cX (hk d J g H3 _ I3 R) λG j ⟨k,H4,I4,W,O⟩=>?_);let(a,t,rfl,hx,Z,y,q):=O
 cases N
 let z:Inv X d g H4 {j with heap:=j.heap.push {cls:=.type "slice",data:=.fields #[D,C,G,]}}:=I4.kept (t':=j.toks) λb Y q=>mH _ q;let(m,r,B,hz):=z.list hx;let p:=r.length;calc tail_any (T:="list") (ops:=[.ref a,.ref j⁻¹]) B.isList.typeIs Ur.lookup ?_ (by rfl');refine UD B.isList (T9 ..) V U W Z ?_ (by rw[I0]<;>omega)
 let ep:Wm m.toArray l u k=((Uc (PU l u k t.length).1 (PU l u k t.length).2.1 (PU l u k t.length).2.2).filterMap (m[·]?)).toArray:=by
  unfold Wm;rw[I0,<-p];simp
 rw[ep];calc#[.ref _,_,z.laid (t':=j.toks) (o:=.Y (vP t l u k)) (λb Y q=>mH _ q) (i5 _) ?_,rfl,q _ (z.hok.fresh (i5 _))];calc#[y,_,0,qW r _,OI _ rfl]
def FN {st:Option Int}(h:Uc (PU d hi st xs.length).1 (PU d hi st xs.length).2.1 (PU d hi st xs.length).2.2=e):vP xs d hi st=e.filterMap (xs[·]?):=by
 unfold vP;rw[h]
meta def FO:Expr->Option Yg
 |.Constant (.str x) _ _=>Yb x
 |_=>Yc
meta def strsOf:Yi Expr->Option (Yi Yg)
 | []=>Yb []
 |e::r=>(FO e).bind λx=>(strsOf r).map (x::·)
meta def Di(xs:Yi Yg):TA:=λ_ H Q=>Q (xs.map V.str) H
def FP (h:FO e=Yb x):∃j p,e=.Constant (.str x) j p:=by
 unfold FO at h
 split at h
 .cases h;exact#[_,_,rfl]
 .cases h
def AH :∀{xs:Yi Yg},strsOf d=Yb xs->PA X d (Di xs):=by
 induction d with
 |nil=>intro xs h;cases h;calc aA
 |cons e r ih =>
  intro xs h;unfold strsOf at h
  cases h1:FO e with
  |none=>rw[h1]at h;cases h
  |some x =>
   cases h2:strsOf r with
   |none=>rw[h1,h2]at h;cases h
   |some ys =>
    rw[h1,h2]at h
    cases h
    let(j,p,rfl):=FP h1;exact bJ aD (ih h2) rfl
open PySem.SeqAt
theorem yz :∀{bs:Yi Bool}{us:List eF},Vals (bs.map V.bl) us->us=bs.map Value.bool
 | [],us,r=>by cases r;rfl
 |d::ds,us,r=>by
  cases r with
  |cons a b =>
   let z:=yz b;subst z;calc congrArg (·::_) a
mutual
noncomputable def Rp(K:bN)(H:Hp):T->V->Prop
 |.s x,v=>v=.str x
 |.i n,v=>v=.int n
 |.n,v=>v=.eR
 |.t xs,v=>∃a d,v=.ref a/\bY K H a d/\bR K H xs d
noncomputable def bR(K:bN)(H:Hp):Yi T->Yi V->Prop
 | [],vs=>vs=[]
 |x::r,vs=>∃v q,vs=v::q/\Rp K H x v/\bR K H r q
end
meta def Kt(H e:Hp):Prop:=∀a d,Rd H a (.J d)->Rd e a (.J d)
def Kt.refl :Kt H H:=λ_ _ h=>h
def Kt.trans (a:Kt H g)(b:Kt g e):Kt H e:=λc d h=>b c d (a c d h)
def Kt.Z (s:aR H d):Kt H d:=λa g h=>h.elim (λe=>.inl (s _ _ e)) λ⟨o,e⟩=>.inr #[o,s _ _ e]
def Kt.new {H:Hp}{p:Yh}(h:H p=Yc)(o:HO):Kt H (upd H p o):=λa d r=>r.elim (λe=>.inl (by rw[ay (au e h)];calc e)) λ⟨u,e⟩=>.inr #[u,by rw[ay (au e h)];calc e]
def Kt.upd {H:Hp}{l:Yh}{u:HO}(h:H l=Yb u)(g:∀xs,u≠.J xs)(d:∀o xs,u≠.nX o (.J xs))(o:HO):Kt H (upd H l o):=λa xs r=>by
 rcases r with e|⟨p,e⟩
 .exact .inl (by rw[ay (jB e h λz=>g _ z.symm)];calc e)
 .exact .inr #[p,by rw[ay (jB e h λz=>d _ _ z.symm)];calc e]
def Kt.Y (h:H l=Yb (.Y xs))(o:HO):Kt H (L2.upd H l o):=Kt.upd h ⋯ (λ_ _ z=>nomatch z) o
def bY.kt {K:bN}(k:Kt H H')(h:bY K H a xs):bY K H' a xs:=h.elim (λe=>.inl (k _ _ e)) .inr
theorem bR.all {K:bN}(f:∀{x v},Rp K H x v->Rp K H' x v):∀{xs:Yi T}{vs:Yi V},bR K H xs vs->bR K H' xs vs
 | [],vs,h=>by unfold bR at h|-;calc h
 |x::r,vs,h=>by
  unfold bR at h|-;let(v,q,e,g,d):=h;calc#[v,q,e,f g,bR.all f d]
def bR.nil {K:bN}:bR K H [] []:=by unfold bR;rfl
def bR.cons {K:bN}{H:Hp}{x:T}{v:V}{r:Yi T}{q:Yi V}(h:Rp K H x v)(t:bR K H r q):bR K H (x::r) (v::q):=by unfold bR;calc#[v,q,rfl,h,t]
def bR.inv {K:bN}(h:bR K H (x::r) vs):∃v q,vs=v::q/\Rp K H x v/\bR K H r q:=by unfold bR at h;calc h
def bR.ik {K:bN}(h:bR K H [] vs):vs=[]:=by unfold bR at h;calc h
def Rp.s {K:bN}:Rp K H (.s x) (.str x):=by unfold Rp;rfl
def Rp.i {K:bN}:Rp K H (.i n) (.int n):=by unfold Rp;rfl
def Rp.eR {K:bN}:Rp K H .n .eR:=by unfold Rp;rfl
def Rp.t {K:bN}(h:bY K H a vs)(r:bR K H xs vs):Rp K H (.t xs) (.ref a):=by unfold Rp;calc#[a,vs,rfl,h,r]
def Rp.aL {K:bN}(h:Rp K H (.s x) v):v=.str x:=by unfold Rp at h;calc h
def Rp.jS {K:bN}(h:Rp K H (.i n) v):v=.int n:=by unfold Rp at h;calc h
def Rp.aS {K:bN}(h:Rp K H (.t xs) v):∃a vs,v=.ref a/\bY K H a vs/\bR K H xs vs:=by unfold Rp at h;calc h
def Rp.kt {K:bN}(k:Kt H H'):∀{v:V},Rp K H x v->Rp K H' x v:=by
 induction x using T.induct with
 |hs x=>intro v h;rw[h.aL];calc .s
 |hi x=>intro v h;rw[h.jS];calc .i
 |hn=>intro v h;unfold Rp at h;rw[h];calc .eR
 |ht xs ih =>
  intro v h;let(a,d,rfl,hs,hr):=h.aS;calc .t (hs.kt k) ?_;clear hs h
  induction xs generalizing d with
  |nil=>rw[hr.ik];calc .nil
  |cons x r ih2 =>
   let(v,q,rfl,j,g):=hr.inv;calc .cons (ih x (.head _) j) (ih2 (λy e=>ih y (.tail _ e)) _ g)
def bR.kt {K:bN}(k:Kt H H')(h:bR K H xs vs):bR K H' xs vs:=bR.all (λh=>h.kt k) h
theorem bR.length {K:bN}:∀{xs:Yi T}{vs:Yi V},bR K H xs vs->vs.length=xs.length
 | [],vs,h=>by rw[h.ik];rfl
 |x::r,vs,h=>by
  let(v,q,rfl,_,d):=h.inv;rw[OT,OT,bR.length d]
theorem bR.get {K:bN}:∀{xs:Yi T}{vs:Yi V}{i:Nat}{x:T},bR K H xs vs->xs[i]?=Yb x->∃v,vs[i]?=Yb v/\Rp K H x v
 | [],vs,i,x,h,e=>by simp at e
 |x::r,vs,0,y,h,e=>by
  let(v,q,rfl,l,_):=h.inv;simp at e;subst e;calc#[v,rfl,l]
 |x::r,vs,i+1,y,h,e=>by
  let(v,q,rfl,_,j):=h.inv;let(w,g,d):=bR.get (i:=i) j (by simpa using e);calc#[w,by simpa using g,d]
def bR.get' {K:bN}:∀{xs:Yi T}{vs:Yi V}{i:Nat}{v:V},bR K H xs vs->vs[i]?=Yb v->∃x,xs[i]?=Yb x/\Rp K H x v:=λ{xs vs i v} h e=>by
 let l:=h.length
 let d:i<xs.length:=by
  rcases Nat.lt_or_ge i vs.length with z|z
  .omega
  .rw[R3.mpr z]at e;cases e
 let(w,g,j):=h.get (my d);rw[e]at g;cases g;calc#[_,my d,j]
theorem bR.append {K:bN}:∀{xs ys:Yi T}{vs d:Yi V},bR K H xs vs->bR K H ys d->bR K H (xs++ys) (vs++d)
 | [],ys,vs,d,h,g=>by rw[h.ik];calc g
 |x::r,ys,vs,d,h,g=>by
  let(v,q,rfl,j,e):=h.inv;calc .cons j (bR.append e g)
def bR.one {K:bN}(h:Rp K H x v):bR K H [x] [v]:=.cons h .nil
def bR.snoc {K:bN}(h:bR K H xs vs)(g:Rp K H x v):bR K H (xs++[x]) (vs++[v]):=h.append (.one g)
theorem bR.drop {K:bN}:∀{xs:Yi T}{vs:Yi V}(n:Nat),bR K H xs vs->bR K H (xs.drop n) (vs.drop n)
 |xs,vs,0,h=>h
 | [],vs,n+1,h=>by rw[h.ik];calc .nil
 |x::r,vs,n+1,h=>by
  let(v,q,rfl,_,d):=h.inv;calc bR.drop n d
theorem bR.take {K:bN}:∀{xs:Yi T}{vs:Yi V}(n:Nat),bR K H xs vs->bR K H (xs.take n) (vs.take n)
 |xs,vs,0,h=>.nil
 | [],vs,n+1,h=>by rw[h.ik];calc .nil
 |x::r,vs,n+1,h=>by
  let(v,q,rfl,e,d):=h.inv;calc .cons e (bR.take n d)
theorem bR.split {K:bN}:∀{xs ys:Yi T}{vs:Yi V},bR K H (xs++ys) vs->∃d us,vs=d++us/\bR K H xs d/\bR K H ys us
 | [],ys,vs,h=>#[[],vs,rfl,.nil,h]
 |x::r,ys,vs,h=>by
  let(v,q,rfl,l,j):=bR.inv h;let(d,us,rfl,g,e):=bR.split j;calc#[v::d,us,rfl,.cons l g,e]
theorem bR.reverse {K:bN}:∀{xs:Yi T}{vs:Yi V},bR K H xs vs->bR K H xs.reverse vs.reverse
 | [],vs,h=>by rw[h.ik];calc .nil
 |x::r,vs,h=>by
  let(v,q,rfl,e,d):=h.inv;rw[Rm,Rm];calc(bR.reverse d).snoc e
theorem bR.strs {K:bN}:∀(xs:Yi Yg),bR K H (xs.map .s) (xs.map .str)
 | []=>.nil
 |_::r=>.cons .s (bR.strs r)
theorem bR.qp {K:bN}:∀{xs:Yi Yg}{vs:Yi V},bR K H (xs.map .s) vs->vs=xs.map .str
 | [],vs,h=>h.ik
 |x::r,vs,h=>by
  let(v,q,rfl,e,d):=bR.inv h;rw[e.aL,bR.qp d];rfl
def Rp.inj {s:fy}(I:Inv X pins σ H s)(a:T):∀(b:T) {v:V},Rp X.K H a v->Rp X.K H b v->a=b:=by
 induction a using T.induct with
 |hs x =>
  intro b v h g;rw[h.aL]at g
  cases b with
  |s y=>let z:=g.aL;injection z with z;rw[z]
  |i y=>let z:=g.jS;cases z
  |n=>unfold Rp at g;cases g
  |t ys=>let(_,_,z,_):=g.aS;cases z
 |hi x =>
  intro b v h g;rw[h.jS]at g
  cases b with
  |s y=>let z:=g.aL;cases z
  |i y=>let z:=g.jS;injection z with z;rw[z]
  |n=>unfold Rp at g;cases g
  |t ys=>let(_,_,z,_):=g.aS;cases z
 |hn =>
  intro b v h g;unfold Rp at h;rw[h]at g
  cases b with
  |s y=>let z:=g.aL;cases z
  |i y=>let z:=g.jS;cases z
  |n=>rfl
  |t ys=>let(_,_,z,_):=g.aS;cases z
 |ht xs ih =>
  intro b v h g;let(p,o,rfl,hs,hr):=h.aS
  cases b with
  |t ys =>
   let(L,G,e,j,d):=g.aS
   cases e
   let e:=I.qS hs j;subst e
   congr 1
   clear hs j h g
   induction xs generalizing ys o with
   |nil =>
    let z:=hr.ik;subst z
    cases ys with
    |nil=>rfl
    |cons y q=>let(_,_,z,_):=d.inv;cases z
   |cons x r ih2 =>
    let(v,q,rfl,D,C):=hr.inv
    cases ys with
    |nil=>cases d.ik
    |cons y q' =>
     let(J,u,e,m,l):=d.inv
     cases e
     rw[ih x (.head _) y D m,ih2 (λz B=>ih z (.tail _ B)) _ C _ l]
  |_=>unfold Rp at g;cases g
def gQ (p:WB h a d):h.IsTuple a d:=p
def vQ (r:Vals us d)(e:us[j]?=Yb v){h:j<d.toArray.size}:RelV v d.toArray[j]:=by
 let(u,l,g):=r.get e
 let z:d.toArray[j]=u:=by
  let q:d[j]?=Yb d.toArray[j]:=by
   rw[my (by simpa using h)];simp
  rw[l]at q;exact(OL q).symm
 rw[z];calc g
meta def AI(s:fy)(K:bN)(H:Hp)(x:T):Prop:=∀(b:T) {u v:V}{e d:eF}(A:OW),A.units+x.dep<SV->Rp K H x u->Rp K H b v->RelV u e->RelV v d->EqAt A s e d (x.eqB b)
def vR {X:Cx}(t:∀x∈xs,AI s X.K H x)(z:A.units+T.nI xs<SV)(hr:bR X.K H xs us)(e:bR X.K H ys l)(r:Vals us d)(o:Vals l its')(j:Nat)(h1:j<d.toArray.size)(h2:j<its'.toArray.size):EqAt A s d.toArray[j] its'.toArray[j] (T.eqB (xs.getD j .n) (ys.getD j .n)):=by
 let l1:us.length=d.length:=r.length;let l2:l.length=its'.length:=o.length;let l3:=hr.length;let I:=e.length;let C:j<d.length:=by simpa using h1
 let B:j<its'.length:=by simpa using h2
 let g:j<xs.length:=()
 let p:j<ys.length:=()
 let(v,y,q):=hr.get (my g);let(w,u,m):=e.get (my p);let G:xs.getD j .n=xs[j]:=by simp[g]
 let D:ys.getD j .n=ys[j]:=by simp[p]
 rw[G,D];calc t _ (Pu g) _ A (Ub (VF (T.C9 (Pu g)) _) z) q m (vQ r y) (vQ o u)
def BL (I:Inv X pins σ H s)(y:∀x∈xs,AI s X.K H x)(B:A.units+1+T.nI xs<SV)(hs:bY X.K H p us)(hr:bR X.K H xs us)(t:bY X.K H q m)(l:bR X.K H ys m):
  RcAt A s (.ref p) (.ref q) (T.ql xs ys):=by
 let(g,r,v,_):=I.tuple hs;let(d,u,o,_):=I.tuple t;let z:=RcAt.tuples (A:=A) (gQ v) (gQ o) () (e:=λj=>T.eqB (xs.getD j .n) (ys.getD j .n)) (vR (A:=A.in1) y (by show A.units+1+_<_;calc B) hr l r u);let l1:us.length=g.length:=r.length;let l2:m.length=d.length:=u.length;let l3:=hr.length;let G:=l.length;rw[T.pL];let D:g.toArray.size=xs.length:=by simp;omega
 let C:d.toArray.size=ys.length:=by simp;omega
 rw[D,C]at z;calc z
def Dj (I:Inv X pins σ H s)(N:∀x∈xs,AI s X.K H x)(O:A.units+1+T.nI xs<SV)(hs:bA X.K H p us)(hr:bR X.K H xs us)(D:bA X.K H q B)(t:bR X.K H ys B):
  RcAt A s (.ref p) (.ref q) (T.ql xs ys)/\RcNeAt A s (.ref p) (.ref q) (!T.ql xs ys):=by
 let(m,r,M,_):=I.list hs;let(g,J,C,_):=I.list D;let z:s.heap.IsList p m.toArray:=by obtain⟨o,n,e,c,-,d⟩:=M;exact#[o,e,c,n,d]
 let y:s.heap.IsList q g.toArray:=by obtain⟨o,n,e,c,-,d⟩:=C;exact#[o,e,c,n,d]
 let l1:us.length=m.length:=r.length;let l2:B.length=g.length:=J.length;let l3:=hr.length;let Q:=t.length;let G:m.toArray.size=xs.length:=by simp;omega
 let L:g.toArray.size=ys.length:=by simp;omega
 let l:=vR (A:=A.in1) N (by show A.units+1+_<_;calc O) hr t r J;rw[T.pL]
 by_cases e:xs.length=ys.length
 .have v:=RcAt.lists (A:=A) z y () () (e:=λj=>T.eqB (xs.getD j .n) (ys.getD j .n)) l;let u:=RcNeAt.lists (A:=A) z y () () (e:=λj=>T.eqB (xs.getD j .n) (ys.getD j .n)) l;rw[G]at v u;rw[show min xs.length ys.length=xs.length by omega,show(xs.length == ys.length)=Yd by simpa using e,Bool.and_true];exact#[v,u]
 .have v:=RcAt.lists_lengths (A:=A) z y (by rw[G,L];simpa using e) ();let u:=RcNeAt.lists_lengths (A:=A) z y (by rw[G,L];simpa using e) ();rw[show(xs.length == ys.length)=Ye by simpa using e,Vq];calc#[v,u]
def MQ (I:Inv X pins σ H s)(a:T):AI s X.K H a:=by
 induction a using T.induct with
 |hs x =>
  intro b u v D C A r h g j d;rw[h.aL]at j;let(t,rfl):=j
  cases b with
  |s y=>rw[g.aL]at d;let(m,rfl):=d;unfold T.eqB;calc EqAt.str_str _ _ _ _
  |i y=>rw[g.jS]at d;let(m,rfl):=d;unfold T.eqB;calc EqAt.str_int _ _ _ _
  |n=>unfold Rp at g;rw[g]at d;cases d;unfold T.eqB;calc EqAt.str_none _ _
  |t ys =>
   let(q,B,rfl,hs,hr):=g.aS
   cases d
   let(o,_,l,_):=I.tuple hs;unfold T.eqB;calc EqAt.str_tuple _ _ (gQ l) ()
 |hi x =>
  intro b u v D C A r h g j d;rw[h.jS]at j;let(t,rfl):=j
  cases b with
  |s y=>rw[g.aL]at d;let(m,rfl):=d;unfold T.eqB;calc EqAt.int_str _ _ _ _
  |i y=>rw[g.jS]at d;let(m,rfl):=d;unfold T.eqB;calc EqAt.int_int _ _ _ _
  |n=>unfold Rp at g;rw[g]at d;cases d;unfold T.eqB;calc EqAt.int_none _ _
  |t ys =>
   let(q,B,rfl,hs,hr):=g.aS
   cases d
   let(o,_,l,_):=I.tuple hs;unfold T.eqB;calc EqAt.int_tuple _ _ (gQ l) ()
 |hn =>
  intro b u v D C A r h g j d;unfold Rp at h;rw[h]at j
  cases j
  cases b with
  |s y=>rw[g.aL]at d;let(m,rfl):=d;unfold T.eqB;calc EqAt.none_str _ _
  |i y=>rw[g.jS]at d;let(m,rfl):=d;unfold T.eqB;calc EqAt.none_int _ _
  |n=>unfold Rp at g;rw[g]at d;cases d;unfold T.eqB;calc EqAt.same _
  |t ys =>
   let(q,B,rfl,hs,hr):=g.aS
   cases d
   let(o,_,l,_):=I.tuple hs;unfold T.eqB;calc EqAt.none_tuple (gQ l) ()
 |ht xs ih =>
  intro b u v D C A r h g j d;let(p,M,rfl,hs,hr):=h.aS
  cases j
  let(o,L,l,_):=I.tuple hs
  cases b with
  |s y=>rw[g.aL]at d;let(m,rfl):=d;unfold T.eqB;calc EqAt.tuple_str _ _ (gQ l) ()
  |i y=>rw[g.jS]at d;let(m,rfl):=d;unfold T.eqB;calc EqAt.tuple_int _ _ (gQ l) ()
  |n=>unfold Rp at g;rw[g]at d;cases d;unfold T.eqB;calc EqAt.tuple_none (gQ l) ()
  |t ys =>
   let(q,B,rfl,G,J):=g.aS
   cases d
   by_cases e:p=q
   .subst e;let z:=Rp.inj I _ _ h g;rw[z,T.Dc];exact EqAt.same _
   .unfold T.dep at r;unfold T.eqB;calc EqAt.of_refs e (BL I ih () hs hr G J)
meta def MR(K:bN):R2:=λx y H Q=>∃p q d e j g,x=.ref p/\y=.ref q/\bA K H p j/\bR K H d j/\bA K H q g/\bR K H e g/\T.nI d<=149/\Q (.bl (!decide (d=e))) H
def Jw (B:X.A.units+150<SV):mV X (P5 .NotEq) (MR X.K):=by
 intro pins s σ H x y v u Q I e d h;let(p,q,r,o,z,t,rfl,rfl,m,l,j,g,hd,k):=h;obtain rfl:v=Value.ref p:=e;obtain rfl:u=Value.ref q:=d;rw[<-T.Dd]at k;calc(Dj I (A:=X.A) (λx _=>MQ I x) () m l j g).2 X.prog X.w X.xe _ #[.bl _,H,I,rfl,k]
def dU.Dk (r:dU k A):A.units+150<SV:=by let:=r.un;omega
end L2
namespace L2
open PySem PySem.Spec PyProof.Rows
def Ng {A:Prop}(e:b=Yd)(h:A):if b=Yd then A else B:=by rw[if_pos e];calc h
def Dl {A:Prop}(e:b=Ye)(h:B):if b=Yd then A else B:=by rw[if_neg (by rw[e];calc OP)];calc h
def AJ {pos:Pos}{d:Yi Expr}{k:Nat}{t:Fg}{n:Nat}(K:bN)(j:X.K=K)(g:X.calm=Yd)(h:K0 X d t)(hn:(Se d X.env).length=n:=by rfl)(e:(Se d X.env).findIdx? (·.1)=Yc:=by rfl):PG X (.Tuple d k pos) (Fi K n t):=by
 subst j;calc IY g h hn e
def qq (K:bN)(d:X.K=K):C0 X (Fw K):=by subst d;calc aI
def Dm (K:bN)(d:X.K=K):C0 X (Jm K):=by subst d;calc aZ
def Dn (K:bN)(d:X.K=K):CJ X (Ll K):=by subst d;calc qg
def FQ (K:bN)(d:X.K=K):CJ X (Lh K):=by subst d;calc wN
def tZ (K:bN)(d:X.K=K):mV X (P5 .In) (MI K Ye):=by subst d;calc eB
def pe (K:bN)(d:X.K=K):iL X (.builtin "len") (λxs H Q=>∃p ys,xs=[.ref p]/\(bA K H p ys\/bY K H p ys)/\Q (.int ys.length) H):=by subst d;calc aM
meta def Iu(w:OR):Yi Rh->Yi (Yg×V)->Prop
 | [],kvs=>kvs=[]
 |e::r,kvs=>∃x v q,kvs=(x,v)::q/\(∃t,e.key=.str x t)/\e.hash=hashStr w x/\RelV v e.val/\Iu w r q
meta def KD(K:bN)(w:OR)(d:Yh)(kvs:Yi (Yg×V)):Prop :=
 ∃(e:Array Rh) (n:Nat),K.lookup d=Yb {cls:=.type "dict",dict:=Yc,data:=.dict e n,slots:=#[]}/\Iu w e.toList kvs/\(kvs.map (·.1)).Nodup/\(d == Qq)=Ye
theorem Iu.keys :∀{g:Yi Rh}{kvs:Yi (Yg×V)},Iu w g kvs->∃vs:Yi (Yg×eF),Pairs (QX P w) g vs/\(∀e∈g,∃k,(QX P w).is k e.key=Yd/\e.hash=(QX P w).hash k)/\vs.map (·.1)=kvs.map (·.1) /\
  ∀k,lV (kvs.lookup k) (RZ vs k)
 | [],kvs,h=>by
  obtain rfl:kvs=[]:=h;calc#[[],.nil,(λ_ h=>nomatch h),rfl,λ_=>trivial]
 |e::r,kvs,h=>by
  let(x,v,q,rfl,(t,m),o,l,hr):=h;let(vs,B,y,u,p):=Iu.keys (P:=P) hr;let j:(QX P w).is x e.key=Yd:=by rw[m];exact(by simp[QX,Uy]:(QX P w).is x (.str x t)=Yd)
  refine#[(x,e.val)::vs,.cons j rfl B,λD d=>?_,by rw[OQ,OQ,u],λk=>?_]
  .cases d with
   |head=>calc#[x,j,o]
   |tail _ d=>exact y D d
  .rw[Pe]
   by_cases c:k=x
   .subst c;rw[beq_self_eq_true];simp only[RZ,PD,decide_true,To];exact l
   .rw[beq_false_of_ne c];let z:=p k
    let C:RZ ((x,e.val)::vs) k=RZ vs k:=by
     simp only[RZ,PD];rw[decide_eq_false (λq=>c q.symm)]
    rw[C];calc z
def KD.dict {K:bN}(D:KD K w d kvs)(X:K.In h):∃vs,h.DictOf (QX P w) d vs/\(d == Qq)=Ye/\∀k,lV (kvs.lookup k) (RZ vs k):=by
 let(r,n,e,j,g,hd):=D;let(vs,q,p,o,m):=Iu.keys (P:=P) j;calc#[vs,#[_,r,n,X _ _ e,#[rfl,rfl,rfl],rfl,λt l=>p t (by simpa using l),q,by rw[o];calc g],hd,m]
def AK :(QX P w).is x (.str x t)=Yd:=by simp[QX,Uy]
meta def MS(K:bN)(w:OR):R2:=λx y H Q=>∃k d e,x=.str k/\y=.ref d/\KD K w d e/\Q (.bl (e.lookup k).isSome) H
def lV.FT (r:lV a b):b.isSome=a.isSome:=by
 cases a<;>cases b<;>first|rfl|calc r.elim
def FU :mV X (P5 .In) (MS X.K X.w):=by
 intro g s p H x y v u Q I l j h;let(k,d,m,rfl,rfl,D,q):=h;let(t,rfl):=l;obtain rfl:u=Value.ref d:=j;let(r,o,hd,e):=D.dict (P:=X.prog) I.tG;calc wpAny_in_of AK hd o.mapOf ?_;rw[(e k).FT];calc#[.bl _,H,I.tok _,rfl,q]
meta def Lu(K:bN)(w:OR)(j ty:TE):TE:=λg H Q=>j g H λx m=>ty g m λy l=>∃d e k v,x=.ref d/\y=.str k/\KD K w d e/\e.lookup k=Yb v/\Q v l
def AL (N:PE X o m)(hi:PE X i ty)(hs:Jt i):PE X (.Subscript o i pos) (Lu X.K X.w m ty):=by
 intro e s l H Q I h;calc AG Um.lookup hs (cX (N e s l H _ I h) λu z ⟨x,T,R,C,q1⟩=>cX (hi e z l T _ R q1) λW V ⟨y,S,q,B,d,L,k,v,ex,O,D,J,G⟩=>?_);subst ex O;obtain rfl:u=Value.ref d:=C;let(t,rfl):=B;let(r,p,hd,j):=D.dict (P:=X.prog) q.tG;let(U,M,g):=lV.some_of (v:=v) (o:=RZ r k) (by rw[<-J];calc j k);calc#[p.typeIs,wpAny_getItem_of AK p.mapOf M #[v,S,q.tok _,g,G]]
def zP :mV X (Q5 .Mult) (λx y H Q=>∃z n,x=.str z/\y=.int n/\-1000000<=n/\n<=1000000/\z.length*n.toNat<=lj/\Q (.str (Uu z n)) H):=by
 intro d s p H x y v u Q I m l h;let(z,n,rfl,rfl,D,C,g,q):=h;let(t,rfl):=m;let(j,rfl):=l;refine PySem.SB.mul #[by simp;omega,λa b=>?_,λa b=>?_] λj k=>#[.str _,H,I.tok _,#[_,rfl],q]
 .intro c;let r:1<=n:=()
  let o:z.length*n.toNat<=16777216:=by rw[<-RS];exact g
  let B:z.length<=z.length*n.toNat:=Nat.le_mul_of_pos_right _ ();let e:(9223372036854:Int)<=(2 ^ 63-1) / n:=Int.le_ediv_of_mul_le () ();omega
 .unfold Ry.Str.tooLong;simp;calc g
def gc {K:bN}(j:Nat->St->Yi V->Hp->Prop)(r:j 0 σ0 [] H0)(l:∀i d vs H,i<=xs.length->j i d vs H->vs.length<=i)(hn:xs.length<=lj)(o:∀i d vs H,i<=xs.length->j i d vs H->bY K H a xs)(hs:∀i x d vs H,xs[i]?=Yb x->j i d vs H->g x d H λe u=>tt e u λok q=>if ok=Yd then te e q λv t=>j (i+1) e (vs++[v]) t else j (i+1) e vs q)(hd:∀d vs H,j xs.length d vs H->∀p,H p=Yc->Q (.ref p) (upd H p (.Y vs))):lI (Ax K a) g tt te Q σ0 H0:=by
 calc sN xs.length j r l hn (λi d vs H m p=>#[xs,xs[i],o i d vs H (O7 m) p,by simp[m]]) (λd vs H p=>#[xs,o _ d vs H (i5 _) p,i5 _]) (λi d vs H x z m p y=>?_) hd;let(rfl,y):=y;calc hs i x d vs _ (y xs (o i d vs _ (O7 m) p)) p
mutual
noncomputable def T.py:T->PyData
 |.s x=>.str x
 |.i k=>.int k
 |.n=>.none
 |.t xs=>.tuple (T.FW xs)
noncomputable def T.FW:Yi T->Yi PyData
 | []=>[]
 |x::r=>x.py::T.FW r
end
theorem uc {X:Cx}{s:fy}:∀{xs:Yi T},(∀x∈xs,∀{v:V}{u:eF},Rp X.K H x v->RelV v u->∃as,Reads s.heap u x.py as)->∀{vs:Yi V}{us:List eF},bR X.K H xs vs->Vals vs us->∃as,ReadsAll s.heap us (T.FW xs) as
 | [],_,vs,us,h,r=>by
  obtain rfl:=h.ik
  cases r
  calc#[[],.nil]
 |x::q,ih,vs,us,h,r=>by
  let(v,w,rfl,l,j):=h.inv
  cases r with
  |cons r1 r2 =>
   let(as,g):=ih x (.head _) l r1;let(bs,e):=uc (λy d=>ih y (.tail _ d)) j r2;calc#[as++bs,.cons g e]
def FY (I:Inv X pins σ H s)(a:T):∀{v:V}{u:eF},Rp X.K H a v->RelV v u->∃as,Reads s.heap u a.py as:=by
 induction a using T.induct with
 |hs x=>intro v u h r;rw[h.aL]at r;let(t,rfl):=r;unfold T.py;calc#[[],.str x t]
 |hi x=>intro v u h r;rw[h.jS]at r;let(t,rfl):=r;unfold T.py;calc#[[],.int x t]
 |hn=>intro v u h r;unfold Rp at h;rw[h]at r;cases r;unfold T.py;calc#[[],.none]
 |ht xs ih =>
  intro v u h r;let(p,m,rfl,hs,hr):=h.aS
  cases r
  let(j,g,(o,e,c,n,d),_):=I.tuple hs;let(as,l):=uc (s:=s) ih hr g;unfold T.py;calc#[as,.tuple e c d (by simpa using l)]
structure Iv(d:PyData):Prop where
 sh:d.showable=Yd
 nd:d.hasDict=Ye
 dp:d.depth<=100
 sz:d.shown.length<=lj
def zQ (B:X.A.guards=Yb [])(J:X.A.units+150<SV):iL X (.builtin "repr") (λxs H Q=>∃p g vs,xs=[.ref p]/\bA X.K H p vs/\bR X.K H g vs/\Iv (.list (T.FW g))/\Q (.str (PyData.list (T.FW g)).shown) H):=by
 intro pins s σ H xs D Q I r h;let(p,g,vs,rfl,v,hr,S,q):=h;let(u,rfl,l):=vals1 r
 cases l
 let(t,j,m,_):=I.list v;let(o,e,c,n,d):=m.isList;let(M,C):=uc (s:=s) (λx _=>FY I x) hr j;calc repr_of_reads' (.list e c d (by simpa using C)) S.sh (λz=>by rw[S.nd]at z;cases z) B (by let:=S.dp;omega) (λ_ _ e=>e) (λL u G y=>?_) S.sz;calc#[.str _,H,I.kept y,#[_,rfl],q]
def atS {z:Yg}(j:0<=r)(h:r<(z.length:Int)):∃c,dZ z.cps.toList r=Yb c/\c∈z.cps.toList:=by
 let e:z.cps.toList.length=z.length:=by simp[U5]
 let d:r.toNat<z.cps.toList.length:=by rw[e];omega
 let g:r=((r.toNat:Nat):Int):=()
 let q:dZ z.cps.toList ((r.toNat:Nat):Int)=Yb z.cps.toList[r.toNat]:=aF (my d);rw[<-g]at q;calc#[_,q,Pu d]
def FZ (d:Yi Nat):Txt.join "" (d.map λc=>(⟨#[c]⟩:Yg))=⟨d.toArray⟩:=by
 show Ry.Str.glued (PM "") _=_;rw[StrLaws.glued_eq_join];calc PyProof.Rows.join_ones d
def Dp (l:Yi Nat):((l.map λc=>(⟨#[c]⟩:Yg)).map (·.length)).sum=l.length:=by
 induction l with
 |nil=>rfl
 |cons c r ih=>rw[OQ,OQ,List.sum_cons,ih,OT];show 1+_=_;omega
def Jx (d:Yi Nat):(⟨d.toArray⟩:Yg).length=d.length:=by simp[U5]
def Lv (b:Bool)(z:Yg):(Uu z (if b then 1 else 0)).length<=z.length:=by
 cases b with
 |true=>simp[Uu]
 |false=>simp[Uu,U5,OU]
end L2
namespace L2
open PySem
meta def dc(H:Hp)(f:Yh):Prop:=∃p q:Int,H f=Yb (.Y [.int p,.int q])
meta def Ext(f:Yh)(H d:Hp):Prop:=(∀b o,b≠f->H b=Yb o->d b=Yb o)/\dc d f
def Ext.refl (h:dc H f):Ext f H H:=#[λ_ _ _ e=>e,h]
def Ext.trans (a:Ext f H g)(b:Ext f g d):Ext f H d:=#[λc o n e=>b.1 c o n (a.1 c o n e),b.2]
def Ext.Z (a:Ext f H g)(s:aR g d):Ext f H d:=#[λc o n e=>s c o (a.1 c o n e),let⟨p,q,e⟩:=a.2;#[p,q,s f _ e]]
def ae (h:H p=Yc)(o:HO):aR H (upd H p o):=λb u q=>by rw[ay (au q h)];calc q
def dc.Z (h:dc H f)(s:aR H d):dc d f:=let⟨p,q,e⟩:=h;#[p,q,s f _ e]
def Ext.J (e:Ext f H g)(d:dc H f)(h:H a=Yb (.J xs)):g a=Yb (.J xs):=by
 calc e.1 a _ ?_ h;let(p,q,d):=d;calc jB h d (by intro z;cases z)
meta def cU:Sp:=λe H Q _=>∃(f:Yh) (m:Int),e=[.ref f,.int m]/\0<m/\m<1073741824/\dc H f/\∀(r:Int) (d:Hp),0<=r->r<m->Ext f H d->Q (.int r) d
meta def Dq(K:bN):Sp:=λg H Q _=>∃(a:Yh) (e:Yi Int) (k:Int),g=[.ref a,.int k]/\bA K H a (e.map V.int)/\e.length<=63/\0<=k/\k<=100 /\
 ∀(r:Yh) (d:Hp),aR H d->H r=Yc->dc d r->Q (.ref r) d
def small (h:n<=1000):n<=lj:=O7 (aV h)
def AM {ns:Yi Int}(g:0<=k)(h:k<(ns.length:Int)):∃v:Int,dZ (ns.map V.int) k=Yb (.int v):=by
 let d:k.toNat<ns.length:=()
 let e:k=((k.toNat:Nat):Int):=()
 let q:dZ (ns.map V.int) ((k.toNat:Nat):Int)=Yb (.int ns[k.toNat]):=aF (by rw[vv,my d]<;>rfl)
 rw[<-e]at q;calc#[_,q]
def pQ {xs:List d}(j:0<=k)(h:k<(xs.length:Int)):∃v:d,dZ xs k=Yb v/\v∈xs:=by
 let e:k.toNat<xs.length:=()
 let g:k=((k.toNat:Nat):Int):=()
 let q:dZ xs ((k.toNat:Nat):Int)=Yb xs[k.toNat]:=aF (my e);rw[<-g]at q;calc#[_,q,Pu e]
def Ext.kt (e:Ext f H g)(d:dc H f):Kt H g:=λa j r=>by
 let(p,q,d):=d;rcases r with h|⟨o,h⟩
 .exact .inl (e.1 a _ (jB h d (by intro z;cases z)) h)
 .exact .inr #[o,e.1 a _ (jB h d (by intro z;cases z)) h]
def Ext.new (e:Ext f H d)(h:d p=Yc)(o:HO):Ext f H (L2.upd d p o):=e.Z (ae h o)
structure eu(P:we) (w:OR) (K:bN) (mg:Yg->Option eF) (base:Heap) (x:Yg) (k:Nat) (ps:Yi Yg) (sp:Sp) (f:Yh) (fd:EF):Prop where
 ok:cD P w K mg base gz k f fd ps sp
 at':mg x=Yb (.ref f)
 kp:QK K (.ref f)=Yd
 bd:Binds K fd ps []
def sO (h:∀vs H Q E,¬sp vs H Q E):cD P w K mg base gz k f d ps sp :=
 #[λvs H Q E z=>(h vs H Q E z).elim,λ_ _ _ _ _ _ _ _ _ _ _ _ _ z=>(h _ _ _ _ z).elim]
open PySem.Spec PyProof.Rows
meta def ud(p:Yi Yg×Tm):T:=.t [.t (p.1.map .s),enc p.2]
meta def right(d:Tm):Yi (Yi Yg×Tm):=(bnd d.hd d.ks.length).zip d.ks
def bY.Z {K:bN}(e:aR H d)(h:bY K H a xs):bY K d a xs:=h.kt (Kt.Z e)
def Rp.Z {K:bN}(e:aR H d)(h:Rp K H x v):Rp K d x v:=h.kt (Kt.Z e)
def bR.Z {K:bN}(e:aR H d)(h:bR K H x v):bR K d x v:=h.kt (Kt.Z e)
def Rp.new {K:bN}(d:H p=Yc)(h:bR K H xs vs):Rp K (upd H p (.J vs)) (.t xs) (.ref p):=.t (.of af) (h.Z (ae d _))
def yC {K:bN}{ps:Yi Nat}{ks:Yi T}(S:bY K H0 a vs)(hr:bR K H0 D vs)(U:bY K H0 M (ps.map λ(j:Nat)=>V.int (j:Int)))(v:ps.length<=1000)(N:ps.map (λ(j:Nat)=>D[j]?)=ks.map Yb)(k:∀(p:Yh) (C:Hp) (L:Yi V),aR H0 C->C p=Yb (.Y L)->bR K C (ks.map λk=>.t [.t [],k]) L->Q (.ref p) C):
  lI (Ax K M) (iJ 0) vN (u9 (kh (u9 tO) (kh (BB (Fw K) (jt 1) (jt 0)) tO))) Q [Yc,Yb (.ref a)] H0:=by
 refine gc (xs:=ps.map λ(j:Nat)=>V.int (j:Int)) (λi u g m=>(∃x,u=[x,Yb (.ref a)])/\aR H0 m/\bR K m ((ks.take i).map λk=>.t [.t [],k]) g) #[#[Yc,rfl],aR.refl _,.nil] ?_ (small (by rw[bM];calc v)) ?_ ?_ ?_
 .rintro i u g m hi ⟨_,_,r⟩;rw[r.length,bM,x9];omega
 .rintro i u g m hi ⟨_,e,_⟩;exact U.Z e
 .rintro i x u g m hx ⟨⟨W,rfl⟩,e,r⟩;rw[vv]at hx;let(j,R,rfl):=ri.mp hx
  let d:D[j]?=ks[i]?/\i<ks.length:=by
   let z:=congrArg (λl=>l[i]?) N;simp only[vv,R,To]at z
   cases B:ks[i]? with
   |none=>rw[B]at z;cases z
   |some q=>rw[B]at z;exact#[OL z,(bH.mp B).1]
  let(d,y):=d;rw[my y]at d;let(w,O,G):=hr.get d;calc#[ON _,λq I=>?_];let J:=e.trans (ae I (.J []));calc#[_,rfl,_,rfl,a,_,_,w,rfl,rfl,S.Z J,aF O,(by show 2<=lj;decide),λt H=>?_];let B:=J.trans (ae H (.J [.ref q,w]));calc#[#[_,rfl],B,?_];rw[i3 y,i4];calc(r.Z (λb o h=>ae H _ b o (ae I _ b o h))).snoc (Rp.new H (.cons ?_ (.one (G.Z J))));exact Rp.new I .nil
 .rintro u g m ⟨_,e,r⟩ p hp
  let l:(ps.map λ(j:Nat)=>V.int (j:Int)).length=ks.length:=by
   let z:=congrArg Sq N
   simpa using z
  rw[l,OO]at r;calc k p _ g (e.trans (ae hp _)) af (r.Z (ae hp _))
def BN {K:bN}(J:bY K H0 C vs)(hr:bR K H0 ks vs)(G:ks.length<=1000)(k:∀(p:Yh) (m:Hp) (B:Yi V),aR H0 m->m p=Yb (.Y B)->bR K m (ks.map λk=>.t [.t [],k]) B->Q (.ref p) m):
  lI (Ax K C) (iJ 0) vN (u9 (kh (u9 tO) (kh (jt 0) tO))) Q [Yc] H0:=by
 let l:=hr.length;refine gc (xs:=vs) (λi j d g=>(∃x,j=[x])/\aR H0 g/\bR K g ((ks.take i).map λk=>.t [.t [],k]) d) #[#[Yc,rfl],aR.refl _,.nil] ?_ (small ()) ?_ ?_ ?_
 .rintro i j d g hi ⟨_,_,r⟩;rw[r.length,bM,x9];omega
 .rintro i j d g hi ⟨_,e,_⟩;exact J.Z e
 .rintro i x j d g hx ⟨⟨N,rfl⟩,e,r⟩;let(y,D,I):=hr.get' hx;let z:i<ks.length:=(bH.mp D).1;let L:ks[i]=y:=(bH.mp D).2;calc#[ON _,λq v=>?_];let H:=e.trans (ae v (.J []));calc#[_,rfl,(by show 2<=lj;decide),λt u=>?_];let M:=H.trans (ae u (.J [.ref q,x]));calc#[#[_,rfl],M,?_];rw[i3 z,i4,L];calc(r.Z (λb o h=>ae u _ b o (ae v _ b o h))).snoc (Rp.new u (.cons ?_ (.one (I.Z H))));exact Rp.new v .nil
 .rintro j d g ⟨_,e,r⟩ p hp;rw[l,OO]at r;calc k p _ d (e.trans (ae hp _)) af (r.Z (ae hp _))
def BO {K:bN}(O:arms.length=ks.length)(R:bY K H0 C vs)(hr:bR K H0 (O9 jE arms ks) vs)(G:ks.length<=1000)(k:∀(p:Yh) (o:Hp) (B:Yi V),aR H0 o->o p=Yb (.Y B)->bR K o (O9 (λa k=>.t [.t (a.2.map .s),k]) arms ks) B->Q (.ref p) o):
  lI (Ax K C) (Fi K 3 (tK (iJ 0) (tK (iJ 1) (tK (iJ 2) IX)))) vN (u9 (kh (jt 1) (kh (jt 2) tO))) Q [Yc,Yc,Yc] H0:=by
 let l:=hr.length;rw[PV,O,RB]at l;refine gc (xs:=vs) (λi m g j=>(∃x y z,m=[x,y,z])/\aR H0 j/\bR K j ((O9 (λ(a:Yg×Yi Yg) k=>T.t [.t (a.2.map .s),k]) arms ks).take i) g) #[#[Yc,Yc,Yc,rfl],aR.refl _,.nil] ?_ (small ()) ?_ ?_ ?_
 .rintro i m g j H ⟨_,_,r⟩;rw[r.length,x9];omega
 .rintro i m g j H ⟨_,e,_⟩;exact R.Z e
 .rintro i x m g j hx ⟨⟨Z,Y,X,rfl⟩,e,r⟩;let(y,D,J):=hr.get' hx;let H:i<vs.length:=(bH.mp hx).1;let v:i<arms.length:=()
  let u:i<ks.length:=()
  let N:i<(O9 (λ(a:Yg×Yi Yg) k=>T.t [.t (a.2.map .s),k]) arms ks).length:=by rw[PV];omega
  rw[RM,my v,my u]at D
  cases D
  let(M,L,rfl,I,d):=(show Rp K H0 (.t [_,_,_]) x from J).aS;let(t1,q1,rfl,h1,d):=d.inv;let(t2,q2,rfl,U,d):=d.inv;let(t3,q3,rfl,S,d):=d.inv;obtain rfl:=d.ik;calc#[M,_,rfl,I.Z e,rfl,_,_,rfl,_,_,rfl,_,_,rfl,rfl,?_];calc#[_,rfl,_,rfl,(by show 2<=lj;decide),λt q=>?_];let W:=e.trans (ae q (.J [t2,t3]));calc#[#[_,_,_,rfl],W,?_];rw[i3 N];calc(r.Z (ae q _)).snoc ?_;rw[List.getElem_zipWith];exact Rp.new q (.cons (U.Z e) (.one (S.Z e)))
 .rintro m g j ⟨_,e,r⟩ p hp;rw[Py (by rw[PV];omega)]at r;calc k p _ g (e.trans (ae hp _)) af (r.Z (ae hp _))
theorem mW {d e:Type}(f:d->Option e)(g:d->e):∀(l:List d),(∀a∈l,f a=Yb (g a))->l.filterMap f=l.map g
 | [],_=>rfl
 |a::r,h=>by rw[Qw,h a (.head _),OQ,mW f g r λb j=>h b (.tail _ j)]
def BP {g:Type}(xs:List g):((QJ xs.length).map λk=>xs.length-1-k).filterMap (xs[·]?)=xs.reverse:=by
 cases xs with
 |nil=>rfl
 |cons x r =>
  rw[VZ,mW _ (λk=>(x::r).reverse.getD k x)]
  .apply List.ext_getElem
   .simp
   .intro i l e;simp only[S5,List.getElem_range];simp at l;simp only[PX];rw[my e];rfl
  .intro k j;let d:=Q4.mp j;show(x::r)[(x::r).length-1-k]?=_;let e:k<(x::r).reverse.length:=by simpa using d
   simp only[PX];rw[my e,Vt,my ()];rfl
def BQ (n:Nat):Uc (PU Yc Yc (Yb (-1)) n).1 (PU Yc Yc (Yb (-1)) n).2.1 (PU Yc Yc (Yb (-1)) n).2.2=(QJ n).map λk=>n-1-k:=by
 show Uc ((n:Int) - 1) (-1) (-1)=_;unfold Uc
 let c:(if(-1:Int)>0 then(if(n:Int) - 1 < -1 then(-1 - ((n:Int) - 1)+-1-1) / -1 else 0)else(if(n:Int) - 1 > -1 then((n:Int) - 1 - -1 - -1-1) / (- -1)else 0))=(n:Int):=by
  rw[if_neg (by decide)]
  split
  .rw[show(- -1:Int)=1 from rfl,V9];omega
  .omega
 simp only[c,Qa];calc List.map_congr_left λk d=>?_;let:=Q4.mp d;omega
def yD (xs:Yi V):vP xs Yc Yc (Yb (-1))=xs.reverse:=by
 rw[FN (BQ xs.length)];calc BP xs
meta def Lw(d:P9)(y:Yg):Bool:=(d.names.lookup y == Yb .local||d.names.lookup y == Yb .cell||d.names.lookup y == Yb .free)&&!(y == ("__debug__":Yg))&&!(y == ("__classdict__":Yg))
abbrev Nm(N:Yi Yg)(d:P9):Prop:=N.all (Lw d)=Yd
meta def Lx(d:P9)(y:Yg):Bool:=d.names.lookup y == Yb .local||d.names.lookup y == Yb .cell
abbrev Lm(N:Yi Yg)(d:P9):Prop:=N.all (Lx d)=Yd
def Nm.get (h:Nm N d){i:Nat}(e:N[i]?=Yb x):KY d x/\(x == ("__debug__":Yg))=Ye/\(x == ("__classdict__":Yg))=Ye:=by
 let z:=Pj.mp h x (xn e);unfold Lw at z;simp only[Pd,QN,Bool.not_eq_true']at z;let((z1,j),g):=z;calc#[?_,j,g];rcases z1 with(z1|z1)|z1
 .exact Or.inl (QF z1)
 .exact Or.inr (Or.inl (QF z1))
 .exact Or.inr (Or.inr (QF z1))
def Lm.get (h:Lm N d){i:Nat}(e:N[i]?=Yb x):Loc d x:=by
 let z:=Pj.mp h x (xn e);unfold Lx at z;simp only[QN]at z;rcases z with z|z
 .exact Or.inl (QF z)
 .exact Or.inr (QF z)
def va (h:Nm X.N X.env.scope)(i:Nat)(d:X.N[i]?=Yb x:=by rfl):PE X (.Name x pos) (jt i):=CO d (h.get d).1 (h.get d).2.1 (h.get d).2.2
def sa {x:Yg}{e:Expr}{g:TE}{pos d:Pos}(l:X.N.Nodup)(h:Lm X.N X.env.scope)(i:Nat)(j:PE X e g)(hi:X.N[i]?=Yb x:=by rfl)(hs:S3 e (Yb (.Name x d)) pos.line X.env=pure Ye:=by kernel_rfl)(hf:X.fn x=Yd\/X.env.scope.names.lookup x=Yb .local:=by calc .inl rfl):PS X (.Assign [.Name x d] e pos) (wM g (iJ i)):=lX l hi (h.get hi) j hs hf
def ga (e:X.N.Nodup)(h:Lm X.N X.env.scope)(i:Nat)(hi:X.N[i]?=Yb x:=by rfl)(d:X.fn x=Yd\/X.env.scope.names.lookup x=Yb .local:=by first|calc .inl rfl|calc .inr (by kernel_rfl)):PG X (.Name x pos) (iJ i):=lW e hi (h.get hi) d
def F0 {T:TT}{V:TE}(own:Yi Yg)(fr:Yi Nat)(hc:X.calm=Yd)(hkind:scope.kind=.function)(hcell:∀x∈scope.names,x.2≠.cell)(hnames:∀x∈scope.names,x.2=.local->scope.names.lookup x.1=Yb .local)(hfr:∀x∈scope.names,x.2=.free->X.env.scope.names.lookup x.1=Yb .cell\/X.env.scope.names.lookup x.1=Yb .free)(hin:∀j∈fr,scope.names.lookup (X.N.getD j OU)=Yb .free)(hi:PI X tg iter S)(hg:∀u C s H,PG (br X scope (own++fr.map λj=>X.N.getD j OU) u C s H) tg g)(ht:∀u C s H,tV (br X scope (own++fr.map λj=>X.N.getD j OU) u C s H) r T)(he:∀u C s H,PE (br X scope (own++fr.map λj=>X.N.getD j OU) u C s H) t V)(hgg:PG X (.Name y d) Z)(hsw:S3 (.ListComp t [#[tg,iter,r,0]] scope pos) (Yb (.Name y d)) m.line X.env=pure Yd)(hs:∀x,Pg iter X.env x=pure x:=by intro _;rfl):PS X (.Assign [.Name y d] (.ListComp t [#[tg,iter,r,0]] scope pos) m) (wM (vO own.length fr S g T V) Z):=by
 intro l s J H D0 I h;rw[exec_Assign_Name_used _ _ _ _ hsw,arm_evalThenUse_ListComp];calc cB (Qf (cB (cB ?_)));calc cX (yy (U:=Yb (TQ (.Name y d) X.env)) (R:=λ_ s'=>SP X l D0 .next s') own fr hc hkind hcell hnames hfr hin hi hg ht he hs I h λ{u C s2 s4 H2 H3 σ3 vs ys pn pl} I2 f2 J4 hCle hDC dn3 e4 rv hz q=>?_) λ_ _ q=>pC (pC q);let(m4,M,_):=id J4.loc;let(G,es,ep,eC,dC,kC,fC):=M;let I4:Inv X l J (upd H3 s2⁻¹ (.Y vs)) s4:=tX (h'':=s4.heap) I2 f2 J4 hCle (i5 _) hDC dn3 #[_,e4] rv hz #[rfl,λ_ _=>rfl];let cL:C≠X.env.locals:=λz=>absurd I2.lt (by rw[<-z];calc WH.mpr hCle)
 let I5:Inv X (l++[(C,G)]) J (upd H3 s2⁻¹ (.Y vs)) s4:=I4.fB λp D=>by
  rcases IF.mp D with z|z
  .exact I4.pin p (rj _ z)
  .have z:p=(C,G):=by simpa using z
   subst z;exact#[eC,by rw[ay hDC.symm];exact J4.free,cL,I2.Fd hCle,λv Q=>by rw[dC]at Q;cases Q]
 show OH _ _ (TQ (.Name y d) X.env (.ref s2⁻¹)) _ _ _;calc cX (hgg _ s4 J _ (.ref s2⁻¹) _ _ I5 rfl q) λ_ W ⟨B,H5,O,q6⟩=>?_;let Y:=O.pin (C,G) (rj _ (rj _ (by simp)));calc#[m4,#[G,es,ep,Y.1,dC,kC,fC],λh' L=>?_];let I7:Inv X l B H5 W:=O.fB λp D=>O.pin p (rj _ (O4 _ D));refine#[B,H5,I7.turned (t':=W.toks) (it:=C) (λb o hb e=>(L.2 b hb).trans e) Y.2.1 cL (.inr (OX I2.sz hCle)) (λx c e z=>?_) (λp D z=>?_),q6]
 .have(_,o,ho,_):=I2.cell x c e;exact absurd (OG ho) (by rw[z];calc WH.mpr hCle)
 .exact absurd (OG (I2.pin p D).1) (by rw[z];calc WH.mpr hCle)
def nL {y:Yg}{d l:Pos}{I:TG}{o iter tg:Expr}{m:Yi Expr}{scope:P9}{pos:Pos}{v:TI}{g:TG}{B:TT}{D:TE}(G:P9)(r own:Yi Yg)(fr:Yi Nat)(O:X.calm=Yd)(u:X.env.scope=G)(Q:X.N=r)(ok:nK scope G r fr=Yd)(hi:PI X tg iter v)(hg:∀q C s H,PG (br X scope (own++fr.map λj=>r.getD j OU) q C s H) tg g)(ht:∀q C s H,tV (br X scope (own++fr.map λj=>r.getD j OU) q C s H) m B)(he:∀q C s H,PE (br X scope (own++fr.map λj=>r.getD j OU) q C s H) o D)(hgg:PG X (.Name y d) I)(hsw:S3 (.ListComp o [#[tg,iter,m,0]] scope pos) (Yb (.Name y d)) l.line X.env=pure Yd:=by kernel_rfl)(hs:∀x,Pg iter X.env x=pure x:=by intro _;rfl):PS X (.Assign [.Name y d] (.ListComp o [#[tg,iter,m,0]] scope pos) l) (wM (vO own.length fr v g B D) I):=by
 subst u Q;unfold nK at ok;simp only[Pd,Pj,bne_iff_ne,beq_iff_eq,QN]at ok;let((L,t),J):=ok;refine F0 own fr O L (λx p=>(t x p).1.1) (λx p e=>?_) (λx p e=>?_) (λj M=>J j M) hi hg ht he hgg hsw hs
 .rcases(t x p).1.2 with z|z
  .exact absurd e z
  .exact z
 .rcases(t x p).2 with(z|z)|z
  .exact absurd e z
  .exact .inl z
  .exact .inr z
def nj (I:Nat->fy->Prop)(turn:∀n s,I n s->OH (OM prog w) A (S4 it) (λr o=>match r with
   |none=>R (.ok .next) o
   |some v=>OH (OM prog w) A (Qy d it v) (λ_ l=>OH (OM prog w) A (TQ d g v) (λ_ u =>
     OH (OM prog w) A (forIn C Yd λc r=>if r=Yd then do let ok ←isTrue c g (eval c g);pure (ForInStep.yield ok)else pure (ForInStep.yield r)) (λok j =>
      if ok=Yd then OH (OM prog w) A (eval O g) (λx t=>OH (OM prog w) A (eval N g) (λy q =>
       OH (OM prog w) A (dictSet D x y) (λ_ p=>∃m,m<n/\I m p) E q) E t) E j
      else ∃m,m<n/\I m j) E u) E l) E o) E s)(hE:∀e s',E e s'->notedBy (OM prog w) A g (λe s'=>R (.error e) s') e s')(n:Nat)(h:I n s):
  Qs (OM prog w) A (.compLoop (.DictComp O N [#[d,iter,C,0]] scope pos) 0 it (.ref D) g) R s:=by
 calc U9 rfl I (λn s Q=>?_) n h;show OH _ A ((Vr (.DictComp O N [#[d,iter,C,0]] scope pos) 0 it (.ref D) g).onRaise (λx=>do VD x g;theTreesLotGoes x)) _ _ s;calc Vs ?_;rw[compTurn_dict];refine cB (Qf (cB (O1 (turn n s Q) (λr o B=>?_) hE)))
 cases r with
 |none=>calc pC B
 |some v =>
  calc cB (O1 B (λ_ l G=>?_) hE);refine cB (O1 G (λ_ u M=>cB (O1 M (λok j z=>?_) hE)) hE)
  cases ok with
  |false=>calc pC #[rfl,z]
  |true =>
   calc cB (cB (O1 z (λx t L=>cB (PY (O1 L (λy q J=>cB (Qf (PY (O1 J (λ_ p H=>pC #[rfl,H]) hE)))) hE))) hE))
def yE (I:Inv X pins σ H s)(y:∀b∈t,qb X pins H b)(I':Inv (br X scope R t C s H) j σ' p s')(hC:s⁻¹<=C)(hD:s⁻¹<=D)(hDC:D≠C)(hDn:p D=Yc)(pl:s'.heap.DictOf (bg X.prog X.w) D G)(rv:KV kvs G)(hz:kvs.length<=lj)(hs:Rk C s'.heap h''):
  Inv X pins σ (upd p D (.dK kvs)) {s' with heap:=h''}:=by
 let un:Un (frs X.stack) t H p s.heap s'.heap:=I'.base;let r:p C=Yc:=I'.free;let at':∀b,b≠C->h''.get? b=s'.heap.get? b:=λb g=>hs.2 b g;let l:∀b o,s.heap.get? b=Yb o->b≠C:=λb o e=>OZ (OJ (OG e) hC);let J:∀b o,s.heap.get? b=Yb o->b≠D:=λb o e=>OZ (OJ (OG e) hD);let d:∀b u,H b=Yb u->b≠D:=λb u e=>OZ (OJ (I.hok.lt e) hD)
 let B:Un (frs X.stack) t H (upd p D (.dK kvs)) s.heap h'':=by
  refine#[λb o e n M m=>?_,λb o e n M m=>?_,λb o e n m=>?_,λb o e m=>?_,λb N e=>?_,λb o u e=>?_,λb O e=>?_]
  .rw[at' b (l b o e)];exact un.keep b o e n M m
  .rw[at' b (l b o e)];exact un.slot b o e n M m
  .rw[ay (J b o e)];exact un.free b o e n m
  .rw[at' b (l b o e)];exact un.there b o e m
  .rw[ay (d b _ e)];exact un.tups b N e
  .rw[ay (d b _ e)];exact un.frzs b o u e
  .rw[ay (d b _ e)];exact un.tbls b O e
 let L:ny X.prog X.w (upd p D (.dK kvs)) h'':=λb u e=>by
  by_cases g:b=D
  .subst g;rw[af]at e
   cases e
   exact#[hz,beq_eq_false_iff_ne.mpr (Rj (OZ (OJ I.big hD))),G,rv,pl.at λo e=>by rw[at' b hDC];calc e]
  .rw[ay g]at e;refine(I'.hok b u e).stay (λc v Q q=>?_) (λc q=>?_) λc N q=>?_
   .rw[at' c ?_];calc q;rintro rfl;rcases Q with z|z
    .rw[<-z,r]at e;cases e
    .rw[r]at z;cases z
   .rw[ay (λz=>by rw[z,hDn]at q;cases q)];exact q
   .rw[ay (λz=>by rw[z,hDn]at q;cases q)];exact q
 calc I.Ih (s':={s' with heap:=h''}) (ch:=t) I'.os B L I'.bare λb g=>#[(y b g).2.2.2.1,(y b g).2.1,(y b g).2.2.2.2.1,(y b g).2.2.2.2.2]
meta def wX(J:It)(g:TG)(B:TT)(C z:TE)(Q:VK)(r:St)(L:Hp):Prop:=∃W:Nat->Nat->St->Yi (Key×V)->Hp->Prop,(∃m,W 0 m r [] L)/\∀i m j e H,W i m j e H ->
 (J.stop i H/\e.length<=lj/\∀p,H p=Yc->Q (.ref p) (upd H p (.dK e))) \/
 (J.go i H/\e.length<lj/\∃N:St->Yi (Key×V)->Hp->Prop,(∀d l q,N d l q->∃t,t < m/\W (i+1) t d l q)/\∀x y,J.yld i H x y->g x j y λd q=>B d q λok u =>
  if ok=Yd then C d u λD I=>z d I λv G=>∃o,D=kV o/\N d (putK e o v) G else N d e u)
meta def Dr(own:Nat)(fr:Yi Nat)(e:TI)(g:TG)(l:TT)(m j:TE):TE:=λd H Q=>e d H λJ o=>wX J g l m j Q (iX own fr d) o
def Ga {W:Nat->Nat->St->Yi (Key×V)->Hp->Prop}{Q:Yi (Key×V)->Hp->Prop}(hc:Y.calm=Yd)(hx:∀e s,¬Y.xe e s)(hg:PG Y tg g)(ht:tV Y aj tt)(hk:PE Y kx tk)(he:PE Y vx tv)(T:Turn Y.prog Y.w Y.K tg J fp it tn)(d:Jv Y D fp)(I:Inv Y [] σ H s)(st:tn 0 s.heap)(fn:∀b∈fp,H b=Yc)(dn:H D=Yc)(dd:s.heap.DictOf (bg Y.prog Y.w) D [])(w0:W 0 m σ [] H)(turn:∀i m σ' kvs H,W i m σ' kvs H->(J.stop i H/\kvs.length<=lj/\Q kvs H) \/
   (J.go i H/\kvs.length<lj/\∃N:St->Yi (Key×V)->Hp->Prop,(∀j ah H2,N j ah H2->∃m',m' < m/\W (i+1) m' j ah H2)/\∀x H',J.yld i H x H'->g x σ' H' λj H2=>tt j H2 λok H3 =>
    if ok=Yd then tk j H3 λkv H4=>tv j H4 λv H5=>∃B,kv=kV B/\N j (putK kvs B v) H5 else N j kvs H3))(fin:∀{σ:St}{H:Hp}{s:fy}{pl:Yi (Yh×Obj)}{kvs:Yi (Key×V)}{M:Yi (Key×eF)},Inv Y pl σ H s->H D=Yc->s.heap.DictOf (bg Y.prog Y.w) D M->KV kvs M->kvs.length<=lj->Q kvs H->R (.ok .next) s):
  Qs (OM Y.prog Y.w) Y.A (.compLoop (.DictComp kx vx [#[tg,iter,aj,0]] scope pos) 0 (.ref it) (.ref D) Y.env) R s:=by
 refine nj (E:=Y.xe) (λn s'=>∃i σ' H' kvs M,Inv Y [] σ' H' s'/\tn i s'.heap/\(∀b∈fp,H' b=Yc)/\H' D=Yc/\s'.heap.DictOf (bg Y.prog Y.w) D M/\KV kvs M/\W i n σ' kvs H')
  ?_ (λe s z=>(hx e s z).elim) m #[0,σ,H,[],[],I,st,fn,dn,dd,.nil,w0]
 rintro n s3 ⟨i,C,H3,kvs,M,J3,ai,ak,al,au,rv,w3⟩;let(G,ad,ae,ap,ac,O,ab,Z,aa):=id au;let am:Inv Y [(D,G)] C H3 s3:=d.pin (pl:=[]) J3 al ap λv z=>by rw[O]at z;cases z
 let l:∀p∈[(D,G)],p.1=D:=λp hp=>by
  let e':p=(D,G):=by simpa using hp
  rw[e']
 rcases turn i n C kvs H3 w3 with⟨stop,hz,q⟩|⟨go,hz,N,hN,step⟩
 .refine cX (T.done Y rfl rfl rfl hc i _ s3 C H3 Y.xe am (d.stat ak l) ai stop) λr s4 ⟨hr,J4⟩=>?_;subst hr;exact fin J4 al #[G,ad,ae,(J4.pin (D,G) (rj _ (by simp))).1,ac,O,ab,Z,aa] rv hz q
 .refine cX (T.item Y rfl rfl rfl hc i _ s3 C H3 Y.xe am (d.stat ak l) ai go) λr s4 ⟨u,hr,h4⟩=>?_;subst hr;calc cX h4 λ_ s5 ⟨x,H5,J5,r5,y5,U,as⟩=>?_;let aw:=J5.pinned (d.stat as l) (T.obj _ _ U);calc cX (hg _ s5 C H5 x u _ aw r5 (step x H5 y5)) λ_ s6 ⟨t,H6,J6,q6⟩=>?_;refine cX (ht _ s6 t H6 _ J6 q6) λok s7 ⟨H7,J7,q7⟩=>?_
  let after:∀{s8:fy}{H8:Hp},Inv Y ([(D,G)]++pI fp s5.heap) t H8 s8->tn (i+1) s8.heap/\(∀b∈fp,H8 b=Yc)/\H8 D=Yc/\s8.heap.get? D=Yb G:=λ{s8 H8} J8=>by
   refine#[T.keep _ _ _ U λb S o e=>(J8.pin (b,o) (rj _ (rj _ (fc S e)))).1,λb S=>?_,?_,?_]
   .have(o,e,d):=T.obj _ _ U b S;exact(J8.pin (b,o) (rj _ (rj _ (fc S e)))).2.1
   .exact(J8.pin (D,G) (rj _ (O4 _ (by simp)))).2.1
   .exact(J8.pin (D,G) (rj _ (O4 _ (by simp)))).1
  cases ok with
  |false =>
   let(m',hm,w7):=hN _ _ _ q7;let(a1,a2,a3,a4):=after J7;calc#[m',hm,i+1,t,H7,kvs,M,J7.fB (λp hp=>absurd hp (by simp)),a1,a2,a3,#[G,ad,ae,a4,ac,O,ab,Z,aa],rv,w7]
  |true =>
   calc cX (hk _ s7 t H7 _ J7 q7) λx an ⟨a0,ax,av,ao,aq⟩=>?_;calc cX (he _ an t ax _ av aq) λy s8 ⟨v8,H8,J8,r8,n8⟩=>?_;let(B,rfl,n8):=n8;let(m',hm,w8):=hN _ _ _ n8;let(a1,a2,a3,a4):=after J8;let ar:M.length<=lj:=by let:=KV.length rv;omega
   refine wpAny_dictSet_pairs (rQ ao) (#[G,ad,ae,a4,ac,O,ab,Z,aa]:s8.heap.DictOf (bg Y.prog Y.w) D M) (λaz ag L=>?_) ar
   calc#[m',hm,i+1,t,H8,putK kvs B v8,stored M B y,d.put (J8.fB λp hp=>absurd hp (by simp)) (λb o S e=>by rw[L.2 b S];calc e) a3 (λp hp=>absurd hp (by simp)),
    T.keep _ _ _ a1 λb S o e=>(L.2 b (λz=>d.out (z▸S))).trans e,a2,a3,ag,rv.put B r8,w8]
def vS {cs}(own:Yi Yg)(fr:Yi Nat)(hkind:scope.kind=.function)(hcell:∀x∈scope.names,x.2≠.cell)(hnames:∀x∈scope.names,x.2=.local->scope.names.lookup x.1=Yb .local)(hfr:∀x∈scope.names,x.2=.free->X.env.scope.names.lookup x.1=Yb .cell\/X.env.scope.names.lookup x.1=Yb .free)(hin:∀j∈fr,scope.names.lookup (X.N.getD j OU)=Yb .free)(hi:PI X tg iter wi)(hs:∀x,Pg iter X.env x=pure x)(I:Inv X pins D H s)(h:wi D H Z)(lp:∀{it:Yh}{m:Yi Yh}{tn:Nat->Heap->Prop}{J:It}{d s':fy}{r:Hp}{C:Yh}{R:SE->fy->Prop},Turn X.prog X.w X.K tg J m it tn->Z J r->Jv (br X scope (own++fr.map λj=>X.N.getD j OU) m C d r) d⁻¹ m->Inv (br X scope (own++fr.map λj=>X.N.getD j OU) m C d r) [] (iX own.length fr D) r s'->tn 0 s'.heap->(∀b∈m,r b=Yc)->r d⁻¹=Yc->s'.heap.DictOf (bg X.prog X.w) d⁻¹ [] ->
   (∀{D:St}{H:Hp}{s:fy}{pl:Yi (Yh×Obj)}{kvs:Yi (Key×V)}{rs:Yi (Key×eF)},Inv (br X scope (own++fr.map λj=>X.N.getD j OU) m C d r) pl D H s->H d⁻¹=Yc->s.heap.DictOf (bg X.prog X.w) d⁻¹ rs->KV kvs rs->kvs.length<=lj->(∀p,H p=Yc->Q (.ref p) (upd H p (.dK kvs)))->R (.ok .next) s) ->
   Qs (OM (br X scope (own++fr.map λj=>X.N.getD j OU) m C d r).prog (br X scope (own++fr.map λj=>X.N.getD j OU) m C d r).w) (br X scope (own++fr.map λj=>X.N.getD j OU) m C d r).A (.compLoop (.DictComp kx vx (#[tg,iter,aa,0]::cs) scope pos) 0 (.ref it) (.ref d⁻¹) (br X scope (own++fr.map λj=>X.N.getD j OU) m C d r).env) R s'):
  OH (OM X.prog X.w) X.A (eval (.DictComp kx vx (#[tg,iter,aa,0]::cs) scope pos) X.env) (EP X pins D Q) X.xe s:=by
 rw[arm_eval_DictComp];let u:∀x∈scope.names,x.2=.free->∃c,X.env.cells.lookup x.1=Yb c:=λx hx e=>I.ok.has x.1 (hfr x hx e);calc UG (use:=Yc) rfl hs (oY u) hkind hnames ?_;calc cX (hi pins s D H _ I h) λv s1 h1=>cX h1 λal d h2=>?_;let(it,m,tn,J,r,e,S,T,W,f2,z2):=h2;subst e;let ac:∀b∈m,b<d⁻¹:=λb B=>by let(o,e,_):=T.obj 0 _ W b B;exact OG e
 calc Pr (wpAny_newFunctionEnv hcell (by intro y hy;simp at hy) (λt l g=>?_) hkind);dsimp only at l g|-;generalize hH2:d.heap.push {cls:=.type "dict",dict:=Yc,data:=.dict #[]}=G2 at l g|-;let hC:G2.objs.size=d⁻¹+1:=by rw[<-hH2,PL]
 let G:d⁻¹≠G2.objs.size:=by rw[hC];exact OZ (QZ _)
 let M:d⁻¹<=G2.objs.size:=by rw[hC];exact Pc _
 let Y:∀b o,d.heap.get? b=Yb o->t.get? b=Yb o:=λb o e=>g.extBut b o (by rw[hC];calc OZ (Ut (OG e))) (mH _ (hH2▸mH _ e));let ad:t.DictOf (bg X.prog X.w) d⁻¹ []:=(hH2▸Wz (knd:=bg X.prog X.w) d.heap:G2.DictOf (bg X.prog X.w) d⁻¹ []).at λo e=>g.extBut _ _ G (mH _ e)
 let I3:Inv (br X scope (own++fr.map λj=>X.N.getD j OU) m G2.objs.size d r) [] (iX own.length fr D) r {d with heap:=t,toks:=d.toks+([]:Yi (Yg×eF)).length} :=
  tW S hkind hcell hfr hin M f2 ac Y l
 let U:tn 0 t:=T.keep 0 _ _ W λb _ o e=>Y b o e;let ag:d⁻¹∉m:=λhm=>PN _ (ac _ hm);let ae:r d⁻¹=Yc:=S.hok.fresh (i5 _);let sub:∀y c,(d7 X.env scope.names []).lookup y=Yb c->X.env.cells.lookup y=Yb c:=jW _ _ u (by intro y c e;simp at e)
 let O:∀y c,(d7 X.env scope.names []).lookup y=Yb c->c≠d⁻¹:=λy c e=>by
  let(_,o,ho,_):=S.cell y c (sub y c e);exact OZ (OG ho)
 let ak:d⁻¹∉frs X.stack:=λz=>by
  rcases L0.mp (S.tH _ z)with e|e
  .exact absurd S.lt (by rw[<-e];calc PN _)
  .exact S.Fd (i5 _) e
 let dI:Jv (br X scope (own++fr.map λj=>X.N.getD j OU) m G2.objs.size d r) d⁻¹ m:=#[λ{H' pl} hn hp b B=>by
  calc#[hn b B,(I3.ok.exf b B).1,I3.ok.exfs b B,.inl B,(I3.ok.exf b B).2,λp ai z=>?_];let ab:p∈pl:=by simpa[br]using ai
  exact ag (by rw[<-hp p ab,z];calc B),λ{σ' H' s' o pl} J hn e hcl=>J.fB λp hp=>by
  rcases IF.mp hp with hp|hp
  rotate_left
  .exact J.pin p (rj _ hp)
  let e':p=(d⁻¹,o):=by simpa using hp
  subst e';exact#[e,hn,G,ak,hcl],
  λ{σ' H' s' h' t' pl} J k hn hp=>J.turned (it:=d⁻¹) k hn G (.inr (i5 _)) O (λp q=>hp p (by simpa[br]using q)),ag]
 let L:=lp (R:=compPost (OM X.prog X.w) X.A X.xe Yc (EP X pins D Q) (.ref d⁻¹) G2.objs.size) T z2 dI I3 U (λb B=>(f2 b B).1) ae ad λ{σ3 H3 s4 pl kvs rs} J4 dn3 dd rv hz q=>by
  let(m4,aj,_):=id J4.loc;exact#[m4,aj,λh' ah=>#[.ref d⁻¹,_,yE S f2 J4 M (i5 _) G dn3 dd rv hz ah,rfl,q _ dn3]]
 calc codeAny_compStart_dict L (T.self X.A 0 _ _ _ U L)
def Ds (own:Yi Yg)(fr:Yi Nat)(v:X.calm=Yd)(hkind:scope.kind=.function)(hcell:∀x∈scope.names,x.2≠.cell)(hnames:∀x∈scope.names,x.2=.local->scope.names.lookup x.1=Yb .local)(hfr:∀x∈scope.names,x.2=.free->X.env.scope.names.lookup x.1=Yb .cell\/X.env.scope.names.lookup x.1=Yb .free)(hin:∀j∈fr,scope.names.lookup (X.N.getD j OU)=Yb .free)(hi:PI X tg iter m)(hg:∀e C s H,PG (br X scope (own++fr.map λj=>X.N.getD j OU) e C s H) tg g)(ht:∀e C s H,tV (br X scope (own++fr.map λj=>X.N.getD j OU) e C s H) l q)(hk:∀e C s H,PE (br X scope (own++fr.map λj=>X.N.getD j OU) e C s H) u r)(he:∀e C s H,PE (br X scope (own++fr.map λj=>X.N.getD j OU) e C s H) o p)(hs:∀x,Pg iter X.env x=pure x:=by intro _;rfl):PE X (.DictComp u o [#[tg,iter,l,0]] scope pos) (Dr own.length fr m g q r p):=by
 intro t s y H Q I h
 exact vS own fr hkind hcell hnames hfr hin hi hs I h λ{it e tn J s2 s' H2 C R} T ⟨W,⟨m0,w0⟩,turn⟩ d I3 st f2 dn dd fin =>
  Ga v (λ_ _ z=>z) (hg _ _ _ _) (ht _ _ _ _) (hk _ _ _ _) (he _ _ _ _) T d I3 st f2 dn dd w0 turn fin
def qX {D t iter tg:Expr}{m:Yi Expr}{scope:P9}{pos:Pos}{r:TI}{g:TG}{v:TT}{y u:TE}(B:P9)(l own:Yi Yg)(fr:Yi Nat)(L:X.calm=Yd)(q:X.env.scope=B)(M:X.N=l)(ok:nK scope B l fr=Yd)(hi:PI X tg iter r)(hg:∀d C s H,PG (br X scope (own++fr.map λj=>l.getD j OU) d C s H) tg g)(ht:∀d C s H,tV (br X scope (own++fr.map λj=>l.getD j OU) d C s H) m v)(hk:∀d C s H,PE (br X scope (own++fr.map λj=>l.getD j OU) d C s H) D y)(he:∀d C s H,PE (br X scope (own++fr.map λj=>l.getD j OU) d C s H) t u)(hs:∀x,Pg iter X.env x=pure x:=by intro _;rfl):PE X (.DictComp D t [#[tg,iter,m,0]] scope pos) (Dr own.length fr r g v y u):=by
 subst q M;unfold nK at ok;simp only[Pd,Pj,bne_iff_ne,beq_iff_eq,QN]at ok;let((I,p),G):=ok;refine Ds own fr L I (λx o=>(p x o).1.1) (λx o e=>?_) (λx o e=>?_) (λj J=>G j J) hi hg ht hk he hs
 .rcases(p x o).1.2 with z|z
  .exact absurd e z
  .exact z
 .rcases(p x o).2 with(z|z)|z
  .exact absurd e z
  .exact .inl z
  .exact .inr z
def yF (n:Nat)(l:Nat->St->Yi (Key×V)->Hp->Prop)(M:l 0 σ0 [] H0)(t:∀i d kvs H,i<=n->l i d kvs H->kvs.length<=i)(hn:n<=lj)(B:∀i d kvs H,i<n->l i d kvs H->J.go i H)(z:∀d kvs H,l n d kvs H->J.stop n H)(hs:∀i d kvs H x u,i<n->l i d kvs H->J.yld i H x u->g x d u λj D=>tt j D λok C=>if ok=Yd then tk j C λI O=>tv j O λv N=>∃r,I=kV r/\l (i+1) j (putK kvs r v) N else l (i+1) j kvs C)(hd:∀d kvs H,l n d kvs H->∀p,H p=Yc->Q (.ref p) (upd H p (.dK kvs))):wX J g tt tk tv Q σ0 H0:=by
 calc#[λi m d kvs H=>m=n-i/\i<=n/\l i d kvs H,#[n,by simp,ON _,M],?_];rintro i m d kvs H ⟨rfl,L,p⟩;let R:=t i d kvs H L p
 by_cases o:i<n
 .exact .inr #[B i d kvs H o p,(),l (i+1),λj G D q=>#[n - (i+1),(),rfl,o,q],λx u y=>hs i d kvs H x u o p y]
 .have e:i=n:=()
  subst e;calc .inl #[z d kvs H p,(),hd d kvs H p]
def BR {K:bN}(j:Nat->St->Yi (Key×V)->Hp->Prop)(z:j 0 σ0 [] H0)(o:∀i d kvs H,i<=xs.length->j i d kvs H->kvs.length<=i)(hn:xs.length<=lj)(r:∀i d kvs H,i<=xs.length->j i d kvs H->bY K H a xs)(hs:∀i x d kvs H,xs[i]?=Yb x->j i d kvs H->g x d H λe D=>tt e D λok t=>if ok=Yd then tk e t λu C=>tv e C λv B=>∃m,u=kV m/\j (i+1) e (putK kvs m v) B else j (i+1) e kvs t)(hd:∀d kvs H,j xs.length d kvs H->∀p,H p=Yc->Q (.ref p) (upd H p (.dK kvs))):wX (Ax K a) g tt tk tv Q σ0 H0:=by
 calc yF xs.length j z o hn (λi d l H q p=>#[xs,xs[i],r i d l H (O7 q) p,by simp[q]]) (λd l H p=>#[xs,r _ d l H (i5 _) p,i5 _]) (λi d l H x G q p y=>?_) hd;let(rfl,y):=y;calc hs i x d l _ (y xs (r i d l _ (O7 q) p)) p
end L2
namespace L2
open PySem
def Rp.t1 (h:Rp K H (.t [x]) v):∃a u,v=.ref a/\bY K H a [u]/\Rp K H x u:=by
 let(a,e,rfl,d,r):=h.aS;let(u,q,rfl,g,r2):=r.inv;obtain rfl:=r2.ik;calc#[a,u,rfl,d,g]
def Rp.t2 (h:Rp K H (.t [x,y]) v):∃a e d,v=.ref a/\bY K H a [e,d]/\Rp K H x e/\Rp K H y d:=by
 let(a,m,rfl,j,r):=h.aS;let(u,q,rfl,g,r2):=r.inv;let(d,o,rfl,l,r3):=r2.inv;obtain rfl:=r3.ik;calc#[a,u,d,rfl,j,g,l]
def Rp.t3 (h:Rp K H (.t [x,y,z]) v):∃a j e d,v=.ref a/\bY K H a [j,e,d]/\Rp K H x j/\Rp K H y e/\Rp K H z d:=by
 let(a,p,rfl,l,r):=h.aS;let(u,q,rfl,g,r2):=r.inv;let(e,C,rfl,o,r3):=r2.inv;let(d,B,rfl,m,r4):=r3.inv;obtain rfl:=r4.ik;calc#[a,u,e,d,rfl,l,g,o,m]
def Rp.t4 (h:Rp K H (.t [x,y,z,l]) v):∃a m j e d,v=.ref a/\bY K H a [m,j,e,d]/\Rp K H x m/\Rp K H y j/\Rp K H z e/\Rp K H l d:=by
 let(a,G,rfl,o,r):=h.aS;let(u,q,rfl,g,r2):=r.inv;let(j,L,rfl,D,r3):=r2.inv;let(e,J,rfl,C,r4):=r3.inv;let(d,I,rfl,B,p):=r4.inv;obtain rfl:=p.ik;exact#[a,u,j,e,d,rfl,o,g,D,C,B]
open PySem.Spec PyProof.Rows
def AN (K:bN)(e:X.K=K)(d:PE X l tl):PI X tg l (Ja K tl):=by subst e;calc cG d
def Dt :mV X (Q5 .Add) (λx y H Q=>∃a b ys,x=.ref a/\y=.ref b/\bY X.K H a []/\bY X.K H b ys/\Q (.ref b) H):=by
 intro r s V H x y u v Q I J G h;let(a,b,ys,rfl,rfl,S,R,q):=h
 cases J
 cases G
 let(N,L,O,_):=I.tuple S;let(l,r2,m,_):=I.tuple R
 cases L
 let((U,T,B,D),t,z,n,hd):=id O;let((C,o,p,j),d,g,M,e):=id m;simp only at z hd g e;subst z hd g e
 exact V8 #[_,t,rfl] #[_,d,rfl] UO VO SI Ss (R9 _ _)
   (tuple_addW0 a b _ l.toArray n M T o D j (by simp)) #[t,d,#[.ref b,H,I,rfl,q]]
meta def vU(K:bN):R2:=λx y H Q=>∃a b e d,x=.ref a/\y=.ref b/\bY K H a e/\bY K H b d/\e.length+d.length<=lj/\∀p g,aR H g->bY K g p (e++d)->Q (.ref p) g
def gU :mV X (Q5 .Add) (vU X.K):=by
 intro d s j H x y u v Q I o m h;let(a,b,q,l,rfl,rfl,g,e,t,k):=h
 cases q with
 |nil=>calc Dt d s j H _ _ u v Q I o m #[a,b,l,rfl,rfl,g,e,k b H (aR.refl _) e]
 |cons x r =>
  exact Ft d s j H _ _ u v Q I o m #[a,b,_,l,rfl,rfl,g,e,(by simp),t,(λz=>by subst z;let:=k a H (aR.refl _);rw[O0]at this;calc this g),λ_ p B=>k p _ (ae B _) (bY.of af)]
set_option maxRecDepth 100000
def qY :fillsNumberSlot (.type "tuple") "mul"=pure Ye :=
 PySem.fillsNumberSlot_seq (id:="tuple.__mul__") (r:=Yb (.builtin "tuple.__rmul__")) QV.lookup (by decide) UR.lookup (by decide)
def wY :seqRepeat? (.type "tuple")=pure (Yb (.builtin "tuple.__mul__")):=by
 unfold seqRepeat?;rw[Wq (T:="tuple") (name:="__mul__") (id:="tuple.__mul__") QV.lookup (by decide),Wq (T:="tuple") (name:="__rmul__") (id:="tuple.__rmul__") UR.lookup (by decide)];rfl
def ue (a:Int)(t:Tok)(l:Yh)(m:Option Yh)(items:Array eF)(n:Nat)(j:Array (Option eF)):
  Meets (Ry.«int.__rmul__» #[[.int a t,.ref l],[]]) (λ_ R s=>s.heap.get? l=Yb {cls:=.type "tuple",dict:=m,data:=.seq items n,slots:=j}/\R (.ok (.ret eF.notImplemented)) s) :=
 .of_wp λe w A R s h=>by let(q,g,d,o,p):=s;let(r,h):=h;wp_walk;calc#[_,rfl,h]
def uf (l:Yh)(o:Option Yh)(items:Array eF)(n:Nat)(j:Array (Option eF))(x:Int)(u:Tok)(m:(decide (x < -2 ^ 63)||decide (x ≥ 2 ^ 63))=Ye)(v:(items.isEmpty||x == 1)=Yd):
  Meets (Ry.«tuple.__mul__» #[[.ref l,.int x u],[]]) (λ_ R s=>s.heap.get? l=Yb {cls:=.type "tuple",dict:=o,data:=.seq items n,slots:=j}/\R (.ok (.ret (.ref l))) s) :=
 .of_wp λe w A R s h=>by let(r,g,d,p,q):=s;let(t,h):=h;wp_walk;calc Tp (decide_eq_false (by rw[m];calc OP)) ?_;wp_walk;calc#[_,rfl,h]
def ve (l:Yh)(r:Option Yh)(items:Array eF)(n:Nat)(o:Array (Option eF))(x:Int)(u:Tok)(q:(decide (x < -2 ^ 63)||decide (x ≥ 2 ^ 63))=Ye)(G:¬(items.isEmpty||x == 1)=Yd)(D:(decide (x<=0)||items.isEmpty)=Ye)(p:¬(items.size:Int)*x>(2 ^ 63-1) / 8)(C:¬Ud ((items.size:Int)*x)=Yd)(B:(Ua (λj e=>j++e) #[] (L1 x.toNat items)).size<=lj):
  Meets (Ry.«tuple.__mul__» #[[.ref l,.int x u],[]]) (λ_ R s=>s.heap.get? l=Yb {cls:=.type "tuple",dict:=r,data:=.seq items n,slots:=o}/\R (.ok (.ret (Value.ref s⁻¹))) {s with heap:=s.heap.push {cls:=Value.type "tuple",data:=Data.seq (Ua (λj e=>j++e) #[] (L1 x.toNat items))}}) :=
 .of_wp λm w A R s h=>by let(y,g,d,t,v):=s;let(z,h):=h;wp_walk;calc Tp (decide_eq_false (by rw[q];calc OP)) ?_;wp_walk;calc Tp (decide_eq_false p) ?_;wp_walk;calc#[_,rfl,h]
def vf (l:Yh)(o:Option Yh)(items:Array eF)(n:Nat)(j:Array (Option eF))(x:Int)(u:Tok)(m:(decide (x < -2 ^ 63)||decide (x ≥ 2 ^ 63))=Ye)(y:¬(items.isEmpty||x == 1)=Yd)(v:(decide (x<=0)||items.isEmpty)=Yd):
  Meets (Ry.«tuple.__mul__» #[[.ref l,.int x u],[]]) (λ_ R s=>s.heap.get? l=Yb {cls:=.type "tuple",dict:=o,data:=.seq items n,slots:=j}/\R (.ok (.ret (Value.ref s⁻¹))) {s with heap:=s.heap.push {cls:=Value.type "tuple",data:=Data.seq #[]}}) :=
 .of_wp λe w A R s h=>by let(r,g,d,p,q):=s;let(t,h):=h;wp_walk;calc Tp (decide_eq_false (by rw[m];calc OP)) ?_;wp_walk;calc#[_,rfl,h]
meta def Ly(K:bN):R2:=λx y H Q=>∃a k d,x=.ref a/\y=.int k/\bY K H a d/\0<=k/\k<=100/\d.length<=9/\∀p e,aR H e->bY K e p (L1 k.toNat d).flatten->Q (.ref p) e
def Gb :mV X (Q5 .Mult) (Ly X.K):=by
 intro J s σ H x y v u Q I rx Z h;let(a,k,j,rfl,rfl,p,k0,k1,L,q):=h
 cases rx
 let(t,rfl):=Z;let(d,r,ht,_):=I.tuple p;let N:=r.length;let((cls,m,data,l),e,O,n,hd):=id ht;simp only at O hd;subst O hd
 let D:(decide (k < -2 ^ 63)||decide (k ≥ 2 ^ 63))=Ye:=by
  rw[decide_eq_false (),decide_eq_false ()];rfl
 refine Ul (T:="tuple") (U:="int") (by decide) #[_,e,rfl] (λY=>Sf Y k t) qY PySem.F.fills_int_mul Sg wY PySem.F.slot_int_index.lookup
  (RA Sg (Sf s k t) PySem.F.entry_int_rmul (PySem.F.args_int_rmul_2 _ _) (ue k t a m d.toArray n l)
   #[e,rfl,#[_,e,rfl],?_])
 by_cases g:(d.toArray.isEmpty||k == 1)=Yd
 .refine RA QV #[_,e,rfl] Sv (Sa _ _) (uf a m d.toArray n l k t D g) #[e,#[.ref a,H,I,rfl,q a H (λ_ _ z=>z) ?_]];rcases(QN _ _).mp g with z|z
  .have:j=[]:=by
    cases j with
    |nil=>rfl
    |cons y ys=>cases d with
     |nil=>cases N
     |cons b bs=>simp at z
   subst this
   simpa using p
  .have:k=1:=QF z;subst this
   simpa using p
 let R:Ua (λW V=>W++V) #[] (L1 k.toNat d.toArray)=(L1 k.toNat d).flatten.toArray:=by
  let:=foldl_rep d k.toNat [];rw[QM]at this;exact this
 let M:(L1 k.toNat j).flatten.length<=lj:=O7 (aV (by rw[len_rep];calc OX (Nat.mul_le_mul (show k.toNat<=100 by omega) L) (by decide)));let S:=I.laid (t':=s.toks) (o:=.J (L1 k.toNat j).flatten) (h':=s.heap.push {cls:=Value.type "tuple",data:=Data.seq (L1 k.toNat d).flatten.toArray}) (λb ob q=>mH _ q) (i5 _) #[M,_,r.rep k.toNat,UM _ _,_,OI _ rfl,rfl];let G:=q _ _ (ae I.fresh _) (bY.of af)
 by_cases C:(decide (k<=0)||d.toArray.isEmpty)=Yd
 .refine RA QV #[_,e,rfl] Sv (Sa _ _) (vf a m d.toArray n l k t D g C) #[e,?_]
  let ek:k=0:=by
   rcases(QN _ _).mp C with z|z
   .have:=of_decide_eq_true z;omega
   .exact absurd (by rw[z];rfl) g
  subst ek;exact#[.ref _,_,S,rfl,G]
 let B:(decide (k<=0)||d.toArray.isEmpty)=Ye:=by simpa using C
 let aa:d.toArray.size<=9:=by rw[I0,<-N];exact L
 let hp:(d.toArray.size:Int)*k<=900:=Int.le_trans (Int.mul_le_mul () k1 k0 ()) (by decide:(9:Int)*100<=900);calc RA QV #[_,e,rfl] Sv (Sa _ _) (ve a m d.toArray n l k t D g B () ?_ (by rw[R,I0,<-(r.rep k.toNat).length];calc M)) #[e,by rw[R];calc#[.ref _,_,S,rfl,G]];unfold Ud;let:(1000:Int)<=(lj:Int):=by decide
 intro z;let:=of_decide_eq_true z;omega
end L2
namespace HT
open PySem PyProof.Rows
section
open PySem.SeqAt
open PySem.AutoSeq1 (wpAny_loadPart')
open PySem.MeetsSeq PySem.MeetsSeq2 PySem.MeetsSeq3
def oQ (ht:WB s.heap t items)(hs:s.heap.IsSliceOf d m l .none)(pl:UC m o)(p:UC l hi)(h0:iw items.size 0 o=0)(h1:iw items.size items.size hi=items.size)(h:Q (.ref t) s):OH (OM prog w) A (SJ (.ref t) (.ref d)) Q E s:=by
 let(q,e,g,r):=id hs;let j:s.TypeIs (.ref d) "slice":=#[q,e,g];unfold SJ
 try with_reducible refine PY ?_
 first|refine cB (pC ?_)|skip
 refine cB (Uq ht.typeIs (by decide) ?_)
 refine cB (Qd (name:=PM "__getitem__") ht.typeIs Pb
  (QB Pb ht.typeIs Tv ?_ (T8 _ _)))
 show OH _ _ (RU (.ref t)>>=_) _ _ s;calc cB (VP ht ?_);calc cB (TJ j ?_);rw[if_pos (by decide)];calc cB (lE hs pl p ?_);rw[h0,h1];show OH _ _ (if(((0:Nat):Int) == 0&&(1:Int) == 1&&(items.size-0) == items.size)=Yd then _ else _) _ _ s;rw[if_pos (by simp)];show OH _ _ ((typeOf (.ref t)>>=_)>>=_) _ _ s;calc cB (cB (TJ ht.typeIs (pC ?_)));show OH _ _ (if(_:Bool)=Yd then _ else _) _ _ s;rw[if_pos (by decide)];calc cB (TV ?_);calc pC #[_,rfl,pC h]
def qt {n:Nat}(hs:s.heap.IsSliceOf j .none .none (.int (-1) t))(h:Q ((n:Int) - 1,-1,n) s):OH (OM prog w) A (Q6 (.ref j) (pure (n:Int))) Q E s:=by
 let(m,d,l,g):=id hs;unfold Q6 Uk;calc cB (cB (Pw d g (x:=.none) rfl (cB (Pw d g (x:=.none) rfl (cB (Pw d g (x:=.int (-1) t) rfl (pC ?_)))))));calc cB (ki (.int (-1) t) ?_);show OH _ _ (if((-1:Int) == 0)=Yd then _ else _) _ _ s;rw[if_neg (by decide)];calc cB (ki .none (cB (ki .none (cB (pC ?_)))));show OH _ _ (pure ((n:Int) - 1,(-1:Int),P0 ((n:Int) - 1) (-1) (-1))) _ _ s
 let e:P0 ((n:Int) - 1) (-1) (-1)=n:=by
  unfold P0;rw[if_neg (by decide)]
  split
  .rw[show(-(-1:Int))=1 from rfl,V9];omega
  .omega
 rw[e];calc pC h
def BS (xs:Array eF):((QJ xs.size).filterMap λ(k:Nat)=>xs[(((xs.size:Nat):Int) - 1+(k:Int)*(-1)).toNat]?).toArray=xs.toList.reverse.toArray:=by
 congr 1
 let d:∀n,n<=xs.size->((QJ n).filterMap λ(k:Nat)=>xs[(((xs.size:Nat):Int) - 1+(k:Int)*(-1)).toNat]?)=xs.toList.reverse.take n:=by
  intro n
  induction n with
  |zero=>intro _;rfl
  |succ n ih =>
   intro h;rw[Tq,List.filterMap_append,ih ()];let j:n<xs.toList.reverse.length:=by rw[QT,Qx];omega
   rw[i3 j]
   congr 1
   let e:(((xs.size:Nat):Int) - 1+(n:Int)*(-1)).toNat=xs.size-1-n:=()
   let g:xs.size-1-n<xs.size:=()
   rw[Qw,e,Array.getElem?_eq_getElem g];simp only[List.filterMap_nil];rw[Vt,Array.getElem_toList];simp
 rw[d xs.size (i5 _),Py (by rw[QT,Qx];calc i5 _)]
def pR (ht:WB s.heap t items)(hs:s.heap.IsSliceOf e .none .none (.int (-1) o))(hsz:items.size<=lj)(h:Q (.ref s⁻¹) {s with heap:=s.heap.push {cls:=.type "tuple",data:=.seq items.toList.reverse.toArray}}):OH (OM prog w) A (SJ (.ref t) (.ref e)) Q E s:=by
 let d:sizeOk (.seq items.toList.reverse.toArray):=by
  show items.toList.reverse.toArray.size<=lj;rw[I0,QT,Qx];exact hsz
 let(p,g,j,q):=id hs;let l:s.TypeIs (.ref e) "slice":=#[p,g,j];unfold SJ
 try with_reducible refine PY ?_
 first|refine cB (pC ?_)|skip
 refine cB (Uq ht.typeIs (by decide) ?_)
 refine cB (Qd (name:=PM "__getitem__") ht.typeIs Pb
  (QB Pb ht.typeIs Tv ?_ (T8 _ _)))
 show OH _ _ (RU (.ref t)>>=_) _ _ s;calc cB (VP ht ?_);calc cB (TJ l ?_);rw[if_pos (by decide)];calc cB (qt hs ?_);show OH _ _ (if((((items.size:Nat):Int) - 1) == 0&&(-1:Int) == 1&&items.size == items.size)=Yd then _ else _) _ _ s;rw[if_neg (by simp),BS]
 first
  |calc cB (m:=PR _) (Pr (pC #[_,rfl,pC h]) d)
  |calc cB (m:=PR _) (Pr (cB (pC (pC #[_,rfl,pC h]))) d)
  |calc cB (cB (m:=PR _) (Pr (pC (pC #[_,rfl,pC h])) d))
  |calc cB (cB (m:=PR _) (Pr (pC #[_,rfl,pC h]) d))
end
end HT
namespace L2
open PySem PySem.Spec PyProof.Rows
meta def Du(K:bN):V->Option Int->Option Int->Hp->VK->Prop:=λx lo hi H Q=>∃a g,x=.ref a/\bY K H a g/\∀p d,aR H d->bY K d p (iE g lo hi)->Q (.ref p) d
def gy :CJ X (Du X.K):=by
 intro j s D H x v J G lo hi L Q I t C z y h;let(a,d,rfl,o,q):=h
 by_cases l:HT.iw d.length 0 lo=0/\HT.iw d.length d.length hi=d.length
 .cases t
  let(m,r,B,N):=I.tuple o;let g:m.toArray.size=d.length:=by rw[I0];exact r.length.symm
  calc#["tuple",_,Pb.lookup,B.typeIs,?_];refine HT.oQ B C z y (by rw[g];calc l.1) (by rw[g];calc l.2) #[.ref a,H,I,rfl,q a H (λ_ _ e=>e) ?_]
  let:iE d lo hi=d:=by
   unfold iE;rw[l.1,l.2,List.drop_zero,Nat.sub_zero,OO]
  rw[this];exact o
 .exact wN j s D H (.ref a) v J G lo hi L Q I t C z y #[a,d,rfl,o,l,λp M=>q p _ (λb u q=>by rw[ay (au q M)];calc q) (bY.of af)]
meta def Lz(K:bN)(te:TE)(tl th tk:TO):TE:=λd H Q=>te d H λx q=>tl d q λl o=>th d o λu m=>tk d m λk g=>∃a j,x=.ref a/\bY K g a j/\l=Yc/\u=Yc/\k=Yb (-1) /\
 ∀p,g p=Yc->Q (.ref p) (upd g p (.J j.reverse))
def Ge {st:Expr}{lo:Option Expr}(K:bN)(hK:X.K=K)(he:PE X e te)(hl:PO X lo tl)(hu:PO X hi th)(hk:PO X (Yb st) tk):PE X (.Subscript e (.Slice lo hi (Yb st) p2) pos) (Lz K te tl th tk):=by
 subst hK;intro d s j H Q I h;calc U3 (cX (he d s j H _ I h) λv L ⟨x,H1,I1,M,q1⟩=>?_);calc wpAny_Slice (cX (hl d L j H1 _ I1 q1) λvl J ⟨l,H2,I2,U,R⟩=>cX (hu d J j H2 _ I2 R) λvu G ⟨u,H3,I3,S,O⟩=>cX (hk d G j H3 _ I3 O) λD m ⟨k,H4,I4,V,N⟩=>?_);let(a,z,rfl,Z,rfl,rfl,rfl,q):=N
 cases M
 cases U
 cases S
 obtain⟨tk,rfl⟩:∃t,D=.int (-1) t:=by cases V;exact#[_,rfl]
 let y:Inv X d j H4 {m with heap:=m.heap.push {cls:=.type "slice",data:=.fields #[.none,.none,.int (-1) tk,]}}:=I4.kept (t':=m.toks) λb Y q=>mH _ q;let(g,r,C,B):=y.tuple Z;let p:g.length=z.length:=r.length.symm;calc tail_any (T:="tuple") (ops:=[.ref a,.ref m⁻¹]) C.typeIs Pb.lookup ?_ (by rfl');calc HT.pR (items:=g.toArray) C (T9 ..) (by rw[I0,p];calc B) ?_;calc#[.ref _,_,y.laid (t':=m.toks) (o:=.J z.reverse) (λb Y q=>mH _ q) (i5 _) ?_,rfl,q _ (y.hok.fresh (i5 _))];calc#[by rw[QT];calc B,g.reverse,r.reverse,UM _ _,_,OI _ rfl,rfl]
end L2
namespace L2
open PySem
def aR.oR (s:aR H d)(h:H l=Yc)(o:HO):aR H (upd d l o):=λb g e=>by rw[ay (au e h)];calc s b g e
structure Nh(K:bN) (Ps:St->Prop) (H2:Hp) (us:Yi V) (ys:Yi T) (σ:St) (H5:Hp):Prop where
 p:Ps σ
 s:aR H2 H5
 r:bR K H5 ys us
theorem zR {d j:Type}{φ:d->List j}(e:∀p,(φ p).length<=1):∀ps:List d,(ps.flatMap φ).length<=ps.length
 | []=>ON _
 |x::r=>by
  rw[Qt,mu,OT];let:=e x;let:=zR e r;omega
theorem wZ {d e:Type}(f:d->e):∀l:List d,(l.flatMap λp=>[f p])=l.map f
 | []=>rfl
 |x::r=>by rw[Qt,wZ f r];rfl
def vV {D:Type}{e:D->T}{φ:D->Yi T}{ps:Yi D}(B:St->Prop)(M:bY K H0 a vs)(hr:bR K H0 (ps.map e) vs)(W:ps.length<=900)(O:∀p,(φ p).length<=1)(R:B σ0)(hs:∀p∈ps,∀x o j (N:Yi V->St->Hp->Prop),aR H0 j->B o->Rp K j (e p) x->(∀us d t,Nh K B j us (φ p) d t->N us d t)->g x o j λd U=>tt d U λok J=>if ok=Yd then te d J λv t=>N [v] d t else N [] d J)(k:∀l C u,aR H0 C->H0 l=Yc->C l=Yb (.Y u)->bR K C (ps.flatMap φ) u->Q (.ref l) C):lI (Ax K a) g tt te Q σ0 H0:=by
 let l:=hr.length;rw[bM]at l;refine gc (xs:=vs) (λi o us j=>B o/\aR H0 j/\bR K j ((ps.take i).flatMap φ) us) #[R,aR.refl _,.nil] ?_ (small ()) ?_ ?_ ?_
 .rintro i o us j hi ⟨_,_,r⟩;rw[r.length];exact OX (zR O _) (by rw[x9];calc Vg _ _)
 .rintro i o us j hi ⟨_,s,_⟩;exact M.Z s
 .rintro i x o us j hx ⟨p,s,r⟩;let(y,I,L):=hr.get' hx;rw[vv]at I;let(q,G,rfl):=ri.mp I;let H:i<ps.length:=(bH.mp G).1;let S:ps[i]=q:=(bH.mp G).2
  let z:=hs q (xn G) x o j (λu d t=>B d/\aR H0 t/\bR K t ((ps.take (i+1)).flatMap φ) (us++u)) s p (L.Z s) λu d t m=>by
   calc#[m.p,s.trans m.s,?_];rw[i3 H,S,Pk];exact(r.Z m.s).append (by rw[Qt,US,O0];calc m.r)
  simp only[O0]at z;exact z
 .rintro o us j ⟨_,s,r⟩ p hp;rw[l,OO]at r;calc k p _ us (s.trans (ae hp _)) (s.free hp) af (r.Z (ae hp _))
def BU {D:Type}{e:D->T}{φ:D->Yi T}{ps:Yi D}(B:St->Prop)(M:H0 a=Yb (.Y vs))(hr:bR K H0 (ps.map e) vs)(W:ps.length<=900)(O:∀p,(φ p).length<=1)(R:B σ0)(hs:∀p∈ps,∀x o j (N:Yi V->St->Hp->Prop),aR H0 j->B o->Rp K j (e p) x->(∀us d t,Nh K B j us (φ p) d t->N us d t)->g x o j λd U=>tt d U λok J=>if ok=Yd then te d J λv t=>N [v] d t else N [] d J)(k:∀l C u,aR H0 C->H0 l=Yc->C l=Yb (.Y u)->bR K C (ps.flatMap φ) u->Q (.ref l) C):lI (Ij K a) g tt te Q σ0 H0:=by
 let l:=hr.length;rw[bM]at l;refine jw (xs:=vs) (λi o us j=>B o/\aR H0 j/\bR K j ((ps.take i).flatMap φ) us) #[R,aR.refl _,.nil] ?_ (small ()) ?_ ?_ ?_
 .rintro i o us j hi ⟨_,_,r⟩;rw[r.length];exact OX (zR O _) (by rw[x9];calc Vg _ _)
 .rintro i o us j hi ⟨_,s,_⟩;exact bA.of (s _ _ M)
 .rintro i x o us j hx ⟨p,s,r⟩;let(y,I,L):=hr.get' hx;rw[vv]at I;let(q,G,rfl):=ri.mp I;let H:i<ps.length:=(bH.mp G).1;let S:ps[i]=q:=(bH.mp G).2
  let z:=hs q (xn G) x o j (λu d t=>B d/\aR H0 t/\bR K t ((ps.take (i+1)).flatMap φ) (us++u)) s p (L.Z s) λu d t m=>by
   calc#[m.p,s.trans m.s,?_];rw[i3 H,S,Pk];exact(r.Z m.s).append (by rw[Qt,US,O0];calc m.r)
  simp only[O0]at z;exact z
 .rintro o us j ⟨_,s,r⟩ p hp;rw[l,OO]at r;calc k p _ us (s.trans (ae hp _)) (s.free hp) af (r.Z (ae hp _))
theorem bR.lK :∀{ns:Yi Yg}{vs:Yi V},bR K H (ns.map .s) vs->vs=ns.map V.str
 | [],_,h=>h.ik
 |n::r,_,h=>by
  let(v,d,rfl,g,h):=bR.inv (K:=K) (x:=.s n) h;rw[g.aL,lK h];rfl
theorem ug (k:Nat):∀{fs:Yi (Yg×V)},fs.length+(k+1)<n->(aX f v fs).length+k<n
 | [],h=>by show 1+k<n;simp at h;omega
 |(g,x)::r,h=>by
  unfold aX
  split
  .rw[OT]at h|-;omega
  .rw[OT]at h|-;let:=ug (f:=f) (v:=v) (n:=n) (k+1) (fs:=r) ();omega
def Dv (h:fs.length+1<n):(aX f v fs).length<n:=ug 0 h
def bu :(vc g P w K mg base N e d f cdv A outer s H E).pB.K=K:=rfl
meta def Cut(b:TS)(D:Ends)(N:St->Hp->Prop):Prop:=∀d H,b D d H->N d H
def Cut.go (h:Cut b D N)(g:b D d H):N d H:=h d H g
def kT (h:∀N:St->Hp->Prop,Cut b D N->a (D.wn N) d H):bf a b D d H:=h (b D) (λ_ _ x=>x)
def Gf (h:D.nx d H):Ii D d H:=h
def Gg (h:D.nx (d.set i (Yb v)) H):wM (tC v) (iJ i) D d H:=h
def jF (h:∀j g:St->Hp->Prop,Cut t1 (D.wn g) j->Cut t2 D g->e (D.wn j) d H):bf e (bf t1 t2) D d H:=h (bf t1 t2 D) (t2 D) (λ_ _ x=>x) (λ_ _ x=>x)
def uh (h:∀l j g:St->Hp->Prop,Cut t1 (D.wn j) l->Cut t2 (D.wn g) j->Cut t3 D g->e (D.wn l) d H):bf e (bf t1 (bf t2 t3)) D d H:=h (bf t1 (bf t2 t3) D) (bf t2 t3 D) (t3 D) (λ_ _ x=>x) (λ_ _ x=>x) (λ_ _ x=>x)
def um (h:∀m l j g:St->Hp->Prop,Cut t1 (D.wn l) m->Cut t2 (D.wn j) l->Cut t3 (D.wn g) j->Cut t4 D g->e (D.wn m) d H):bf e (bf t1 (bf t2 (bf t3 t4))) D d H:=h (bf t1 (bf t2 (bf t3 t4)) D) (bf t2 (bf t3 t4) D) (bf t3 t4 D) (t4 D) (λ_ _ x=>x) (λ_ _ x=>x) (λ_ _ x=>x) (λ_ _ x=>x)
def uo (h:∀p o m l j:St->Hp->Prop,Cut t1 (D.wn o) p->Cut t2 (D.wn m) o->Cut t3 (D.wn l) m->Cut t4 (D.wn j) l->Cut d D j->g (D.wn p) e H):bf g (bf t1 (bf t2 (bf t3 (bf t4 d)))) D e H:=h (bf t1 (bf t2 (bf t3 (bf t4 d))) D) (bf t2 (bf t3 (bf t4 d)) D) (bf t3 (bf t4 d) D) (bf t4 d D) (d D) (λ_ _ x=>x) (λ_ _ x=>x) (λ_ _ x=>x) (λ_ _ x=>x) (λ_ _ x=>x)
def Dw (h:∀r q p o m l:St->Hp->Prop,Cut t1 (D.wn q) r->Cut t2 (D.wn p) q->Cut t3 (D.wn o) p->Cut t4 (D.wn m) o->Cut e (D.wn l) m->Cut d D l->j (D.wn r) g H):bf j (bf t1 (bf t2 (bf t3 (bf t4 (bf e d))))) D g H:=h (bf t1 (bf t2 (bf t3 (bf t4 (bf e d)))) D) (bf t2 (bf t3 (bf t4 (bf e d))) D) (bf t3 (bf t4 (bf e d)) D) (bf t4 (bf e d) D) (bf e d D) (d D) (λ_ _ x=>x) (λ_ _ x=>x) (λ_ _ x=>x) (λ_ _ x=>x) (λ_ _ x=>x) (λ_ _ x=>x)
def LA (h:∀u t r q p o m:St->Hp->Prop,Cut t1 (D.wn t) u->Cut t2 (D.wn r) t->Cut t3 (D.wn q) r->Cut t4 (D.wn p) q->Cut g (D.wn o) p->Cut e (D.wn m) o->Cut d D m->l (D.wn u) j H):bf l (bf t1 (bf t2 (bf t3 (bf t4 (bf g (bf e d)))))) D j H:=h (bf t1 (bf t2 (bf t3 (bf t4 (bf g (bf e d))))) D) (bf t2 (bf t3 (bf t4 (bf g (bf e d)))) D) (bf t3 (bf t4 (bf g (bf e d))) D) (bf t4 (bf g (bf e d)) D) (bf g (bf e d) D) (bf e d D) (d D) (λ_ _ x=>x) (λ_ _ x=>x) (λ_ _ x=>x) (λ_ _ x=>x) (λ_ _ x=>x) (λ_ _ x=>x) (λ_ _ x=>x)
def uq (h:∀y v u t r q p o:St->Hp->Prop,Cut t1 (D.wn v) y->Cut t2 (D.wn u) v->Cut t3 (D.wn t) u->Cut t4 (D.wn r) t->Cut j (D.wn q) r->Cut g (D.wn p) q->Cut e (D.wn o) p->Cut d D o->m (D.wn y) l H):bf m (bf t1 (bf t2 (bf t3 (bf t4 (bf j (bf g (bf e d))))))) D l H:=h (bf t1 (bf t2 (bf t3 (bf t4 (bf j (bf g (bf e d)))))) D) (bf t2 (bf t3 (bf t4 (bf j (bf g (bf e d))))) D) (bf t3 (bf t4 (bf j (bf g (bf e d)))) D) (bf t4 (bf j (bf g (bf e d))) D) (bf j (bf g (bf e d)) D) (bf g (bf e d) D) (bf e d D) (d D) (λ_ _ x=>x) (λ_ _ x=>x) (λ_ _ x=>x) (λ_ _ x=>x) (λ_ _ x=>x) (λ_ _ x=>x) (λ_ _ x=>x) (λ_ _ x=>x)
def Mi {e d:Type}{p:e->d->Prop}(a:e)(b:d)(h:p a b):∃a b,p a b:=#[a,b,h]
def Oh {g e d:Type}{p:g->e->d->Prop}(a:g)(b:e)(c:d)(h:p a b c):∃a b c,p a b c:=#[a,b,c,h]
def Oi {l j g e:Type}{p:l->j->g->e->Prop}(a:l)(b:j)(c:g)(d:e)(h:p a b c d):∃a b c d,p a b c d:=#[a,b,c,d,h]
def Oj {o m l j ε g:Type}{p:o->m->l->j->ε->g->Prop}(a:o)(b:m)(c:l)(d:j)(e:ε)(f:g)(h:p a b c d e f):∃a b c d e f,p a b c d e f:=#[a,b,c,d,e,f,h]
def Ol {v u t r ε q o m l:Type}{p:v->u->t->r->ε->q->o->m->l->Prop}(a:v)(b:u)(c:t)(d:r)(e:ε)(f:q)(g:o)(i:m)(j:l)(h:p a b c d e f g i j):∃a b c d e f g i j,p a b c d e f g i j:=#[a,b,c,d,e,f,g,i,j,h]
def Om :T.nI []<=d:=by rw[T.nI];calc ON _
def Oo (h:x.dep<=d)(r:T.nI xs<=d):T.nI (x::xs)<=d:=by rw[T.nI];calc WG.mpr #[h,r]
def Oq (h:T.nI xs<=d):T.dep (.t xs)<=d+1:=by rw[T.dep];calc Q0 h
def Ni :T.dep (.s x)<=d:=by simp[T.dep]
def Ot :T.dep (.i x)<=d:=by simp[T.dep]
end L2
open L2 in
local macro_rules | `(tactic| fail "Z") => `(tactic| first | exact bA.of (by first | assumption | exact af) | exact bY.of (by first | assumption | exact af) | omega | (dsimp only [List.length_cons, List.length_nil]; decide) | decide | exact Nat.zero_le _ | (refine Dv ?_; (repeat with_reducible refine ug _ ?_); decide))
open L2 in
local macro_rules | `(tactic| fail "S") => `(tactic| first
  | ((with_reducible change @Eq _ _ _); (first | exact rfl | assumption | exact af | (rw [ay (by assumption)]; first | exact af | assumption | (rw [ay (by assumption)]; first | exact af | assumption)) | omega))
  | ((with_reducible first | change @LT.lt _ _ _ _ | change @LE.le _ _ _ _); (first | omega | with_reducible assumption | fail "Z"))
  | assumption
  | ((with_reducible refine And.intro ?_ ?_) <;> fail "S")
  | ((with_reducible refine Or.inl ?_); fail "S")
  | ((with_reducible refine Or.inr ?_); fail "S")
  | ((with_reducible apply Exists.intro); fail "S")
  | ((with_reducible first | change Mf _ _ _ _ | change Jg _ _ _ _ | change K9 _ _ | change Fj _ _ | change La _ _); first | ((first | refine (?_ : @Eq _ _ _) | refine (?_ : And _ _) | refine (?_ : Or _ _) | refine (?_ : Exists _)); fail "S") | exact True.intro)
  | fail "Z")
open L2 in
local macro_rules | `(tactic| fail "T") => `(tactic| first
  | ((with_reducible first | refine uq ?_ | refine Dw ?_ | refine uo ?_ | refine um ?_ | refine uh ?_ | refine jF ?_ | refine kT ?_); intros)
  | (refine (?_ : Exists _); first
     | with_reducible first | apply @Exists.intro Hp | apply @Exists.intro Sp
     | ((fail_if_success (with_reducible apply @Exists.intro (_ -> _))); (with_reducible first | apply Ol | apply Oj | apply Oi | apply Oh | apply Mi | apply Exists.intro)))
  | (refine And.intro ?_ ?_; fail "S")
  | ((try with_reducible first | refine Gf ?_ | refine Gg ?_); refine (by with_reducible assumption : Cut _ _ _) _ _ ?_))
local macro_rules | `(tactic| ext) => `(tactic| first | (fail "T"; ext) | refine And.intro ?_ ?_ | refine (?_ : @ite _ _ _ _ _) | skip)|`(tactic|ext$x:rintroPat$y:rintroPat*)=>`(tactic|(ext;rintro$x$y*))
local macro_rules | `(tactic| fail "F") => `(tactic| first | ((with_reducible apply Exists.intro); fail "F") | ((with_reducible refine And.intro ?_ ?_); fail "S"))
local macro_rules | `(tactic| fail "O") => `(tactic| first | (fail "T"; fail "O") | refine And.intro ?_ ?_ | ((first | (refine Or.inl ?_; fail "F") | (refine Or.inr ?_; fail "F")); fail "O") | refine (?_ : @ite _ _ _ _ _) | skip)
open L2 in
local macro_rules | `(tactic| fail "D") => `(tactic| repeat' first | exact Om | exact Ni | exact Ot | assumption | exact Nat.le_trans (by assumption) (by decide) | refine Oq ?_ | refine Oo ?_ ?_)
namespace L2
open PySem
structure dR(M:Yi Yh) (f:Yh) (H H':Hp):Prop where
 oth:∀b o,b∉M->b≠f->H b=Yb o->H' b=Yb o
 kt:Kt H H'
 ff:dc H' f
def dR.refl (d:dc H f):dR M f H H:=#[λ_ _ _ _ e=>e,Kt.refl,d]
def dR.ext (a:dR M f H H1)(e:Ext f H1 H2):dR M f H H2:=#[λb o g d h=>e.1 b o d (a.oth b o g d h),a.kt.trans (e.kt a.ff),e.2]
def dR.Z (a:dR M f H H1)(e:aR H1 H2):dR M f H H2:=#[λb o g d h=>e b o (a.oth b o g d h),a.kt.trans (Kt.Z e),let⟨p,q,h⟩:=a.ff;#[p,q,e _ _ h]]
def dR.trans (a:dR M f H H1)(b:dR M f H1 H2):dR M f H H2:=#[λc o e d h=>b.oth c o e d (a.oth c o e d h),a.kt.trans b.kt,b.ff]
def dR.upd {M:Yi Yh}{f:Yh}{H H1:Hp}{l:Yh}{us:Yi V}{o:HO}(a:dR M f H H1)(m:l∈M)(n:l≠f)(h:H1 l=Yb (.Y us)):dR M f H (upd H1 l o):=#[λb g d j e=>by let z:b≠l:=(λz=>d (by rw[z];calc m));rw[ay z];exact a.oth b g d j e,a.kt.trans (Kt.Y h o),let⟨p,q,e⟩:=a.ff;#[p,q,by rw[ay n.symm];calc e]]
def dR.Gh (a:dR M f H H1)(hn:H l=Yc)(n:l≠f)(h:H1 l=Yb (.Y us)):dR M f H (L2.upd H1 l o):=#[λb d j g e=>by rw[ay (au e hn)];exact a.oth b d j g e,a.kt.trans (Kt.Y h o),let⟨p,q,e⟩:=a.ff;#[p,q,by rw[ay n.symm];calc e]]
def dR.Iw (a:dR M f H H1)(hn:H l=Yc)(n:l≠f)(h:H1 l=Yb (.dK us)):dR M f H (L2.upd H1 l o):=#[λb d j g e=>by rw[ay (au e hn)];exact a.oth b d j g e,a.kt.trans (Kt.upd h ⋯ (λ_ _ z=>nomatch z) o),let⟨p,q,e⟩:=a.ff;#[p,q,by rw[ay n.symm];calc e]]
def dR.drop (a:dR (l::M) f H H1)(hn:H l=Yc):dR M f H H1:=#[λb o e d h=>a.oth b o (λz=>(L0.mp z).elim (λz=>by subst z;rw[hn]at h;cases h) e) d h,a.kt,a.ff]
def dR.more (a:dR M f H H1):dR (l::M) f H H1:=#[λb o e d h=>a.oth b o (λz=>e (.tail _ z)) d h,a.kt,a.ff]
def dR.sub (a:dR M f H H1)(h:∀z∈M,z∈M'):dR M' f H H1:=#[λb o g d e=>a.oth b o (λz=>g (h b z)) d e,a.kt,a.ff]
def dR.ex (a:dR [] f H H1):Ext f H H1:=#[λb o n h=>a.oth b o nofun n h,a.ff]
def Ext.uZ (d:dc H f)(e:Ext f H H1):dR M f H H1:=(dR.refl d).ext e
def dR.Dy (a:dR [] f H H1)(n:b≠f)(h:H b=Yb o):H1 b=Yb o:=a.oth b o nofun n h
def dR.iT (a:dR [l] f H H1)(d:b≠l)(n:b≠f)(h:H b=Yb o):H1 b=Yb o:=a.oth b o (λz=>d (tF.mp z)) n h
def dR.MT (a:dR [l,m] f H H1)(e:b≠l)(d:b≠m)(n:b≠f)(h:H b=Yb o):H1 b=Yb o:=a.oth b o (λz=>(L0.mp z).elim e λz=>d (tF.mp z)) n h
def dR.free (a:dR M f H H1)(d:H1 p=Yc)(g:p∉M):H p=Yc:=by
 cases e:H p with
 |none=>rfl
 |some o =>
  by_cases c:p=f
  .subst c;let(x,y,z):=a.ff;rw[z]at d;cases d
  .rw[a.oth p o g c e]at d;cases d
def bB (d:dc H f)(h:H l=Yc):l≠f:=λz=>by
 let(p,q,e):=d;rw[<-z,h]at e
 cases e
def gr (xs:Yi V)(n:Nat):iE xs Yc (Yb (n:Int))=xs.take n:=by
 unfold iE;rw[HT.kR,HT.tP,List.drop_zero,Nat.sub_zero];rcases Wa n xs.length with h|h
 .rw[Ri h]
 .rw[UT h,Py (i5 _),Py h]
def oz (xs:Yi V)(j:Nat):iE xs (Yb (j:Int)) Yc=xs.drop j:=by
 unfold iE;rw[HT.kR,HT.tP];rcases Wa j xs.length with h|h
 .rw[Ri h,Py (by rw[P6];omega)]
 .rw[UT h,RC h,RC (i5 _)];simp
def yG (xs:Yi V)(a b:Nat)(h:b<=xs.length)(d:a<=b):iE xs (Yb (a:Int)) (Yb (b:Int))=(xs.drop a).take (b-a):=by
 unfold iE;rw[HT.kR,HT.kR,Ri h,Ri ()]
def Gi {t:Nat}{R:V->Hp->Prop}(hi:o[i]?=Yb (Yb (.ref a)))(hj:o[j]?=Yb (Yb (.int (t:Int))))(T:bY K H a g)(lw:g.length<=100)(hm:∀d q,aR H d->(∀v e,aR d e->R v e->q v e)->G o d q)(hR:∀v D e,aR D e->R v D->R v e)(hc:∀d q,aR H d->q (.int (m:Int)) d->I o d q)(k:∀p v d,aR H d->R v d->bY K d p (g.take t++[v]++g.drop m)->Q (.ref p) d):
  BB (vU K) (BB (vU K) (Lg (Du K) (jt i) qf (yj (jt j))) (u9 (kh G tO))) (Lg (Du K) (jt i) (yj I) qf) o H Q:=by
 ext
 intro p1 D N O;rw[gr]at O
 ext
 calc hm _ _ N λv e M r2=>?_;let C:=O.Z M
 ext
 intro y z;let r:=ae z (.J [v]);let h3:bY K (upd e y (.J [v])) y [v]:=bY.of af;let B:=C.Z r;let r3:=hR _ _ _ r r2;generalize upd e y (.J [v])=H3 at r h3 B r3|-;let l3:(g.take t).length+[v].length<=lj:=small (by rw[x9];show _+1<=_;omega)
 ext
 intro p4 H4 L h4;let l:=(N.trans M).trans (r.trans L);let S:=T.Z l
 ext
 refine hc _ _ l ?_
 ext
 intro p5 H5 u Y;rw[oz]at Y;let Z:=h4.Z u;let l5:(g.take t++[v]).length+(g.drop m).length<=lj:=small (by rw[mu,x9,P6];show _+1+_<=_;omega)
 ext
 intro U H6 J X;calc k U v H6 ((l.trans u).trans J) (hR _ _ _ ((L.trans u).trans J) r3) X
def nw {Q:VK}(h:∀(p:Yh) (d:Hp),aR H d->d p=Yb o->H p=Yc->Q (.ref p) d):∀p,H p=Yc->Q (.ref p) (upd H p o):=λp e=>h p _ (ae e o) af e
def Rp.nw (e:d p=Yb (.J us))(s:aR H d)(r:bR K H xs us):Rp K d (.t xs) (.ref p):=Rp.t (bY.of e) (r.Z s)
end L2
open Lean in
nonrec def r2:List Name:=[`ok,`at',`kp,`bd,`lF,`rfl,`aB,`PySem.F.plainAttrs_list,`PySem.F.slot_list_append,`PySem.F.type_list_append,`BF,`kO,`K,`aA,`aD,`P,`w,`mg,`base,`f,`cdv,`A,`outer,`s,`E,`z_range,`wL]
open Lean in
nonrec def r3:List (Name × Name × Nat × List Nat):=[(`Z0,`eN,16,[1000,0,1,1001,1002,1003,2,204,101,3,4,4]),
 (`Z1,`di,5,[100,101,4]),
 (`Z2,`qd,9,[100,1,101,102,103,3,3,4,4]),
 (`Z3,`lW,99,[100,101,205,5,6]),
 (`Z4,`sa,6,[100,101,102,103,4,7,8]),
 (`Z5,`eI,5,[100,101]),
 (`Z6,`jD,99,[100,101,206,9]),
 (`Z7,`yk,12,[207,208,209,210,100,101,4,4,4,4,4]),
 (`Z8,`pY,8,[100,101,211]),
 (`Z9,`BE,9,[100,1,101,102,103,3,3,4,4]),
 (`Zb,`AJ,5,[100,212,205,205,101,4,4]),
 (`Zc,`di,99,[100,213]),
 (`Zd,`cA,3,[100]),
 (`Ze,`lJ,11,[100,101,102,103,205,205,205,10,104,105,11,106,12]),
 (`Zf,`pZ,5,[100,101,4]),
 (`Zg,`ou,8,[100,101,102,103]),
 (`Zh,`jD,7,[100,101,102,9]),
 (`Zi,`jV,99,[13,100,214,9]),
 (`Zj,`Jb,8,[100,205,101,102,103,12]),
 (`Zk,`eJ,5,[100]),
 (`Zl,`vc,99,[100,215,216,212,217,218,101,102,103,219,220,221,222,223,104,224]),
 (`Zm,`bU,8,[100,101,102]),
 (`Zn,`ou,99,[100,101,102,14]),
 (`Zo,`Ff,4,[100,4]),
 (`Zp,`cS,4,[100]),
 (`Zq,`dH,4,[100]),
 (`Zr,`vC,6,[1,225,100,4]),
 (`Zs,`pZ,99,[100,226])]
set_option hygiene false in
open Lean in
nonrec def r8:Nat->MacroM Term
 | 0=>`(hr.mono ())
 | 1=>`(by left)
 | 2=>`(.nil)
 | 3=>`(by decide)
 | 4=>`(by rfl)
 | 5=>`(Or.inl (by kernel_rfl))
 | 6=>`(by first|exact .inl rfl|exact .inr (by kernel_rfl))
 | 7=>`(by kernel_rfl)
 | 8=>`(by exact .inl rfl)
 | 9=>`(λ_ _=>rfl)
 | 10=>`(by decide)
 | 11=>`(λ_ _ _ _=>fZ)
 | 12=>`(by intro _;rfl)
 | 13=>`(gJ hr)
 | _=>`(bz _)
open Lean in
nonrec def r4 (f:Name)(a:Array Term):MacroM Term:=do
 let some (_,n,k,c):=r3.find? (·.1==f) | Macro.throwUnsupported
 let b←c.mapM λi=>do
  if i<100 then r8 i else if i<200 then return a.getD (i-100) ⟨.missing⟩ else if i<1000 then return mkIdent (r2.getD (i-200) .anonymous) else return mkIdent ((a.getD (i/1000-1) ⟨.missing⟩).raw.getId++r2.getD (i%1000) .anonymous)
 let b:=b.toArray
 if k==99 then `($(mkIdent n) $b*) else
 let h←`(_)
 let s:=Array.replicate k h
 `(@$(mkIdent n) $s* $b*)
local macro_rules|`($f:ident $a*)=>r4 f.getId (a.map λx=>⟨x.raw⟩)
set_option hygiene false in
open Lean in
nonrec def r5(f:Name)(a:Array Term):MacroM Term:=do
  if f==`Za then `(eu P w K mg base $a*)
  else if f==`Zt then `(cD P w K mg base $a*)
  else if f==`Zu then `(oS P w K mg base $a*)
  else if f==`Zv then `(CL P w K mg base $a*)
  else if f==`Zw then `(va (show Nm $(a[0]!) _ by left) $(a[1]!))
  else if f==`Zx then `(Z3 (i:=$(a[1]!)) (show($(a[0]!) :List Str).Nodup by decide))
  else if f==`Zy then `(aX "many_of_tag" (.ref $(a[0]!)) (aX "kind_of_tag" (.ref $(a[1]!)) (aX "kinds" (.ref $(a[2]!)) [])))
  else Macro.throwUnsupported
local macro_rules|`($f:ident $a*)=>r5 f.getId (a.map λx=>⟨x.raw⟩)
namespace G15
open PySem L2
meta def top(i:Nat):Stmt:=PySem.Challenge.pw_gapwork_k15_terms_amiss.main.body.getD i (.Pass #[0,0,0,0])
meta abbrev Gj:Stmt:=top 3
meta abbrev Dz:Stmt:=top 4
meta abbrev w6:Stmt:=top 5
meta abbrev jG:Stmt:=top 14
meta abbrev jx:Stmt:=top 15
meta abbrev oA:Stmt:=top 17
meta abbrev ku:Stmt:=top 18
meta abbrev j5:Stmt:=top 19
meta abbrev Gk:Stmt:=top 21
meta abbrev jH:Stmt:=top 22
meta abbrev kB:Stmt:=top 23
meta abbrev iY:Stmt:=top 24
meta abbrev iy:Stmt:=top 25
meta abbrev mz:Stmt:=top 26
meta abbrev jX:Stmt:=top 27
meta abbrev iN:Stmt:=top 28
meta abbrev jI:Stmt:=top 29
meta abbrev iZ:Stmt:=top 30
meta abbrev uu:Stmt:=top 32
meta abbrev uv:Stmt:=top 33
meta abbrev dh:Stmt:=top 34
meta abbrev dJ:Stmt:=top 35
meta abbrev j6:Stmt:=top 36
meta abbrev b7:Stmt:=top 37
meta abbrev ck:Stmt:=top 38
meta abbrev aW:Stmt:=top 39
meta abbrev aQ:Stmt:=top 40
meta abbrev kF:Stmt:=top 41
meta abbrev iz:Stmt:=top 42
meta abbrev gX:Stmt:=top 43
meta abbrev eV:Stmt:=top 44
meta abbrev dQ:Stmt:=top 45
meta abbrev fL:Stmt:=top 46
meta abbrev b8:Stmt:=top 47
meta abbrev i9:Stmt:=top 48
meta abbrev nN:Stmt:=top 49
meta abbrev gY:Stmt:=top 50
meta abbrev lN:Stmt:=top 51
meta abbrev nQ:Stmt:=top 52
meta abbrev iO:Stmt:=top 53
meta abbrev lQ:Stmt:=top 54
meta abbrev jJ:Stmt:=top 55
meta abbrev nR:Stmt:=top 56
def zS :aY ["_law_feed_here","_law_many_here","_law_digit","_law_one"] WQ (ak uv):=by ac_rfl
def Gm (F:jn K "_law_take" "_law_take" uv f r):Zt gz 1 f r WQ cU:=by
 refine F.ok zS (λt H Q E h=>?_) (λcdv A outer s H t Q E hr h=>?_)
 .have(a,m,rfl,_):=h;rfl
 let(a,m,rfl,g,u,(p,q,d),k):=h
 refine#[_,eI (pY (Zn rM (Z6 aZ (pv 0)) aB)
   (eI (lX (i:=2) zS.nd rfl (Or.inl rfl) (bU gE (Z6 aZ (pv 0)) (pv 1)))
   (eI (iD (bU sJ (Z6 aZ (pv 0)) (pv 1)) (pH (pv 0) aB set_list))
   (cA (cS (pv 2))))) kO)
  (eI (lX (i:=3) zS.nd rfl (Or.inl rfl) (bU gE (bU kY (Z6 aZ (pv 0)) aB) aB))
  (eI (iD (bU eg (bU gE (bU eg (bU kY (pv 3) aB) aB) aB) aB) (pH (pv 0) aB set_list))
  (cA (cS (bU gE (bU sJ (bU eg (bU kY (pv 3) aB) (Z6 aZ (pv 0))) aB) (pv 1)))))),?_]
 let ext:∀l j:Int,Ext a H (upd H a (.Y [.int l,.int j])):=λl j=>#[λb o n e=>by rw[ay n];calc e,l,j,af];calc#[_,rfl,a,_,0,_,rfl,rfl,bA.of d,rfl,_,_,rfl,rfl,_,rfl,?_];refine bP (λ_=>?_) (λ_=>?_)
 .refine#[_,rfl,a,_,0,_,rfl,rfl,bA.of d,rfl,_,rfl,_,_,rfl,rfl,g,?_];calc#[_,rfl,a,_,0,_,rfl,rfl,bA.of d,rfl,_,rfl,_,_,rfl,rfl,#[g,u],?_];calc#[_,rfl,a,_,0,0,rfl,rfl,d,rfl,?_];calc#[_,rfl,?_];exact k _ _ (Vh _ ()) (Ue _ g) (ext _ _)
 .refine#[_,rfl,a,_,1,_,rfl,rfl,bA.of d,rfl,_,_,rfl,rfl,.inr #[by decide,by decide],_,_,rfl,rfl,(by show(0:Int)<2147483647;decide),?_];calc#[_,rfl,_,_,rfl,rfl,.inr #[by decide,by decide],_,_,rfl,rfl,_,_,rfl,rfl,(by show(0:Int)<2147483399;decide),_,_,rfl,rfl,?_];calc#[_,rfl,a,_,1,1,rfl,rfl,d,rfl,?_];calc#[_,rfl,_,_,rfl,rfl,.inr #[by decide,by decide],_,rfl,a,_,1,_,rfl,rfl,bA.of af,rfl,_,_,rfl,rfl,_,_,rfl,rfl,#[by decide,by decide],_,rfl,_,_,rfl,rfl,g,?_];calc k _ _ (Vh _ ()) (Ue _ g) (ext _ _)
def qZ :aY ["_law_script","_law_k","_law_cell","_law_own"] X3 (ak uu):=by ac_rfl
def Gn (F:jn K "_law_feed" "_law_feed" uu f r)(o:mg "len"=Yc):Zt gz 1 f r X3 (Dq K):=by
 refine F.ok qZ (λu H Q E h=>?_) (λcdv A outer s H u Q E hr h=>?_)
 .have(a,ns,m,rfl,_):=h;rfl
 let(a,ns,k,rfl,j,C,y,B,g):=h
 refine#[_,eI (lX (i:=2) qZ.nd rfl (Or.inl rfl) (bU eg (bU kY aB (pv 1)) aB))
  (eI (pY (Zn oV (pv 1) (qd aM (by rfl) o OS (bJ (pv 0) aA)))
   (cA (lX (i:=2) qZ.nd rfl (Or.inl rfl) (jD aZ (pv 0) (pv 1) (λ_ _=>rfl))))
   (cA (pY (Zn rM (qd aM (by rfl) o OS (bJ (pv 0) aA)) aB)
    (cA (lX (i:=2) qZ.nd rfl (Or.inl rfl) (bU eg (bU kY (bU gE (jD aZ (pv 0) (bU gE (pv 1) (qd aM (by rfl) o OS (bJ (pv 0) aA))) (λ_ _=>rfl)) aB) aB) (bU kY aB (pv 1)))))
    kO)))
  (eI (lX (i:=3) qZ.nd rfl (Or.inl rfl) aB)
  (eI (pY (Zn Lc (pv 2) (bU Je aB aB)) (cA (lX (i:=3) qZ.nd rfl (Or.inl rfl) (pv 2))) kO)
  (cA (cS (dH (bJ (pv 3) (bJ (bU eg (bU gE (bU eg (bU kY (bU gE (pv 2) aB) aB) (bU kY aB (pv 1))) aB) aB) aA)))))))),?_]
 let e:(ns.map V.int).length=ns.length:=bM _;calc#[_,rfl,_,_,rfl,rfl,.inl #[by decide,by decide],_,_,rfl,rfl,?_];calc#[_,rfl,_,rfl,a,_,rfl,.inl j,_,_,rfl,rfl,_,rfl,?_];refine bP (λc=>?_) (λc=>?_)
 .have t:k<((ns.map V.int).length:Int):=of_decide_eq_true c;rw[e]at t;let(v,p):=AM (ns:=ns) y t;calc#[_,rfl,_,rfl,a,_,_,_,rfl,rfl,j,p,?_];refine#[_,rfl,_,_,rfl,rfl,#[by decide,by decide,by decide],_,_,rfl,rfl,_,rfl,bP (λ_=>?_) (λ_=>?_)]
  .refine#[_,rfl,_,rfl,_,rfl,_,_,rfl,rfl,(by show(0:Int)<2147483629;decide),_,_,rfl,rfl,.inr #[by decide,by decide],_,rfl,_,_,rfl,rfl,.inl #[by decide,by decide],_,_,rfl,rfl,_,_,rfl,rfl,(by show(0:Int)<2147483629;decide),_,_,rfl,rfl,(by show 2<=lj;decide),λl e=>?_];exact g l _ (ae e _) e #[_,_,af]
  .refine#[_,rfl,_,rfl,_,_,rfl,rfl,(by show(0:Int)<2147483629;decide),_,_,rfl,rfl,.inr #[by decide,by decide],_,rfl,_,_,rfl,rfl,.inl #[by decide,by decide],_,_,rfl,rfl,_,_,rfl,rfl,(by show(0:Int)<2147483629;decide),_,_,rfl,rfl,(by show 2<=lj;decide),λl e=>?_];exact g l _ (ae e _) e #[_,_,af]
 .refine#[_,rfl,a,_,rfl,.inl j,_,_,rfl,rfl,_,rfl,?_];refine bP (λd=>?_) (λd=>?_)
  .have q:(0:Int)<((ns.map V.int).length:Int):=of_decide_eq_true d;let z:(0:Int)<(ns.length:Int):=by rw[e]at q;exact q
   let(v,p):=AM (ns:=ns) (k:=k % (((ns.map V.int).length:Nat):Int)) (Vh _ ()) (by rw[e];calc Ue _ z);calc#[_,rfl,_,rfl,_,rfl,a,_,rfl,.inl j,_,_,rfl,rfl,q,a,_,_,_,rfl,rfl,j,p,_,_,rfl,rfl,(by show(0:Int)<2147483629;decide),_,_,rfl,rfl,.inr #[by decide,by decide],_,rfl,_,_,rfl,rfl,.inl #[by decide,by decide],_,_,rfl,rfl,?_];refine#[_,rfl,_,_,rfl,rfl,#[by decide,by decide,by decide],_,_,rfl,rfl,_,rfl,bP (λ_=>?_) (λ_=>?_)]
   .refine#[_,rfl,_,rfl,_,rfl,_,_,rfl,rfl,(by show(0:Int)<2147483629;decide),_,_,rfl,rfl,.inr #[by decide,by decide],_,rfl,_,_,rfl,rfl,.inl #[by decide,by decide],_,_,rfl,rfl,_,_,rfl,rfl,(by show(0:Int)<2147483629;decide),_,_,rfl,rfl,(by show 2<=lj;decide),λl e=>?_];exact g l _ (ae e _) e #[_,_,af]
   .refine#[_,rfl,_,rfl,_,_,rfl,rfl,(by show(0:Int)<2147483629;decide),_,_,rfl,rfl,.inr #[by decide,by decide],_,rfl,_,_,rfl,rfl,.inl #[by decide,by decide],_,_,rfl,rfl,_,_,rfl,rfl,(by show(0:Int)<2147483629;decide),_,_,rfl,rfl,(by show 2<=lj;decide),λl e=>?_];exact g l _ (ae e _) e #[_,_,af]
  .refine#[_,rfl,_,_,rfl,rfl,#[by decide,by decide,by decide],_,_,rfl,rfl,_,rfl,bP (λ_=>?_) (λ_=>?_)]
   .refine#[_,rfl,_,rfl,_,rfl,_,_,rfl,rfl,(by show(0:Int)<2147483629;decide),_,_,rfl,rfl,.inr #[by decide,by decide],_,rfl,_,_,rfl,rfl,.inl #[by decide,by decide],_,_,rfl,rfl,_,_,rfl,rfl,(by show(0:Int)<2147483629;decide),_,_,rfl,rfl,(by show 2<=lj;decide),λl e=>?_];exact g l _ (ae e _) e #[_,_,af]
   .refine#[_,rfl,_,rfl,_,_,rfl,rfl,(by show(0:Int)<2147483629;decide),_,_,rfl,rfl,.inr #[by decide,by decide],_,rfl,_,_,rfl,rfl,.inl #[by decide,by decide],_,_,rfl,rfl,_,_,rfl,rfl,(by show(0:Int)<2147483629;decide),_,_,rfl,rfl,(by show 2<=lj;decide),λl e=>?_];calc g l _ (ae e _) e #[_,_,af]
end G15
namespace L2
open PySem PySem.Spec PyProof.Rows
meta def rS(b:Bool)(h:Heap)(l:Yh)(xs:Array eF):Prop:=match b with|false=>h.IsList l xs|true=>h.IsTuple l xs
meta def qO(b:Bool)(h:Heap)(i l:Yh)(k:Nat):Prop:=match b with|false=>h.IsListIter i l k|true=>h.IsTupleIter i l k
def rS.at (x:rS b h l xs)(k:∀o,h.get? l=Yb o->h'.get? l=Yb o):rS b h' l xs:=by
 cases b with
 |false=>calc Heap.IsList.at (show h.IsList l xs from x) k
 |true=>let(o,e,r):=(show h.IsTuple l xs from x);calc#[o,k o e,r]
def qO.at (x:qO b h i l n)(k:∀o,h.get? i=Yb o->h'.get? i=Yb o):qO b h' i l n:=by
 cases b with
 |false=>calc Heap.IsListIter.at (show h.IsListIter i l n from x) k
 |true=>let(o,e,r):=(show h.IsTupleIter i l n from x);calc#[o,k o e,r]
def rS.extBut (x:rS b h l xs)(hs:Vu c h h')(d:l≠c):rS b h' l xs:=x.at λo e=>hs l o d e
def qO.extBut (x:qO b h i l n)(hs:Vu c h h')(d:i≠c):qO b h' i l n:=x.at λo e=>hs i o d e
def rS.got (x:rS b h l xs):∃o,h.get? l=Yb o:=by
 cases b with
 |false=>let(o,e,_):=(show h.IsList l xs from x);calc#[o,e]
 |true=>let(o,e,_):=(show h.IsTuple l xs from x);calc#[o,e]
def qO.got (x:qO b h i l n):∃o,h.get? i=Yb o:=by
 cases b with
 |false=>let(o,e,_):=(show h.IsListIter i l n from x);calc#[o,e]
 |true=>let(o,e,_):=(show h.IsTupleIter i l n from x);calc#[o,e]
def vg (d:s.heap.IsTupleIter it t i)(ht:s.heap.IsTuple t items)(m:items[i]?=Yb x)(hQ:∀h',h'.IsTupleIter it t (i+1)->Rk it s.heap h'->Q x {s with heap:=h'}):OH (OM prog w) A (Pp (.ref it)) Q E s:=by
 let(o,e,p,hd):=id d;let(q,g,_,r,j):=ht;let l:=d.typeIs;unfold Pp;calc cB (Qd (name:=PM "__next__") l Qu (QB Qu l Sx ?_ (Si _)));show OH _ _ (WJ (.ref it) 0>>=_) _ _ s;calc cB (Pw e hd (x:=.ref t) rfl ?_);show OH _ _ (if(Value.ref t == Value.none)=Yd then _ else _) _ _ s;rw[if_neg (show ¬((Value.ref t == Value.none)=Yd)from OP)];show OH _ _ (WJ (.ref it) 1>>=_) _ _ s;calc cB (Pw e hd (x:=.int i 0) rfl ?_);show OH _ _ (Wr (.ref t)>>=_) _ _ s;calc cB (Qv g j ?_);simp only[Qa,m];calc cB (SN e hd (by simp) (pC #[x,rfl,pC (hQ _ #[_,Ql _ e (SY (Sj hd _)),(Wb ..).trans p,?_] (VG ..))]));rw[Sj hd];simp[RK]
def w9 (p:A.handled=Yc)(d:s.heap.IsTupleIter it t i)(ht:s.heap.IsTuple t items)(r:items[i]?=Yc)(hE:∀h' e,Vu it s.heap h'->(∃o,h'.get? e=Yb o/\o.cls=.type "StopIteration")->E (.ref e) {s with heap:=h'}):OH (OM prog w) A (Pp (.ref it)) Q E s:=by
 let(o,j,y,hd):=id d;let(u,g,_,v,l):=ht;let q:=d.typeIs;unfold Pp;calc cB (Qd (name:=PM "__next__") q Qu (QB Qu q Sx ?_ (Si _)));show OH _ _ (WJ (.ref it) 0>>=_) _ _ s;calc cB (Pw j hd (x:=.ref t) rfl ?_);show OH _ _ (if(Value.ref t == Value.none)=Yd then _ else _) _ _ s;rw[if_neg (show ¬((Value.ref t == Value.none)=Yd)from OP)];show OH _ _ (WJ (.ref it) 1>>=_) _ _ s;calc cB (Pw j hd (x:=.int i 0) rfl ?_);show OH _ _ (Wr (.ref t)>>=_) _ _ s;calc cB (Qv g l ?_);simp only[Qa,r];calc cB (TV (cB (SN j hd (by simp) ?_)));show OH _ _ (newExc (.type "StopIteration") []>>=_) _ _ _;calc cB ?_;simp only[newExc,newTuple];calc cB (Pr ?_ (by size_fits));refine cB (m:=firstArgMember _ _) (wpAny_of_eq (a:=Value.none) (by first|rfl|(simp only[firstArgMember];rfl)) ?_)
 calc Pr ?_ (by size_fits);simp only[raiseNew];refine cB (wpAny_handled ?_)
 first|rw[show A.in1.handled=Yc from p]|rw[p]
 calc cB (pC (wpAny_throw ?_));calc hE _ _ (((VG ..).extBut.push _).push _) #[_,OI _ rfl,rfl]
def qu (d:qO b s.heap it l i)(g:rS b s.heap l items)(e:items[i]?=Yb x)(hQ:∀h',qO b h' it l (i+1)->Rk it s.heap h'->Q x {s with heap:=h'}):OH (OM prog w) A (Pp (.ref it)) Q E s:=by
 cases b with
 |false=>calc wpAny_nextOf_list_item d g e hQ
 |true=>calc vg d g e hQ
def xg (m:A.handled=Yc)(d:qO b s.heap it l i)(j:rS b s.heap l items)(g:items[i]?=Yc)(hE:∀h' e,Vu it s.heap h'->(∃o,h'.get? e=Yb o/\o.cls=.type "StopIteration")->E (.ref e) {s with heap:=h'}):OH (OM prog w) A (Pp (.ref it)) Q E s:=by
 cases b with
 |false=>calc wpAny_nextOf_list_end m d j g hE
 |true=>calc w9 m d j g hE
meta abbrev nS(b:Bool)(l:Yh):Obj:={cls:=.type (cond b "tuple_iterator" "list_iterator"),data:=.fields #[.ref l,.int 0 0,]}
def yH (d:rS b s.heap l items)(e:Q (.ref s⁻¹) {s with heap:=s.heap.push (nS b l)}):OH (OM prog w) A (Vo (.ref l)) Q E s:=by
 cases b with
 |false=>calc SA d e
 |true=>calc wpAny_pyIter_tuple d e
meta abbrev Mj(d:Bool)(h:Heap)(l1:Yh):Heap:=h.push (nS d l1)
meta abbrev Ml(e d:Bool)(h:Heap)(l1 l2:Yh):Heap:=(Mj e h l1).push (nS d l2)
meta abbrev Mm(d e:Bool)(h:Heap)(l1 l2:Yh):Heap:=(Ml d e h l1 l2).push {cls:=.type "tuple",data:=.seq #[.ref h.objs.size,.ref (Mj d h l1).objs.size,]}
meta abbrev Mn(e d:Bool)(h:Heap)(l1 l2:Yh):Heap:=(Mm e d h l1 l2).push {cls:=.type "tuple",data:=.seq #[.none,.none,]}
meta abbrev Jy(e d:Bool)(h:Heap)(l1 l2:Yh):Heap:=(Mn e d h l1 l2).push {cls:=.type "zip",data:=.fields #[.none,.bool Ye,.bool Ye,.ref (Ml e d h l1 l2).objs.size,.ref (Mm e d h l1 l2).objs.size,]}
def Jz (j l:Bool)(l1 l2:Yh)(xs ys:Array eF):
  Meets (Ry.«zip.__new__» #[[.type "zip",.ref l1,.ref l2],[]]) (λ_ R s=>rS j s.heap l1 xs/\rS l s.heap l2 ys/\R (.ok (.ret (.ref (Mn j l s.heap l1 l2).objs.size))) {s with heap:=Jy j l s.heap l1 l2}) :=
 .of_wp λu w A R s h=>by
  let(z,g,d,t,v):=s;let(p,m,h):=h;let y:=sub_zip;let r:rS j (Wx #[z,g,d,t,v]) l1 xs:=p;let q:rS l (Wx #[z.push (nS j l1),g,d,t,v]) l2 ys:=m.at λo e=>mH _ e
  wp_walk using yH r,yH q
  calc#[_,rfl,h]
def DA (e:h.get? i=Yb (nS b l)):qO b h i l 0:=by
 cases b with
 |false=>calc#[_,e,rfl,rfl]
 |true=>calc#[_,e,rfl,rfl]
def Gp (q:rS b1 s.heap l1 xs)(p:rS b2 s.heap l2 ys)(h:∀h',Vi h' (s⁻¹+4) (s⁻¹+2) (s⁻¹+3) .none->RL h' (s⁻¹+2) (.ref s⁻¹) (.ref (s⁻¹+1)) ->
   RL h' (s⁻¹+3) .none .none->qO b1 h' s⁻¹ l1 0->qO b2 h' (s⁻¹+1) l2 0->h'.objs.size=s⁻¹+5 ->
   (∀c o,s.heap.get? c=Yb o->h'.get? c=Yb o)->Q (.ref (s⁻¹+4)) {s with heap:=h'}):
  OH (OM prog w) A (call (.type "zip") [.ref l1,.ref l2]) Q E s:=by
 calc callType_new PySem.F.called_zip (by decide) (PySem.F.typeCall_zip_2 _ _) (PySem.F.newCall_zip_2 _ _) (λm=>PySem.F.args_object_init_3 m _ _) PySem.F.entry_zip_new (Jz b1 b2 l1 l2 xs ys) #[q,p,?_];let l:(Mj b1 s.heap l1).objs.size=s⁻¹+1:=PL ..;let j:(Ml b1 b2 s.heap l1 l2).objs.size=s⁻¹+2:=by rw[PL,l]
 let g:(Mm b1 b2 s.heap l1 l2).objs.size=s⁻¹+3:=by rw[PL,j]
 let d:(Mn b1 b2 s.heap l1 l2).objs.size=s⁻¹+4:=by rw[PL,g]
 let y:(Jy b1 b2 s.heap l1 l2).objs.size=s⁻¹+5:=by rw[PL,d]
 let up:∀{h:Heap}{c:Yh}{o:Obj}(x:Obj),h.get? c=Yb o->(h.push x).get? c=Yb o:=λx e=>mH _ e;let r:(Jy b1 b2 s.heap l1 l2).get? (Mn b1 b2 s.heap l1 l2).objs.size=Yb _:=OI _ rfl;let t:(Jy b1 b2 s.heap l1 l2).get? (Mm b1 b2 s.heap l1 l2).objs.size=Yb _:=up _ (OI _ rfl);let u:(Jy b1 b2 s.heap l1 l2).get? (Ml b1 b2 s.heap l1 l2).objs.size=Yb _:=up _ (up _ (OI _ rfl));let v:(Jy b1 b2 s.heap l1 l2).get? (Mj b1 s.heap l1).objs.size=Yb (nS b2 l2):=up _ (up _ (up _ (OI _ rfl)));let z:(Jy b1 b2 s.heap l1 l2).get? s⁻¹=Yb (nS b1 l1):=up _ (up _ (up _ (up _ (OI _ rfl))));show _/\_;rw[j,g,d]at r;rw[l,j]at u;rw[g]at t;rw[l]at v;rw[d];calc#[#[_,r,rfl],h _ r u t (DA z) (DA v) y λc o x=>up _ (up _ (up _ (up _ (up _ x))))]
def Gq {TI TO:Yh}(D:ZipApart z TI TO N M l1 l2)(Y:Vi s.heap z TI TO .none)(aj:RL s.heap TI (.ref N) (.ref M))(ai:RL s.heap TO a b)(h1:qO b1 s.heap N l1 k1)(h2:qO b2 s.heap M l2 k2)(hl1:rS b1 s.heap l1 xs)(hl2:rS b2 s.heap l2 ys)(hx:xs[k1]?=Yb x)(hy:ys[k2]?=Yb y)(hQ:∀h',Vi h' z TI TO (RK s⁻¹)->RL h' TO x y->qO b1 h' N l1 (k1+1)->qO b2 h' M l2 (k2+1)->RL h' s⁻¹ x y->h'.objs.size=s⁻¹+1 ->
   (∀c o,c≠z->c≠TO->c≠N->c≠M->s.heap.get? c=Yb o->h'.get? c=Yb o)->Q (Yb (.ref s⁻¹)) {s with heap:=h'}):
  OH (OM prog w) A (S4 (.ref z)) Q E s:=by
 let ah:s.TypeIs (.ref z) "zip":=#[_,Y,rfl];unfold S4;calc cB (UH (Qd (name:=PM "__next__") ah RN (QB RN ah Vb ?_ (UU _))));show OH _ _ (WJ (.ref z) 2>>=_) _ _ _;calc cB (Pw Y rfl (x:=.bool Ye) rfl ?_);show OH _ _ (WJ (.ref z) 3>>=_) _ _ _;calc cB (Pw Y rfl (x:=.ref TI) rfl (cB (Qv aj rfl ?_)));show OH _ _ (Qm (.ref z)>>=_) _ _ _;calc cB ?_;unfold Qm;calc cB (Pw Y rfl (x:=.none) rfl (pC ?_));simp only[if_true];calc cB (TV (cB (Pw Y rfl (x:=.ref TO) rfl ?_)));refine cB (Q8 Y (by simp) λad B g=>?_)
 replace B:Vi ad z TI TO .ellipsis:=B
 calc cB ?_;simp only[Ws,List.zipIdx_nil,Sd,SK];calc cB (cB (S9 ?_));show OH _ _ (Pp (.ref N)>>=_) _ _ _;calc cB (qu (h1.extBut g.extBut D.i1z) (hl1.extBut g.extBut D.l1z) hx λac W l=>pC ?_);let I:RL ac TO a b:=l.extBut _ _ D.TOi1 (g.extBut _ _ D.TOz ai);refine cB (Qv I rfl (cB (Tg I λab t j=>?_)))
 replace t:RL ab TO x b:=t
 calc cB (wpAny_letGo (pC ?_));calc cB (cB (S9 ?_));show OH _ _ (Pp (.ref M)>>=_) _ _ _;calc cB (qu (((h2.extBut g.extBut D.i2z).extBut l.extBut D.i12.symm).extBut j.extBut D.TOi2.symm) (((hl2.extBut g.extBut D.l2z).extBut l.extBut D.l2i1).extBut j.extBut D.l2TO) hy λaa U q=>pC ?_);let H:RL aa TO x b:=q.extBut _ _ D.TOi2 t;refine cB (Qv H rfl (cB (Tg H λd m p=>?_)))
 replace m:RL d TO x y:=m
 calc cB (wpAny_letGo (pC (pC (cB (Qv m rfl (cB (wpAny_newTuple ?_)))))));let ag:d.objs.size=s⁻¹:=by rw[p.1,q.1,j.1,l.1,g.1]
 let J:Vi d z TI TO .ellipsis:=p.extBut _ _ D.TOz.symm (q.extBut _ _ D.i2z.symm (j.extBut _ _ D.TOz.symm (l.extBut _ _ D.i1z.symm B)));let S:∀c o,c≠z->c≠TO->c≠N->c≠M->s.heap.get? c=Yb o->d.get? c=Yb o:=λc o X c2 c3 c4 e=>p.extBut _ _ c2 (q.extBut _ _ c4 (j.extBut _ _ c2 (l.extBut _ _ c3 (g.extBut _ _ X e))));let V:qO b1 d N l1 (k1+1):=((W.extBut j.extBut D.TOi1.symm).extBut q.extBut D.i12).extBut p.extBut D.TOi1.symm;let T:qO b2 d M l2 (k2+1):=U.extBut p.extBut D.TOi2.symm;let O:z<d.objs.size:=OG J;show OH _ _ (R5 (.ref z) (.ref d.objs.size)>>=_) _ _ _;calc cB ?_;unfold R5;let R:Vi (d.push {cls:=.type "tuple",data:=.seq #[x,y,]}) z TI TO .ellipsis:=mH _ J;refine cB (Q8 R (by simp) λZ v G=>?_)
 replace v:Vi Z z TI TO (RK d.objs.size):=v
 refine Q8 v (by simp) λu r C=>?_
 replace r:Vi u z TI TO (RK d.objs.size):=r
 let up:∀c o,c≠z->d.get? c=Yb o->u.get? c=Yb o:=λc o X e=>C.extBut _ _ X (G.extBut _ _ X (mH _ e));let L:RL u d.objs.size x y:=C.extBut _ _ (Sz O) (G.extBut _ _ (Sz O) (OI _ rfl));let ae:u.objs.size=d.objs.size+1:=by rw[C.1,G.1,PL]
 rw[ag]at r L ae;calc pC #[_,rfl,pC ?_];show Q (Yb (.ref d.objs.size)) _;rw[ag];calc hQ u r (up _ _ D.TOz m) (V.at λo e=>up _ o D.i1z e) (T.at λo e=>up _ o D.i2z e) L ae λc o X c2 c3 c4 e=>up c o X (S c o X c2 c3 c4 e)
def JA {TI TO:Yh}{V:Nat}(hh:A.handled=Yc)(D:ZipApart z TI TO I H l1 l2)(J:Vi s.heap z TI TO .none)(Z:RL s.heap TI (.ref I) (.ref H))(Y:RL s.heap TO a b)(h1:qO b1 s.heap I l1 W)(h2:qO b2 s.heap H l2 V)(hl1:rS b1 s.heap l1 xs)(hl2:rS b2 s.heap l2 ys)(hend:xs[W]?=Yc\/ys[V]?=Yc)(hQ:∀h',(∀c o,c≠z->c≠TO->c≠I->c≠H->s.heap.get? c=Yb o->h'.get? c=Yb o)->Q Yc {s with heap:=h'}):OH (OM prog w) A (S4 (.ref z)) Q E s:=by
 let O:s.TypeIs (.ref z) "zip":=#[_,J,rfl]
 let B:∀(h':Heap) (e:Yh),(∀c o,c≠z->c≠TO->c≠I->c≠H->s.heap.get? c=Yb o->h'.get? c=Yb o)->(∃o,h'.get? e=Yb o/\o.cls=.type "StopIteration") ->
   OH (OM prog w) A (do if(←V0 (.ref e) (.type "StopIteration"))then pure Yc else throw (.ref e)) Q E {s with heap:=h'}:=λh' e hk ⟨o,ho,hc⟩ =>
  cB (S6 (T:="StopIteration") (b:=Yd) #[o,ho,hc] isSubtype_stop (pC (hQ _ hk)))
 unfold S4;calc cB (UH (Qd (name:=PM "__next__") O RN (QB RN O Vb ?_ (UU _))));show OH _ _ (WJ (.ref z) 2>>=_) _ _ _;calc cB (Pw J rfl (x:=.bool Ye) rfl ?_);show OH _ _ (WJ (.ref z) 3>>=_) _ _ _;calc cB (Pw J rfl (x:=.ref TI) rfl (cB (Qv Z rfl ?_)));show OH _ _ (Qm (.ref z)>>=_) _ _ _;calc cB ?_;unfold Qm;calc cB (Pw J rfl (x:=.none) rfl (pC ?_));simp only[if_true];calc cB (TV (cB (Pw J rfl (x:=.ref TO) rfl ?_)));refine cB (Q8 J (by simp) λN l d=>?_)
 replace l:Vi N z TI TO .ellipsis:=l
 calc cB ?_;simp only[Ws,List.zipIdx_nil,Sd,SK];calc cB (cB (S9 ?_));show OH _ _ (Pp (.ref I)>>=_) _ _ _
 cases hx:xs[W]? with
 |none =>
  calc cB (xg hh (h1.extBut d.extBut D.i1z) (hl1.extBut d.extBut D.l1z) hx λq e g X=>?_);let(U,m,y):=X;let t:Vi q z TI TO .ellipsis:=g _ _ D.i1z.symm l;let G:e≠z:=λx=>by subst x;rw[t]at m;cases m;simp at y
  calc Q8 t (by simp) λC _ j=>B C e (λc o R _ c3 _ x=>j.extBut _ _ R (g _ _ c3 (d.extBut _ _ R x))) #[U,j.extBut _ _ G m,y]
 |some x =>
  let hy:ys[V]?=Yc:=by
   rcases hend with h|h
   .rw[hx]at h;cases h
   .exact h
  calc cB (qu (h1.extBut d.extBut D.i1z) (hl1.extBut d.extBut D.l1z) hx λq aa g=>pC ?_);let p:RL q TO a b:=g.extBut _ _ D.TOi1 (d.extBut _ _ D.TOz Y);calc cB (Qv p rfl (cB (Tg p λC S j=>?_)));calc cB (wpAny_letGo (pC ?_));calc cB (cB (S9 ?_));show OH _ _ (Pp (.ref H)>>=_) _ _ _;calc cB (xg hh (((h2.extBut d.extBut D.i2z).extBut g.extBut D.i12.symm).extBut j.extBut D.TOi2.symm) (((hl2.extBut d.extBut D.l2z).extBut g.extBut D.l2i1).extBut j.extBut D.l2TO) hy λM e v X=>?_);let(U,m,y):=X;let r:Vi M z TI TO .ellipsis:=v _ _ D.i2z.symm (j.extBut _ _ D.TOz.symm (g.extBut _ _ D.i1z.symm l));let G:e≠z:=λx=>by subst x;rw[r]at m;cases m;simp at y
  calc Q8 r (by simp) λL _ u=>B L e (λc o R c2 c3 c4 x=>u.extBut _ _ R (v _ _ c4 (j.extBut _ _ c2 (g.extBut _ _ c3 (d.extBut _ _ R x))))) #[U,u.extBut _ _ G m,y]
meta def nq(K:bN)(b:Bool)(H:Hp)(p:Yh)(xs:Yi V):Prop:=match b with|false=>bA K H p xs|true=>bY K H p xs
def mC (I:Inv X g q H s)(h:nq X.K c H p xs):∃d:List eF,Vals xs d/\rS c s.heap p d.toArray/\xs.length<=lj:=by
 cases c with
 |false =>
  let(d,j,l,m):=I.list h;calc#[d,j,l.isList,m]
 |true =>
  let(d,j,l,m):=I.tuple h;calc#[d,j,(show Heap.IsTuple _ _ _ by let(o,e,r):=l;calc#[o,e,r]),m]
def Inv.xh {j:Yi Yh}(I:Inv X pins σ H s)(l:∀b∈j,qb X pins H b)(k:∀b o,b∉j->s.heap.get? b=Yb o->h'.get? b=Yb o):Inv X pins σ H {s with heap:=h',toks:=t'}:=by
 let g:∀b u,H b=Yb u->b∉j:=λb u e z=>by rw[(l b z).1]at e;cases e
 let B:X.env.locals∉j:=λz=>(l _ z).2.1 rfl
 refine I.step (g':=s.gens) (d':=s.drawn) (ch:=j) (λb y=>?_) (λb o _ _ d e _=>k b o d e) (λb o _ _ d e _=>#[o.slots,k b o d e]) (λ_ _ _ _ n=>n)
  (λb o d e=>#[o,k b o d e]) (λ_ _ e=>e) (λ_ _ _ e=>e) (λb N e=>#[#[],by rw[e];simp]) (λm t=>?_) (λb u e=>?_) I.bare
 .have(_,J,_,G,D,C):=l b y;exact#[G,J,D,C]
 .have(o,L,M,p,r):=t;exact#[o,L,M,k _ o B p,r]
 .refine(I.hok b u e).stay (λc v d q=>k c v ?_ q) (λ_ q=>q) λ_ _ q=>q;rcases d with z|z
  .rw[z];exact g b u e
  .exact g c _ z
def Inv.xm {j:Yi Yh}(I:Inv X pins σ H s)(p:∀b∈j,qb X pins H b)(k:∀b o,b∉j->s.heap.get? b=Yb o->h'.get? b=Yb o)(t:s⁻¹<=a)(new:eS X.prog X.w (upd H a o) h' a o):
  Inv X pins σ (upd H a o) {s with heap:=h',toks:=t'}:=by
 let g:∀b u,H b=Yb u->b∉j:=λb u e z=>by rw[(p b z).1]at e;cases e
 let D:X.env.locals∉j:=λz=>(p _ z).2.1 rfl;let B:H a=Yc:=I.hok.fresh t;let up:∀b u,H b=Yb u->upd H a o b=Yb u:=λb u e=>by rw[ay (au e B)];exact e
 refine I.step (g':=s.gens) (d':=s.drawn) (ch:=j) (λb l=>?_) (λb o _ _ d e _=>k b o d e) (λb o _ _ d e _=>#[o.slots,k b o d e]) (λb R _ e n=>?_)
  (λb o d e=>#[o,k b o d e]) (λb _ e=>up b _ e) (λb _ _ e=>up b _ e) (λb Q e=>#[#[],by rw[up b _ e];simp]) (λm C=>?_) (λb u e=>?_) I.bare
 .have(_,M,_,L,J,G):=p b l;exact#[L,M,J,G]
 .rw[ay (OZ (OJ (OG e) t))];exact n
 .have(o,N,O,y,r):=C;exact#[o,N,O,k _ o D y,r]
 .by_cases l:b=a
  .subst l;rw[af]at e;cases e;exact new
  .rw[ay l]at e;calc(I.hok b u e).stay (λc v d q=>k c v ?_ q) (λc q=>up c _ q) λc _ q=>up c _ q;rcases d with z|z
   .rw[z];exact g b u e
   .exact g c _ z
meta def KN (K : bN) (j : Bool) (l1 : Yh) (g : Bool) (l2 : Yh) : It :=
  #[λi H => ∃ e d x y, nq K j H l1 e ∧ nq K g H l2 d ∧ e[i]? = Yb x ∧ d[i]? = Yb y,
   λi H v l => ∃ p x y, H p = Yc ∧ v = .ref p ∧ l = upd H p (.J [x, y]) ∧ (∀ e, nq K j H l1 e -> e[i]? = Yb x) ∧ ∀ d, nq K g H l2 d -> d[i]? = Yb y,
   λi H => ∃ e d, nq K j H l1 e ∧ nq K g H l2 d ∧ (e.length ≤ i ∨ d.length ≤ i)]
def nq.inj (I:Inv X d g H s)(h:nq X.K b H a xs)(e:nq X.K b H a ys):xs=ys:=by
 cases b with
 |false=>calc I.ye h e
 |true=>calc I.qS h e
def DB {K:bN}{T:Yi Expr}(z TI TO N M l1 l2:Yh)(D:ZipApart z TI TO N M l1 l2):Turn P w K (.Tuple T x1 pos) (KN K b1 l1 b2 l2) [z,TI,TO,N,M] z
  (λi h=>Vi h z TI TO .none/\RL h TI (.ref N) (.ref M)/\(∃a b,RL h TO a b)/\qO b1 h N l1 i/\qO b2 h M l2 i) where
 mem:=by simp
 obj:=λi h r b j=>by
  let(C,g,(a,c,m),J,G):=r
  let R:∀{b:Bool}{i l:Yh}{k:Nat},qO b h i l k->∃o,h.get? i=Yb o/\∀v,o.data≠.cell v:=λ{b i l k} q=>by
   cases b with
   |false=>let(o,e,_,d):=(show h.IsListIter i l k from q);calc#[o,e,λv z=>by rw[d]at z;cases z]
   |true=>let(o,e,_,d):=(show h.IsTupleIter i l k from q);exact#[o,e,λv z=>by rw[d]at z;cases z]
  simp only[L0,O3,or_false]at j;rcases j with rfl|rfl|rfl|rfl|rfl
  .exact#[_,C,λv z=>by cases z]
  .exact#[_,g,λv z=>by cases z]
  .exact#[_,m,λv z=>by cases z]
  .exact R J
  .exact R G
 keep:=λi h h' r k=>by
  let(C,g,(a,c,m),J,G):=r;exact#[k z (by simp) _ C,k TI (by simp) _ g,#[a,c,k TO (by simp) _ m],J.at λo e=>k N (by simp) o e,G.at λo e=>k M (by simp) o e]
 item:=by
  intro X hP hw hK hc i Q s σ H E I Y r hg;subst hP hw hK;let(xs,ys,x,y,B,t,hx,hy):=hg;let(C,g,(a,c,m),J,G):=r;let(ab,rv,p1,_):=mC I B;let(aa,L,p2,_):=mC I t;let(u,hu,ru):=rv.get hx;let(v,hv,Z):=L.get hy;calc Gq D C g m J G p1 p2 (x:=u) (y:=v) (by simpa using hu) (by simpa using hv) λh' a1 a2 a3 a4 a5 a6 V=>?_;refine#[.ref s⁻¹,rfl,wpAny_letOwnedTupleGo_zip (s:={s with heap:=h'}) a1 λS ac p=>?_]
  let np:∀b∈[z,TI,TO,N,M],b≠s⁻¹:=λb j e=>by
   obtain⟨o,e2⟩:∃o,s.heap.get? b=Yb o:=by
    simp only[L0,O3,or_false]at j;rcases j with rfl|rfl|rfl|rfl|rfl
    .exact#[_,C]
    .exact#[_,g]
    .exact#[_,m]
    .exact J.got
    .exact G.got
   let:=OG e2;rw[e]at this;exact PN _ this
  let kk:∀b o,b∉[z,TI,TO,N,M]->s.heap.get? b=Yb o->S.get? b=Yb o:=λb o j e=>by
   simp only[L0,O3,or_false,not_or]at j;let(n1,n2,n3,n4,n5):=j;exact p.extBut _ _ n1 (V b o n1 n3 n4 n5 e)
  let U:RL S s⁻¹ u v:=p.extBut _ _ (np z (by simp)).symm a5
  refine#[.ref s⁻¹,upd H s⁻¹ (.J [x,y]),I.xm (t':=s.toks) Y kk (i5 _) #[(by show 2<=lj;decide),_,.cons ru (.cons Z .nil),#[_,U,rfl,_,rfl],_,U,rfl],rfl,
   #[_,x,y,I.hok.fresh (i5 _),rfl,rfl,λzs O=>by rw[nq.inj I O B];calc hx,λzs O=>by rw[nq.inj I O t];calc hy],?_,λb j=>?_]
  .exact#[ac,p.extBut _ _ D.TIz (V TI _ D.TIz D.TITO D.TIi1 D.TIi2 g),#[u,v,p.extBut _ _ D.TOz a2],a3.extBut p.extBut D.i1z,a4.extBut p.extBut D.i2z]
  .rw[ay (np b j)];exact(Y b j).1
 done:=by
  intro X hP hw hK hc i Q s σ H E I Y r hg;subst hP hw hK;let(xs,ys,B,t,hl):=hg;let(C,g,(a,c,m),J,G):=r;let(ab,rv,p1,_):=mC I B;let(aa,L,p2,_):=mC I t;let e1:=rv.length;let e2:=L.length;refine JA (I.ok.hd hc) D C g m J G p1 p2 ?_ λh' V=>#[rfl,I.xh (t':=s.toks) Y λb o j e=>?_]
  .rcases hl with hl|hl
   .refine .inl ?_;simp;omega
   .refine .inr ?_;simp;omega
  .simp only[L0,O3,or_false,not_or]at j;exact V b o j.1 j.2.2.1 j.2.2.2.1 j.2.2.2.2 e
 self:=λ_ _ _ _ _ r h=>wpAny_pyIter_zip r.1 h
meta def MU(K:bN)(t:TA):TI:=λj H R=>t j H λo d=>∃g e p q m l,o=[.ref p,.ref q]/\nq K g d p m/\nq K e d q l/\R (KN K g p e q) d
def DC (K:bN)(hK:X.K=K)(hg:Gl X "zip")(hm:X.mg "zip"=Yc)(ha:PA X [a,b] t)(he:PB [a,b] X.env=(Ye,eval a X.env)::PB [b] X.env:=by rfl)(hpl:(TM v (PB [b] X.env)).any (·.1)=Ye:=by rfl):PI X (.Tuple m M pos) (.Call (.Name "zip" O) [a,b] [] v) (MU K t):=by
 subst hK;intro j s L H R I h;calc QA (qR I hg hm boot_zip ?_ (by decide) (by decide));calc QU ?_ he hpl;calc cX (ha v j s L H _ I h) λus d ⟨vs,H1,o,r,q1⟩=>?_;let(c1,c2,p,q,xs,ys,rfl,Y,V,hq):=q1;let(u,w',rfl,r,r2):=vals2 r
 cases r
 cases r2
 let(U,rv,C,_):=mC o Y;let(T,N,B,_):=mC o V;let S:@LT.lt Nat _ p d⁻¹:=by let(_,e):=C.got;exact OG e
 let Q:@LT.lt Nat _ q d⁻¹:=by let(_,e):=B.got;exact OG e
 refine Gp C B λg G z y h1 h2 Z hk=>?_
 let D:ZipApart (d⁻¹+4) (d⁻¹+2) (d⁻¹+3) d⁻¹ (d⁻¹+1) p q:=by
  refine#[?_,?_,?_,?_,?_,?_,?_,?_,?_,?_,?_,?_,?_,?_,?_,?_,?_,?_]<;>(show @Ne Nat _ _;omega)
 calc wpAny_pyIter_zip (s:={d with heap:=g}) G ?_;refine#[d⁻¹+4,[d⁻¹+4,d⁻¹+2,d⁻¹+3,d⁻¹,d⁻¹+1],_,_,H1,rfl,o.kept (t':=d.toks) hk,DB _ _ _ _ _ p q D,#[G,z,#[_,_,y],h1,h2],λb J=>?_,hq]
 let l:d⁻¹<=b:=by
  simp only[L0,O3,or_false]at J;rcases J with rfl|rfl|rfl|rfl|rfl
  .exact Q2 _ 4
  .exact Q2 _ 2
  .exact Q2 _ 3
  .exact i5 _
  .exact Q2 _ 1
 calc o.By l (o.hok.fresh l)
def Gr {K:bN}{g:TG}{C:TS}{D:Ends}(j:Nat->St->Hp->Prop)(S:j 0 d H)(z:∀i d H,i<=min xs.length ys.length->j i d H->nq K r H a xs)(v:∀i d H,i<=min xs.length ys.length->j i d H->nq K q H b ys)(hs:∀i x y d H p,xs[i]?=Yb x->ys[i]?=Yb y->j i d H->H p=Yc->g (.ref p) d (upd H p (.J [x,y])) λl B=>C {D with nx:=j (i+1),ct:=j (i+1),bk:=D.nx} l B)(hd:∀d H,j (min xs.length ys.length) d H->D.nx d H):
  ∃W:Nat->Nat->St->Hp->Prop,(∃m,W 0 m d H)/\∀i m d H,W i m d H ->
   ((KN K r a q b).stop i H/\D.nx d H)\/((KN K r a q b).go i H/\∃N:St->Hp->Prop,(∀σ' o,N σ' o->∃m',m' < m/\W (i+1) m' σ' o)/\∀x o,(KN K r a q b).yld i H x o->g x d o λl B=>C {D with nx:=N,ct:=N,bk:=D.nx} l B):=by
 generalize hn:min xs.length ys.length=n at *;calc#[λi m d H=>m=n-i/\i<=n/\j i d H,#[n,by simp,ON _,S],?_];rintro i m d H ⟨rfl,G,p⟩;let q1:=z i d H G p;let t:=v i d H G p
 by_cases u:i<n
 .have Q:i<xs.length:=()
  let O:i<ys.length:=()
  calc .inr #[#[xs,ys,xs[i],ys[i],q1,t,by simp[Q],by simp[O]],j (i+1),λσ' o M=>#[n - (i+1),(),rfl,u,M],λx o y=>?_];let(L,J,I,R,rfl,rfl,U,T):=y;exact hs i J I d H L (U xs q1) (T ys t) p R
 .have e:i=n:=()
  subst e;calc .inl #[#[xs,ys,q1,t,()],hd d H p]
def DE {K:bN}(j:Nat->St->Yi V->Hp->Prop)(G:j 0 σ0 [] H0)(l:∀i d vs H,i<=min xs.length ys.length->j i d vs H->vs.length<=i)(hn:min xs.length ys.length<=lj)(hl1:∀i d vs H,i<=min xs.length ys.length->j i d vs H->nq K q H a xs)(hl2:∀i d vs H,i<=min xs.length ys.length->j i d vs H->nq K o H b ys)(hs:∀i x y d vs H p,xs[i]?=Yb x->ys[i]?=Yb y->j i d vs H->H p=Yc->g (.ref p) d (upd H p (.J [x,y])) λe M=>tt e M λok r=>if ok=Yd then te e r λv L=>j (i+1) e (vs++[v]) L else j (i+1) e vs r)(hd:∀d vs H,j (min xs.length ys.length) d vs H->∀p,H p=Yc->Q (.ref p) (upd H p (.Y vs))):lI (KN K q a o b) g tt te Q σ0 H0:=by
 refine sN (min xs.length ys.length) j G l hn (λi d vs H m p=>?_) (λd vs H p=>#[xs,ys,hl1 _ d vs H (i5 _) p,hl2 _ d vs H (i5 _) p,()]) (λi d vs H x N m p y=>?_) hd
 .have C:i<xs.length:=()
  let B:i<ys.length:=()
  exact#[xs,ys,xs[i],ys[i],hl1 i d vs H (O7 m) p,hl2 i d vs H (O7 m) p,by simp[C],by simp[B]]
 .have(z,u,t,D,rfl,rfl,J,I):=y;calc hs i u t d vs H z (J xs (hl1 i d vs H (O7 m) p)) (I ys (hl2 i d vs H (O7 m) p)) p D
end L2
namespace G15
open PySem L2
def uw {ns:Yi Int}:nh (.int n) (ns.map V.int)=decide (n∈ns):=by
 unfold nh
 by_cases h:n∈ns
 .rw[decide_eq_true h,Wt];exact#[.int n,O6 h,show(n == n)=Yd from beq_self_eq_true n]
 .rw[decide_eq_false h,SD];intro y g e;let(z,d,rfl):=O2.mp g;let:z=n:=QF (show(z == n)=Yd from e);calc h (this▸d)
def kG {xs:Yi Yg}:nh (.str x) (xs.map V.str)=decide (x∈xs):=by
 unfold nh
 by_cases h:x∈xs
 .rw[decide_eq_true h,Wt];exact#[.str x,O6 h,show(x == x)=Yd from beq_self_eq_true x]
 .rw[decide_eq_false h,SD];intro y g e;let(z,d,rfl):=O2.mp g;let:z=x:=QF (show(z == x)=Yd from e);calc h (this▸d)
def rg (ns:Yi Int):(ns.map V.int).all oW=Yd:=by
 rw[Pj];intro y d;let(z,_,rfl):=O2.mp d;rfl
def iP (xs:Yi Yg):(xs.map V.str).all oW=Yd:=by
 rw[Pj];intro y d;let(z,_,rfl):=O2.mp d;rfl
meta def cJ(d:Yi Yg):Yi Yg->Option Yg
 | []=>Yc
 |x::r=>if x∈d then Yb x else cJ (d++[x]) r
def yI {xs:Yi Yg}(h:xs[i]?=Yb x):cJ (xs.take i) (xs.drop i)=if x∈xs.take i then Yb x else cJ (xs.take (i+1)) (xs.drop (i+1)):=by
 let d:=(bH.mp h).1;let g:xs.drop i=x::xs.drop (i+1):=by rw[O5 d,(bH.mp h).2]
 let e:xs.take (i+1)=xs.take i++[x]:=by rw[i3 d,(bH.mp h).2]
 rw[g,e];rfl
def yJ (h:nq K b H p xs)(s:aR H d):nq K b d p xs:=by
 cases b with
 |false=>calc s.seq (show bA K H p xs from h)
 |true=>calc bY.Z s (show bY K H p xs from h)
end G15
namespace L2
open PySem PySem.Spec PyProof.Rows
def sF {os:OsState}(F:ExcBaseFacts B newId initId bmB)(T:OwnTail h bmB bm)(hC:h.get? C=Yb (RV nm q C N bs bm hdct sn sub ab col dd k0 k1 k2 k3 k5 newId))(hn:h.Ns N G)(hi:G "__init__"=Yb (.ref z))(hfI:h.get? z=Yb D)(hfc:D.cls=.type "function")(hq:∀h' e,Heap.MadeExcOf h h' e (.ref C) rest->h.objs.size<=e ->
   OH (OM prog w) A (call (.ref z) (.ref e::rest)) (λr s'=>r=.none/\Q (.done (.ret (.ref e))) s') E #[h',g,d,t,os])(hrest:rest.length<=lj):
  OH (OM prog w) A (Ry.«type.__call__» #[.ref C::rest,[]]) Q E #[h,g,d,t,os]:=by
 repeat (first|with_reducible calc QG hC ?_|with_reducible calc wpAny_madeBy_exc hC ?_|wp_step)
 calc codeAny_call_builtin_code (V1 _ F.quiet) (wpAny_check_new_subT F T hC ?_);calc codeAny_exc_new_subT F T hC ?_ hrest;show OH _ _ _ _ _ _;generalize ee:({cls:=.ref C,data:=.fields #[.ref h.objs.size,.none,.none,.none,.bool Ye,.none,]}:Obj)=oe;let kp:∀b o,h.get? b=Yb o->((h.push {cls:=.type "tuple",data:=.seq rest.toArray}).push oe).get? b=Yb o:=λb o e=>mH _ (mH _ e);let j:=kp _ _ hC;let l:=kp _ _ hfI;let p:=hn.keeps kp;let u:=T.keeps kp
 let m:((h.push {cls:=.type "tuple",data:=.seq rest.toArray}).push oe).get? (h.objs.size+1)=Yb oe:=by
  subst ee
  heap_get
 let v:oe.cls=.ref C:=by rw[<-ee]
 let y:(Value.ref C::bm).contains (.ref C)=Yd:=by simp
 unfold V0
 repeat (first|(with_reducible calc QG m ?_;rw[v])|(with_reducible calc R6 j ?_;rw[y])|wp_step)
 show OH _ _ (typeLookup (.ref C) _) _ _ _;calc wpAny_typeLookup_tail j p u F.mroIs F.init.lookup ?_;rw[hi];calc PY (cB ?_);unfold bindSpecial;calc cB (TJ (T:="function") #[_,l,hfc] ?_);rw[if_pos (by decide)];refine pC (cB (O1 (hq _ (h.objs.size+1) #[kp,Td (Pc _),h.objs.size,by rw[m,<-ee],Td (i5 _),?_] (Pc _)) (λr s' hr=>?_) λ_ _ x=>x))
 .exact mH _ (Wc rfl rfl)
 .have(rfl,H):=hr
  wp_walk
  calc H
def zT {os:OsState}(F:ExcBaseFacts B newId initId bmB)(T:OwnTail h bmB bm)(hC:h.get? C=Yb (RV nm q C N bs bm hdct sn sub ab col dd k0 k1 k2 k3 k5 newId))(hn:h.Ns N m)(hi:m "__init__"=Yb (.ref j))(hfI:h.get? j=Yb l)(hfc:l.cls=.type "function")(hq:∀h' e,Heap.MadeExcOf h h' e (.ref C) rest->h.objs.size<=e ->
   OH (OM prog w) (A.under (.builtin "type.__call__" #[.ref C::rest,[]])) (call (.ref j) (.ref e::rest)) (λr s'=>r=.none/\Q (.ref e) s') E #[h',g,d,t,os])(hrest:rest.length<=lj):
  OH (OM prog w) A (call (.ref C) rest) Q E #[h,g,d,t,os]:=by
 let y:=tc_lookup;let v:=tc_bind (.ref C);let u:(#[h,g,d,t,os]:fy).TypeIs (.ref C) "type":=#[_,hC,rfl];calc TZ (codeAny_of_tree ?_);show OH _ _ (callAny (.ref C) _) _ _ _
 repeat (any_goals (first|assumption|with_reducible calc QG hC ?_|wp_step))
 calc#[rfl,?_];exact codeAny_call_builtin_at (V1 _ (by decide)) entry_typeCall (wpAny_check_type_call_sub hC (sF F T hC hn hi hfI hfc (λh' e p o=>hq h' e p o) hrest))
open PySem.W
meta abbrev ja:List eF:=[.type "ValueError",.type "Exception",.type "BaseException",.type "object"]
meta def cR:List eF->Bool
 |.ref _::r=>cR r
 |l=>l == ja
def rT :cR (.ref c::r)=cR r:=rfl
theorem ux (d:eF):∀{l:List eF},cR l=Yd->refuseLoop d "__setattr__" l=pure Unit.unit
 |.ref c::r,e=>by rw[refuseLoop_ref];calc ux d (by rw[rT]at e;calc e)
 | [],e=>by cases e
 |.type n::r,e=>by
  let g:(.type n::r:List eF)=ja:=by unfold cR at e;exact beq_iff_eq.mp e
  rw[g];calc PySem.F.store_ValueError.passes d
 |.none::r,e=>by unfold cR at e;cases e
 |.bool _::r,e=>by unfold cR at e;cases e
 |.int _ _::r,e=>by unfold cR at e;cases e
 |.str _ _::r,e=>by unfold cR at e;cases e
 |.bytes _ _::r,e=>by unfold cR at e;cases e
 |.float _ _::r,e=>by unfold cR at e;cases e
 |.builtin _::r,e=>by unfold cR at e;cases e
 |.ellipsis::r,e=>by unfold cR at e;cases e
open Builtin Builtin.ObjectAttr
theorem rV :∀{l:List eF},cR l=Yd->l.contains (.type "object")=Yd/\l.isEmpty=Ye
 |.ref c::r,e=>by rw[rT]at e;rw[Q9,(rV e).1,TL];calc#[rfl,rfl]
 | [],e=>by cases e
 |.type n::r,e=>by
  let d:(.type n::r:List eF)=ja:=by unfold cR at e;exact beq_iff_eq.mp e
  rw[d];calc#[by decide,rfl]
 |.none::r,e=>by unfold cR at e;cases e
 |.bool _::r,e=>by unfold cR at e;cases e
 |.int _ _::r,e=>by unfold cR at e;cases e
 |.str _ _::r,e=>by unfold cR at e;cases e
 |.bytes _ _::r,e=>by unfold cR at e;cases e
 |.float _ _::r,e=>by unfold cR at e;cases e
 |.builtin _::r,e=>by unfold cR at e;cases e
 |.ellipsis::r,e=>by unfold cR at e;cases e
meta def sQ(K:Frag)(C:Yh):Bool:=(clsIn K C).any λd=>cR d.mro&&d.hasDict
meta def iA(w:OR)(name:Yg)(d:Tok)(v:eF):Obj:=Obj.putName name (Ug w.params name) (.str name d) v {cls:=.type "dict",data:=.dict #[]}
def rW (w:OR)(name:Yg)(d:Tok)(v:eF):∃n,(iA w name d v).data=.dict #[#[Ug w.params name,.str name d,v],] n/\(iA w name d v).cls=.type "dict"/\(iA w name d v).dict=Yc:=by
 refine#[1,?_,?_,?_]<;>rfl
def Gs {K:Frag}(X:K.In s.heap)(I:InstAt s.heap x ox C Yc)(hp:sQ K C=Yd)(ht:SR K C name=Yb Yc)(go:∀h',h'.get? x=Yb {ox with dict:=Yb s⁻¹}->h'.get? s⁻¹=Yb (iA w name s.toks v)->(∀b o,b≠x->s.heap.get? b=Yb o->h'.get? b=Yb o) ->
   s⁻¹<h'.objs.size->R (.ok (.ret .none)) {s with heap:=h',toks:=s.toks+1}):
  Qs (OM prog w) A (.call (.builtin "object.__setattr__") #[[.ref x,.str name u,v],[]]) R s:=by
 let(j,g,d,t,Y):=s;dsimp only at X I go;let B:=PySem.F.store_object;let(cd,S,N):=any_some hp;let(Z,Q):=Bool.and_eq_true_iff.mp N;let q:=rV Z
 let M:Looks (OM prog w) j (V0 (.ref x) (.type "object")) Yd :=
  I.type.andThen (looks_mroIn X (by unfold mroIn;rw[S,Q3,if_neg (by rw[q.2];decide),q.1]))
 let G:=@check_slot (OM prog w) A.in1 (λe p=>R (.error e) p) #[j,g,d,t,Y] "object.__setattr__" "object" "__setattr__" (.ref x) [.str name u,v] [];calc codeAny_call_builtin B.slot.plain B.entry (G B.kind B.split M (B.args (.ref x) (.str name u) v) ?_);clear G;let(m,ha,hr):=UW.mp ht;let hm:Looks (OM prog w) j (mroOf (.ref C)) cd.mro:=(looks_clsIn X S).andThen .now
 let J:Looks (OM prog w) j (storeTaker? m) Yc:=by
  match m,hr with
  |none,_=>calc .now
  |some a,hr =>
   let(b,T,e):=ri.mp hr;refine(looks_takesIn X T).andThen ?_
   cases b
   .exact .now
   .cases e
 rw[osa_eq,refuse_eq];calc cB (cB (I.type.here (cB (hm.here ?_))));rw[ux _ Z];calc pC (cB (I.type.here (cB ((Wd X ha).here (cB (J.here ?_))))));let(H,D,hn,z):=I;let(oc,L,r,aa):=ox;dsimp only at D z;subst D
 cases L with
 |some _=>calc z.elim
 |none =>
 calc cB (pC (cB (cB (TY H (cB ((looks_clsIn X S).here ?_))))));rw[Q];let nc:∀c,r≠.cls c:=by intro c e;rw[e]at hn;cases hn
 generalize eD:({cls:=.type "dict",data:=.dict #[]}:Obj)=oD;let W:=mH oD H;let V:x≠j.objs.size:=OZ (OG H)
 let fin:OH (OM prog w) A.in1 (alloc oD>>=λdx=>(update x λo=>{o with dict:=Yb dx})>>=λ_=>pure (Yb dx)) (λod y =>
   OH (OM prog w) A.in1 (match od with|some d=>storeInDict d (.str name u) name v|none=>noDictFor (.ref x) (.ref C) name m.isSome)
    (λfin p=>match fin with|.done f=>R (.ok f) p|.again c'=>c'.quiet=Yd/\Qs (OM prog w) A c' R p) (λe p=>R (.error e) p) y) (λe p=>R (.error e) p) #[j,g,d,t,Y]:=by
  calc cB (wpAny_alloc' ?_);calc cB (wpAny_update' W ?_);refine pC ?_
  let l:((j.push oD).update x λo=>{o with dict:=Yb j.objs.size}).get? j.objs.size=Yb oD :=
   (R7 _ _ _ _ V.symm).trans (Wc rfl (by rw[<-eD];rfl))
  show OH _ _ (storeInDict j.objs.size (.str name u) name v) _ _ _;calc cB (pC (cB ?_));unfold nsSet;calc cB (cB (wpAny_askSetting (pC (cB (We (cB (TY l ?_)))))));rw[<-eD]at l|-;dsimp only;rw[aRefKeyMayBeTheName_at];rw[if_neg (by simp)];calc wpAny_updatePart' l ?_;generalize eU:((j.push {cls:=.type "dict",data:=.dict #[]}).update x λo=>{o with dict:=Yb j.objs.size})=h2;rw[eU]at l;let hf:(iA w name t v).isFreed=Ye:=rfl;let U:(h2.update j.objs.size (Obj.putName name (Ug w.params name) (.str name t) v)).get? j.objs.size=Yb (iA w name t v):=Ql _ l hf;obtain⟨n,q1,-,-⟩:=rW w name t v;calc cB (wpAny_lookBehind U (by rw[q1];calc pastItsLine_dict (by rw[RS];calc Nat.le_add_left 1 _)) ?_);refine pC (go _ ?_ U ?_ ?_)
  .refine(R7 _ _ _ _ V).trans ?_;rw[<-eU,eD];calc Ql _ W ?_;let O:=(Heap.get?_some_iff.mp H).2
   cases r<;>first|rfl|exact O
  .intro b o T e;calc(R7 _ _ _ _ (OZ (OG e))).trans ?_;rw[<-eU,eD];exact(R7 _ _ _ _ T).trans (mH _ e)
  .exact OG U
 cases r with
 |cls c=>calc absurd rfl (nc c)
 |_=>calc fin
def Gu {K:Frag}(X:K.In s.heap)(I:InstAt s.heap x ox C Yc)(d:sQ K C=Yd)(ht:SR K C name=Yb Yc)(hs:PJ K (.ref C) "__setattr__"=Yb (Yb (.builtin "object.__setattr__")))(go:∀h',h'.get? x=Yb {ox with dict:=Yb s⁻¹}->h'.get? s⁻¹=Yb (iA w name (s.toks+1) v)->(∀b o,b≠x->s.heap.get? b=Yb o->h'.get? b=Yb o) ->
   s⁻¹<h'.objs.size->Q Unit.unit {s with heap:=h',toks:=s.toks+1+1}):
  OH (OM prog w) A (setAttr (.ref x) name v) Q E s :=
 set_plain X I hs (Gs (s:={s with toks:=s.toks+1}) X I d ht go)
end L2
namespace L2
open PySem PySem.Spec PyProof.Rows PySem.W
meta def uy(C ta:Yh)(od:Option Yh):Obj:={cls:=.ref C,dict:=od,data:=.fields #[.ref ta,.none,.none,.none,.bool Ye,.none,]}
meta def iu(x C:Yh)(od:Option Yh):Heap->Prop:=λh=>∃ta,h.get? x=Yb (uy C ta od)
def DF (e:iu x C od h):eS P w H h x (.ext (iu x C od)) :=
 #[e,e.elim λ_ q=>#[_,q],λ_ _ ⟨ta,q⟩ k=>#[ta,k _ q]]
structure Gv(K:Frag) (C f:Yh):Prop where
 cls:∀h,K.In h->∃nm q N bs bm hdct sn sub ab col dd k0 k1 k2 k3 k5 mN oI,h.get? C=Yb (RV nm q C N bs bm hdct sn sub ab col dd k0 k1 k2 k3 k5 "ValueError.__new__") /\
  h.Ns N mN/\mN "__init__"=Yb (.ref f)/\OwnTail h ja bm/\h.get? f=Yb oI/\oI.cls=.type "function"
 kp:QK K (.ref C)=Yd
structure xo(K:Frag) (C:Yh) (n:Yg):Prop where
 over:sQ K C=Yd
 sa:PJ K (.ref C) "__setattr__"=Yb (Yb (.builtin "object.__setattr__"))
 no:SR K C n=Yb Yc
meta def MV(K:Frag)(ta j:TE)(f:Yg):TS:=λD e H=>j e H λy l=>ta e l λx g=>∃a C,x=.ref a/\g a=Yb (.ext (iu a C Yc))/\xo K C f /\
 ∀d,g d=Yc->d≠a->D.nx e (upd (upd g d (.xd [(f,y)])) a (.ext (iu a C (Yb d))))
def JB {h:Heap}(e:h.get? g=Yb (iA w n d v)):h.Ns1 g λy=>if y=n then Yb v else Yc:=by
 obtain⟨c,q1,-,-⟩:=rW w n d v;refine#[_,_,c,e,q1,?_,?_,?_]
 .intro a l;let z:a=#[Ug w.params n,.str n d,v]:=by simpa using l
  rw[z];exact#[n,d,rfl]
 .exact Su _ _
 .intro y;show _=if y=n then Yb v else Yc
  by_cases q:y=n
  .subst q;rw[if_pos rfl];simp[Wi,findBy,Value.isStr]
  .rw[if_neg q];let j:(n == y)=Ye:=beq_false_of_ne λz=>q z.symm;simp[Wi,findBy,Value.isStr,j]
def BV (I:Inv X d l H s)(e:H a=Yb (.ext (iu a C Yc)))(c:xo X.K C n)(v:RelV y u)(go:∀g s',H g=Yc->g≠a->Inv X d l (upd (upd H g (.xd [(n,y)])) a (.ext (iu a C (Yb g)))) s'->Q Unit.unit s'):OH (OM X.prog X.w) A (setAttr (.ref a) n u) Q E s:=by
 obtain⟨⟨ta,j⟩,-,-⟩:=I.hok a _ e;calc Gu (ox:=uy C ta Yc) I.tG #[j,rfl,rfl,trivial] c.over c.no c.sa λh' r hd D L=>go s⁻¹ _ (I.hok.fresh (i5 _)) (Sz (OG j)) ?_;let fr:=OI s.heap (o:=iA X.w n (s.toks+1) u) rfl
 let J:=I.laid (a:=s⁻¹) (o:=.xd [(n,y)]) (t':=s.toks) (h':=s.heap.push (iA X.w n (s.toks+1) u)) (λb o q=>mH _ q) (i5 _) #[_,JB fr,λz=>by
  by_cases q:z=n
  .subst q;rw[if_pos rfl,Pe,beq_self_eq_true];exact v
  .rw[if_neg q,Pe,beq_false_of_ne q];calc True.intro]
 let B:a≠s⁻¹:=OZ (OG j);calc J.write (x:=a) (e:=a) (t':=s.toks+1+1) (by rw[ay B,e];calc True.intro) (.inl rfl) (λb o G q=>?_) #[_,r] (DF #[ta,r]);rcases Heap.get?_push_cases q with⟨rfl,rfl⟩|q
 .exact hd
 .exact D b o G q
def zU (O:PE X o ta)(M:PE X d v)(hs:S3 d (Yb (.Attribute o n g)) pos.line X.env=pure Ye:=by rfl):PS X (.Assign [.Attribute o n g] d pos) (MV X.K ta v n):=by
 intro j s l H D I h;calc SS (cX (M j s l H _ I h) λu z ⟨y,V,U,B,q⟩=>cX (O j z l V _ U q) λL Y ⟨x,Z,T,G,a,C,ex,Q,c,J⟩=>?_) hs;subst ex;obtain rfl:L=Value.ref a:=G;exact BV T Q c B λR W N r S=>#[l,_,S,J R N r]
open Builtin Builtin.ObjectAttr
structure zV(K:Frag) (C:Yh):Prop where
 ga:PJ K (.ref C) "__getattribute__"=Yb (Yb (.builtin "BaseException.__getattribute__"))
 gn:PJ K (.ref C) "__getattr__"=Yb Yc
 mro:mroIn K C (.type "BaseException")=Yb Yd
def BW {K:Frag}(X:K.In s.heap)(I:InstAt s.heap x ox C od)(G:zV K C)(l:Q Unit.unit s):OH M A (checkBuiltinCall "BaseException.__getattribute__" #[[.ref x,d],[]]) Q E s:=by
 let m:builtinKind "BaseException.__getattribute__"=Yb .slot:=by decide
 let e:splitId "BaseException.__getattribute__"=Yb ("BaseException","__getattribute__"):=by decide
 let g:Looks M s.heap (V0 (.ref x) (.type "BaseException")) Yd:=I.type.andThen (looks_mroIn X G.mro);let o:=PySem.F.args_bexc_ga (.ref x) d;let j:=@check_slot M A E s "BaseException.__getattribute__" "BaseException" "__getattribute__" (.ref x) [d] [] Q;calc j m e g o l
def DG {K:Frag}{fill:Bool}(X:K.In s.heap)(I:InstAt s.heap x ox C od)(G:zV K C)(h:OH (OM prog w) A.in1 (Ry.«object.__getattribute__» #[[.ref x,.str name o],[]]) (λfin s'=>match fin with
   |.done (.ret v)=>OH (OM prog w) A (handedOut v) Q E s'
   |.again c=>c.quiet=Yd/\Qs (OM prog w) A c (λr j=>match r with|.ok (.ret v)=>OH (OM prog w) A (handedOut v) Q E j|_=>False) s'
   |_=>False) (λ_ _=>False) s):OH (OM prog w) A (getAttrBy (.ref x) (.str name o) fill expr) Q E s:=by
 let y:=I.type (M:=OM prog w);let u:=Wd (M:=OM prog w) X G.ga;let L2:=Wd (M:=OM prog w) X G.gn;let p:=UX.ga.bind (.ref x);let m:(expr&&onTheHeap (Value.builtin "BaseException.__getattribute__"))=Ye:=by cases expr<;>rfl
 let l:(Value.builtin "BaseException.__getattribute__" == Value.builtin "object.__getattribute__")=Ye:=by decide
 let(D,g,d,t,B):=s;unfold getAttrBy;calc PY (cB (y.at (cB (u.at ?_))));dsimp only;rw[l,Vq,if_neg (by decide)];unfold getAttrByItsOwn hookBefore;calc cB ?_;rw[show onTheHeap (Value.ref C)=Yd from rfl,if_pos rfl];calc L2.at (cB (UH (PY ?_)));unfold callGetattribute;rw[m,if_neg (by decide)];unfold boundAndCalled;calc cB (wpAny_of_eq p ?_);calc TZ (codeAny_call_builtin UX.ga.plain PySem.F.entry_bexc_ga (BW X I G ?_));calc O1 h (λfin s' z=>?_) λ_ _ z=>z.elim;rcases fin with(_|_|_|_)|c
 case again=>
  calc#[z.1,RY z.2 λr j q=>?_];rcases r with e|(_|_|_|_)<;>first|exact q|exact q.elim
 all_goals first|calc z|calc z.elim
def BX {K:Frag}(X:K.In s.heap)(I:InstAt s.heap x ox C od)(G:zV K C)(l:findObj K C od name=Yb (.value v))(j:handedIn v=Yd)(h:Q v {s with toks:=s.toks+1}):
  OH (OM prog w) A (WA (.ref x) name expr) Q E s:=by
 unfold WA;calc cB (We ?_);calc DG (s:={s with toks:=s.toks+1}) X I G ?_;let(e,g,d,t,p):=s;let o:=I.type (M:=OM prog w);let m:=looks_find (M:=OM prog w) X I l;calc cB (pC (cB (pC (cB (o.at (cB (m.at ?_)))))));calc pC ?_;show OH _ _ (handedOut v) _ _ _;rw[handedOut_of j];calc pC h
def BY {K:Frag}(X:K.In s.heap)(I:InstAt s.heap x ox C od)(G:zV K C)(m:findObj K C od "__class__"=Yb (.bind (.builtin "getset_descriptor.__get__") (.builtin "object.__class__")))(l:mroIn K C (.type "object")=Yb Yd)(h:Q (Yb (.ref C)) {s with toks:=s.toks+1}):OH (OM prog w) A (getAttr? (.ref x) "__class__") Q E s:=by
 unfold getAttr? getAttrBy?;calc cB (We (cB (UH ?_)));calc DG (s:={s with toks:=s.toks+1}) X I G ?_;let(e,g,d,t,j):=s;let q:InstAt (#[e,g,d,t+1,j]:fy).heap x ox C od:=I;let p:=I.type (M:=OM prog w);let o:=looks_find (M:=OM prog w) X I m;calc cB (pC (cB (pC (cB (p.at (cB (o.at ?_)))))));show OH _ _ (Up [_] (call (.builtin "getset_descriptor.__get__") [.builtin "object.__class__",.ref x,.ref C])>>=ret) _ _ _;calc cB (PY (TZ (class_get (s:=#[e,g,d,t+1,j]) X q l ?_)));calc pC ?_;calc handed_on rfl ?_;calc pC h
end L2
namespace L2
open PySem PySem.Spec PyProof.Rows PySem.W PySem.Calls
structure BZ(K:Frag) (C:Yh):Prop where
 hg:zV K C
 hd:Rz K C=Yd
 ha:PJ K (.ref C) "__class__"=Yb (Yb (.builtin "object.__class__"))
 hn:specialIn K (.builtin "object.__class__") "__get__"=Yb (Yb (.builtin "getset_descriptor.__get__"))
 tk:takesIn K (.builtin "object.__class__")=Yb Yd
 hm:mroIn K C (.type "object")=Yb Yd
meta def Iz(x C:Yh)(h:Heap):Prop:=∃d e,InstAt h x d C e
def xq {K:Frag}(G:BZ K C):KitX K (.ref x) (.ref C) (Iz x C) where
 ty:=λ_ _ _ ⟨_,_,I⟩=>I.type
 it:=λ_ _ X _=>by
  obtain⟨m,d,-⟩:=any_some G.hd;unfold clsIn at d
  split at d
  .rename_i t r l e j
   intro D z B v k q;unfold isType loadHead;exact cB (TY (k _ _ (X _ _ j)) (pC q))
  .cases d
 ne:=λh tp y o n u X g=>by
  obtain⟨m,d,-⟩:=any_some G.hd;calc Bool.eq_false_iff.mpr λq=>?_;obtain rfl:C=tp:=Value.ref.inj (beq_iff_eq.mp q);unfold clsIn at d
  split at d
  .rename_i t r l e j
   cases(X _ _ j).symm.trans g
  .cases d
 ca:=λ{prog w A E Q s} X ⟨ox,od,I⟩ go=>by
  let p:findObj K C od "__class__"=Yb (.bind (.builtin "getset_descriptor.__get__") (.builtin "object.__class__")):=by
   obtain⟨m,d,-⟩:=any_some G.hd;unfold findObj;rw[d,Q3,G.ha,Q3];dsimp only;rw[G.hn,Q3];dsimp only;rw[G.tk,Q3]
  calc BY X I G.hg p G.hm go
theorem vW :∀{ds:Yi Yh}{us:List eF},Vals (ds.map V.ref) us->us=ds.map Value.ref
 | [],us,r=>by cases r;rfl
 |d::ds,us,r=>by
  cases r with
  |cons a b =>
   let z:=vW b;subst z;calc congrArg (·::_) a
structure JC(K:Frag) (C:Yh) (n:Yg):Prop where
 hg:zV K C
 hd:Rz K C=Yd
 no:∃attr,PJ K (.ref C) n=Yb attr/\noGet K attr=Yd
end L2
namespace L2
open PySem PySem.Spec PyProof.Rows
def B0 (o:Obj)(g):(o.mapFields g).dict=o.dict:=by
 let(c,d,e,j):=o
 cases e<;>rfl
structure Fl(H:Hp) (h:Heap) (n:Nat) (x C:Yh) (od:Option Yh) (fl:eF):Prop where
 ob:∃oe vs,h.get? x=Yb oe/\oe.cls=.ref C/\oe.dict=od/\oe.data=.fields vs/\1<vs.size /\
  ((vs[1]?=Yb .none/\fl=.none)\/∃T oT ts,vs[1]?=Yb (.ref T)/\T≠x/\n<=T/\H T=Yc/\h.get? T=Yb oT/\oT.data=.fields ts/\ts[3]?=Yb fl)
 nx:n<=x
 hx:H x=Yc
structure Rest(fs ch:Yi Yh) (h h':Heap):Prop where
 keep:∀b o,b∉ch->b∉fs->h.get? b=Yb o->h'.get? b=Yb o
 slot:∀b o,b∉ch->h.get? b=Yb o->∃sl,h'.get? b=Yb {o with slots:=sl}
 sz:h.objs.size<=h'.objs.size
def Rest.trans (a:Rest fs ch h l)(b:Rest fs ch l j):Rest fs ch h j :=
 #[λc o d g e=>b.keep c o d g (a.keep c o d g e),λc o d e=>by
  let(r,q):=a.slot c o d e;let(m,p):=b.slot c _ d q;calc#[m,p],OX a.sz b.sz]
def uz :Rest fs [a] h (h.update a g):=by
 let k:∀b o,b∉([a]:Yi Yh)->h.get? b=Yb o->(h.update a g).get? b=Yb o:=λb o n e=>by
  rw[P1 _ _ (λz=>n (by rw[z];calc tF.mpr rfl))];exact e
 calc#[λb o n _ e=>k b o n e,λb o n e=>#[o.slots,k b o n e],?_];rw[Heap.size_update];calc i5 _
def vX {A:OW}(hfr:A.frames=Yb (d::outer))(hl:s.heap.FunFrames base (d::outer))(hf:d.frame=Yb L)(hxf:x∉frs (d::outer))(he:s.heap.get? x=Yb p)(hd:p.data=.fields vs)(hsz:1<vs.size)(go:∀(h':Heap) (T:Yh) (l g:Obj) (m:Array eF),Rest (frs (d::outer)) [x] s.heap h'->s⁻¹<=T->h'.get? x=Yb l->l.cls=p.cls->l.dict=p.dict->l.data=.fields (vs.setIfInBounds 1 (.ref T)) ->
   h'.get? T=Yb g->g.data=.fields m->m[3]?=Yb (RK L)->Q Unit.unit {s with heap:=h'}):
  OH M A (do let a ←frameOf d;let pl ←entryPlaceOf L B;let b ←VH head a .none (RK L) .none pl;setField (.ref x) 1 b) Q E s:=by
 calc cB (wpAny_frameOf_fun hfr hl hf λj t=>?_);calc cB (wpAny_entryPlaceOf λpl y=>?_);unfold VH newFields;calc cB (Pr ?_ (y.sizeOk5 _ _ _ _ _));generalize hO:({cls:=.type "traceback",dict:=Yc,data:=.fields ([head,.ref L,.none,RK L,.none]++(if pl.isEmpty then L1 6 Value.none else pl)).toArray}:Obj)=g
 let D:∃m,g.data=.fields m/\m[3]?=Yb (RK L):=by
  subst hO;exact#[_,rfl,by simp]
 let C:g.isFreed=Ye:=by subst hO;rfl
 let(m,z,v):=D;let r:j.get? x=Yb p:=(t.2.1 x hxf).trans he;let Mi:(j.push g).get? x=Yb p:=mH g r;calc SN Mi hd hsz ?_;let u:j.objs.size≠x:=Sz (OG r);let G:=Sj hd (·.setIfInBounds 1 (Value.ref j.objs.size));let O:=Ql (Rt (·.setIfInBounds 1 (Value.ref j.objs.size))) Mi (SY G)
 let N:((j.push g).update x (Rt (·.setIfInBounds 1 (Value.ref j.objs.size)))).get? j.objs.size=Yb g:=by
  rw[P1 _ _ (Rj u)];exact OI j C
 let I:Rest (frs (d::outer)) [x] s.heap (j.push g):=by
  refine#[λb o _ J e=>mH g ((t.2.1 b J).trans e),λb o _ e=>?_,?_]
  .have(H,q):=t.2.2 b o e;exact#[H,mH g q]
  .rw[PL,t.1];exact Pc _
 calc go _ _ _ _ m (I.trans uz) (U0 t.1.symm) O (Wb _ _) (B0 _ _) G N z v
def Inv.rest (I:Inv X pins σ H s)(r:Rest (frs X.stack) ch s.heap h')(g:∀b∈ch,H b=Yc/\X.s₀.heap.objs.size<=b/\b≠X.env.locals/\(∀x c,X.env.cells.lookup x=Yb c->c≠b)/\∀p∈X.pn++pins,p.1≠b):Inv X pins σ H {s with heap:=h'}:=by
 let j:∀b u,H b=Yb u->b∉ch/\b∉frs X.stack:=λb u e=>#[λz=>by(rw[(g b z).1]at e;cases e),λz=>by(rw[I.wK b z]at e;cases e)]
 let u:Un (frs X.stack) ch H H s.heap h':={
  keep:=λb o e _ t d=>r.keep b o d t e
  slot:=λb o e _ _ d=>r.slot b o d e
  free:=λ_ _ _ n _=>n
  there:=λb o e d=>(r.slot b o d e).elim λ_ q=>#[_,q]
  tups:=λ_ _ e=>e
  frzs:=λ_ _ _ e=>e
  tbls:=λ_ B e=>#[#[],by rw[e];simp]}
 let m:ny X.prog X.w H h':=λb u e=>by
  calc(I.hok b u e).stay (λc v y q=>?_) (λ_ q=>q) λ_ _ q=>q;rcases y with z|z
  .rw[z]at q|-;exact r.keep _ _ (j b u e).1 (j b u e).2 q
  .exact r.keep _ _ (j c _ z).1 (j c _ z).2 q
 calc I.call (g':=s.gens) (t':=s.toks) (d':=s.drawn) (ch:=ch) u m I.bare λb l=>#[.inr (g b l).2.1,(g b l).2.2.1,(g b l).2.2.2.1,(g b l).2.2.2.2]
def Inv.xr (I:Inv X pins σ H s)(e:s.heap.get? a=Yb o)(d:o.data=.fields vs):a≠X.env.locals/\(∀x c,X.env.cells.lookup x=Yb c->c≠a)/\a∉frs X.stack:=by
 refine#[λz=>?_,λx c p z=>?_,λz=>?_]
 .have(m,(j,q,r,g,hd,_),_):=I.loc;rw[<-z,e]at g
  cases g
  rw[d]at hd
  cases hd
 .have(v,j,g,hd):=I.cell x c p;rw[z,e]at g
  cases g
  rw[d]at hd
  cases hd
 .have(_,j,g,l):=I.stack.mem z;rw[e]at g
  cases g
  calc l vs d
def xu (I:Inv X [] σ H s)(S:X.pn=[])(e:X.stack=X.env::X.outer)(V:X.env.frame=Yb X.env.locals)(F:Fl H s.heap X.s₀.heap.objs.size x C od Y)(go:∀s',s'.os=s.os->Inv X [] σ H s'->Fl H s'.heap X.s₀.heap.objs.size x C od (RK X.env.locals)->Q Unit.unit s'):OH (OM X.prog X.w) X.A (VD (.ref x) X.env) Q E s:=by
 let((z,vs,u,J,G,hd,j,hh),O,R):=F;let D:X.A.frames=Yb (X.env::X.outer):=by rw[<-e];exact I.ok.frames
 let B:∀(a:Yh),∀p∈X.pn++[],p.1≠a:=λa p hp=>by rw[S]at hp;cases hp
 let(n1,n2,n3):=I.xr u hd
 let Z:∀b∈[x],H b=Yc/\X.s₀.heap.objs.size<=b/\b≠X.env.locals/\(∀y c,X.env.cells.lookup y=Yb c->c≠b)/\∀p∈X.pn++[],p.1≠b:=λb W=>by
  rw[tF.mp W];exact#[R,O,n1,n2,B x]
 let fin:∀(t:fy),t.os=s.os->Inv X [] σ H t->∀(l:Heap) (T:Yh) (d o:Obj) (m:Array eF),Rest (frs (X.env::X.outer)) [x] t.heap l->t⁻¹<=T->l.get? x=Yb d->d.cls=z.cls->d.dict=z.dict->d.data=.fields (vs.setIfInBounds 1 (.ref T)) ->
   t.heap.get? x=Yb z->l.get? T=Yb o->o.data=.fields m->m[3]?=Yb (RK X.env.locals)->Q Unit.unit {t with heap:=l}:=λt U v l T d o m r q e1 e2 e3 e4 ex e5 e6 e7=>by
  rw[<-e]at r;refine go _ U (v.rest r Z) #[#[d,_,e1,e2.trans J,e3.trans G,e4,?_,.inr #[T,o,m,?_,?_,?_,v.hok.fresh q,e5,e6,e7]],O,R]
  .rw[Array.size_setIfInBounds];exact j
  .rw[RP j]
  .exact Sz (OJ (OG ex) q)
  .exact OX v.sz q
 unfold VD;simp only[V];rcases hh with⟨h1,rfl⟩|⟨T,o,m,h1,hTx,hTn,hTH,q,hdT,h3⟩
 .refine cB (Pw u hd h1 ?_);rw[if_neg (by decide)];exact vX D (by rw[<-e];calc I.stack) V (by rw[<-e];calc n3) u hd j λl T d o m r a1 a2 a3 a4 a5 a6 a7 a8=>fin s rfl I l T d o m r a1 a2 a3 a4 a5 u a6 a7 a8
 .refine cB (Pw u hd h1 ?_);rw[if_pos (show(Value.ref T != Value.none)=Yd from by simp)];calc cB (Pw q hdT h3 ?_);let(t1,t2,t3):=I.xr q hdT
  by_cases c:(Y == RK X.env.locals)=Yd
  .rw[if_pos c];let ef:Y=RK X.env.locals:=QF c;subst ef;exact pC (go s rfl I #[#[z,vs,u,J,G,hd,j,.inr #[T,o,m,h1,hTx,hTn,hTH,q,hdT,h3]],O,R])
  .rw[if_neg c];refine cB (SN q hdT (Uh.mp h3).1 ?_)
   let v:=I.rest (uz (fs:=frs X.stack) (a:=T) (g:=Rt (·.setIfInBounds 3 Value.none))) λb W=>by
    rw[tF.mp W];exact#[hTH,hTn,t1,t2,B T]
   let L:(s.heap.update T (Rt (·.setIfInBounds 3 Value.none))).get? x=Yb z:=by rw[P1 _ _ hTx];exact u
   calc vX D (by rw[<-e];calc v.stack) V (by rw[<-e];calc n3) L hd j λl T2 d N M r a1 a2 a3 a4 a5 a6 a7 a8=>fin {s with heap:=s.heap.update T (Rt (·.setIfInBounds 3 Value.none))} rfl v l T2 d N M r a1 a2 a3 a4 a5 L a6 a7 a8
def oB (I:Inv X [] σ H s)(o:X.pn=[])(F:Fl H s.heap X.s₀.heap.objs.size x C od G)(go:∀s' q,s'.os=s.os->Inv X [] σ H s'->Fl H s'.heap X.s₀.heap.objs.size x C od q->Q Unit.unit s'):OH (OM X.prog X.w) X.A (setFlight (.ref x) fr) Q E s:=by
 let((m,t,l,j,e,hd,d,B),u,v):=F;unfold setFlight;rcases B with⟨h1,rfl⟩|⟨T,oT,ts,h1,hTx,hTn,hTH,hT,hdT,h3⟩
 .refine cB (Pw l hd h1 ?_);rw[if_neg (by decide)];exact pC (go s .none rfl I #[#[m,t,l,j,e,hd,d,.inl #[h1,rfl]],u,v])
 .refine cB (Pw l hd h1 ?_);rw[if_pos (show(Value.ref T != Value.none)=Yd from by simp)];let(t1,t2,t3):=I.xr hT hdT;let l3:=(Uh.mp h3).1;calc SN hT hdT l3 ?_;generalize fr.elim Value.none (λf=>RK f)=w
  let L:=I.rest (uz (fs:=frs X.stack) (a:=T) (g:=Rt (·.setIfInBounds 3 w))) λb D=>by
   rw[tF.mp D];exact#[hTH,hTn,t1,t2,λp y=>by(rw[o]at y;cases y)]
  let z:=Sj hdT (·.setIfInBounds 3 w);let r:(s.heap.update T (Rt (·.setIfInBounds 3 w))).get? x=Yb m:=by rw[P1 _ _ hTx];exact l
  let J:=Ql (Rt (·.setIfInBounds 3 w)) hT (SY z);calc go _ w rfl L #[#[m,t,r,j,e,hd,d,.inr #[T,_,_,h1,hTx,hTn,hTH,J,z,by rw[RP l3]]],u,v]
meta def yK(P:we)(w:OR):xX:=λouter H s E e d=>∃(x C:Yh) (j:Option Yh) (l:eF) (g:Hp),e=.ref x/\d.os=s.os/\TH d.gens/\Un (frs outer) [] H g s.heap d.heap/\ny P w g d.heap/\Fl g d.heap s⁻¹ x C j l/\E (.ref C) j g
meta def IA(X:Cx)(E:XK):eF->fy->Prop:=λe g=>∃(x C:Yh) (j:Option Yh) (m:eF) (l:St) (d:Hp),e=.ref x/\Inv X [] l d g/\Fl d g.heap X.s₀.heap.objs.size x C j m/\E (.ref C) j d
def Fl.young (f:Fl H h n x C od l)(j:m<=n):Fl H h m x C od l:=by
 let((p,o,u,g,e,hd,d,t),q,r):=f;calc#[#[p,o,u,g,e,hd,d,?_],OX j q,r];rcases t with h|⟨T,oT,ts,h1,h2,h3,h4⟩
 .exact .inl h
 .exact .inr #[T,oT,ts,h1,h2,OX j h3,h4]
def rL.JD {X:Cx}{st:Yi Stmt}(k:∀e s,W e s->m e s)(h:rL (X.jC W) st t):rL (X.jC m) st t:=λl s o H D I p =>
 O1 (h l s o H D (I.fH.jC _) p) (λf y q=>by
  cases f with
  |next=>let(d,j,g,q):=q;calc#[d,j,g.fH.jC _,q]
  |brk=>let(d,j,g,q):=q;calc#[d,j,g.fH.jC _,q]
  |cont=>let(d,j,g,q):=q;calc#[d,j,g.fH.jC _,q]
  |ret u=>let(v,d,j,g,r,q):=q;calc#[v,d,j,g.fH.jC _,r,q]) k
def jK {X:Cx}:Passes (yK X.prog X.w) (X.jC (IA X E)) E:=by
 intro r o H s e v I h;let(x,C,B,J,L,rfl,y,j,un,m,F,q):=h;let u:Inv X [] o H s:=I.fH.fB λp D=>nomatch D
 let(G,g,d,t,l):=v;obtain rfl:l=s.os:=y;calc#[x,C,B,J,o,L,rfl,u.call (h':=G) (g':=g) (d':=d) (t':=t) (ch:=[]) un m j (λb z=>nomatch z),F.young u.sz,q]
def jb (d:X.pn=[])(g:X.stack=X.env::X.outer)(t:X.env.frame=Yb X.env.locals):PassesOwn (OM X.prog X.w) X.A X.env (IA X E):=by
 intro e N h;let(x,C,o,S,m,G,rfl,I,F,q):=h;show OH _ _ (VD _ _) _ _ _;calc xu I d g t F λM R D l=>?_;show OH _ _ _ _ _ _;let(O,J,u,y,v,hd,p,r):=id l.ob;rcases r with⟨h1,z⟩|⟨T,oT,ts,h1,_⟩
 .exact absurd z (by unfold RK;intro z;cases z)
 .refine cB (Pw u hd h1 ?_);rw[if_neg (by simp)];calc oB D d l λL j Q B H=>#[x,C,o,j,m,G,rfl,B,H,q]
def JE {K:bN}(h:IA (vc (yK P w) P w K mg base N d scope f l A outer s H E) E e s'):(vc (yK P w) P w K mg base N d scope f l A outer s H E).xe e s':=by
 let(x,C,m,D,u,p,rfl,I,F,q):=h;show OH _ _ (leaving _ _) _ _ _;unfold leaving;calc cB (xu I rfl rfl rfl F λy B o t=>?_);calc oB o rfl t λv j z g r=>?_;exact#[x,C,m,j,p,rfl,g.os,g.bare,g.base,g.hok,r,q]
open PySem.W
meta def CK(x:Yh)(H:Hp):Hp:=λb=>if b=x then Yc else H b
def yL :CK x H x=Yc:=by unfold CK;rw[if_pos rfl]
def nT (n:b≠x):CK x H b=H b:=by unfold CK;rw[if_neg n]
def qv (e:H b=Yc):CK x H b=Yc:=by
 unfold CK
 split
 .rfl
 .exact e
def Inv.CK (I:Inv X pins σ H s)(t:H x=Yb (.ext φ))(hn:X.s₀.heap.objs.size<=x):Inv X pins σ (L2.CK x H) s:=by
 let d:∀b u,H b=Yb u->(∀j,u≠.ext j)->b≠x:=λb u e n z=>by
  rw[z,t]at e
  cases e
  exact n φ rfl
 let r:∀b o,X.s₀.heap.get? b=Yb o->b≠x:=λb o e z=>PN _ (OJ (OG e) (by rw[z];calc hn));refine#[I.ok,I.os,I.bare,#[I.base.keep,I.base.slot,λb o e n B=>?_,I.base.there,λb g e=>?_,λb o u e=>?_,λb l e=>?_],I.loc,I.cell,qv I.free,λy c h=>qv (I.freeC y c h),λp v=>?_,λb u e=>?_,I.len]
 .exact qv (I.base.free b o e n B)
 .have q:=I.base.tups b g e;rw[nT (d b _ q ⋯)]
  exact q
 .have q:=I.base.frzs b o u e;rw[nT (d b _ q ⋯)]
  exact q
 .have(m,q):=I.base.tbls b l e;exact#[m,by rw[nT (d b _ q ⋯)];calc q]
 .have(J,G,D):=I.pin p v;exact#[J,qv G,D]
 .have C:b≠x:=λz=>by(rw[z,yL]at e;cases e)
  rw[nT C]at e;calc(I.hok b u e).stay (λ_ _ _ q=>q) (λc q=>by rw[nT (d c _ q ⋯)];calc q) λc g q=>by rw[nT (d c _ q ⋯)];calc q
structure zW(K:Frag) (C:Yh):Prop where
 cls:∀h,K.In h->∃nm q N bs bm hdct sn sub ab col dd k0 k1 k2 k3 k5 nw,h.get? C=Yb (RV nm q C N bs bm hdct sn sub ab col dd k0 k1 k2 k3 k5 nw)/\bm.contains (.type "BaseException")=Yd
def B3 (I:A.handled=Yc)(go:OH M A y (λv e=>∃x C ta od o q N bs j d m sub H g G k0 u t r p nw,v=.ref x/\e.heap.get? C=Yb (RV o q C N bs j d m sub H g G k0 u t r p nw)/\j.contains (.type "BaseException")=Yd/\e.heap.get? x=Yb (uy C ta od)/\E (.ref x) e) E s):
  OH M A (raiseStmt l (Yb y) Yc) Q E s:=by
 unfold raiseStmt;calc cB (O1 go (λv e q1=>?_) λ_ _ z=>z);let(x,C,ta,od,o,q,N,bs,j,d,m,sub,H,g,G,k0,u,t,r,p,nw,rfl,D,J,B,L):=q1;let O:(Value.ref C::j).contains (.type "BaseException")=Yd:=by rw[Q9,J,TL]
 let(T,U,V,R,S):=e;unfold uy at B
 repeat (first|(with_reducible calc QG B ?_)|(with_reducible calc QG D ?_)|(with_reducible calc R6 D ?_;rw[O])|wp_step)
 calc wpAny_raiseNew_none I L
meta def JF(K:Frag)(n:Nat)(j:TE)(E:XK):TS:=λ_ g H=>j g H λv e=>∃x C d,v=.ref x/\n<=x/\e x=Yb (.ext (iu x C d))/\zW K C/\E (.ref C) d (CK x e)
def gZ {X:Cx}{E:XK}{j:Expr}{B:TE}{pos:Pos}(hc:X.calm=Yd)(he:PE (X.jC (IA X E)) j B):PS (X.jC (IA X E)) (.Raise (Yb j) Yc pos) (JF X.K X.s₀.heap.objs.size B E):=by
 intro d s m H D I h;let Z:(X.jC (IA X E)).A.handled=Yc:=I.ok.hd hc;rw[arm_exec_Raise];calc cB (Qf (B3 Z ?_));calc cB (O1 (he d s m H _ I h) (λv G q=>cB (Qf (pC ?_))) λ_ _ z=>z);let(u,y,I1,O,x,C,l,rfl,L,J,o,q):=q
 cases O
 let t:Inv X [] m y G:=I1.fH.fB λp Y=>nomatch Y
 let(R,Q,N,bs,bm,g,M,sub,ab,r,dd,W,V,U,T,S,nw,hC,hb):=o.cls _ t.tG;let((ta,e),_):=(show eS X.prog X.w y G.heap x (.ext (iu x C l))from t.hok x _ J);calc#[x,C,ta,l,R,Q,N,bs,bm,g,M,sub,ab,r,dd,W,V,U,T,S,nw,rfl,hC,hb,e,#[x,C,l,.none,m,L2.CK x y,rfl,t.CK J L,#[#[uy C ta l,_,e,rfl,rfl,rfl,(by show 1<6;decide),.inl #[rfl,rfl]],L,yL],q]]
meta def LB(n:Nat)(C:Yh)(sp:Sp)(d:Yi V)(E:XK)(t:TA):TE:=λj H Q=>t j H λe g=>e.length<=1000/\∀x,n<=x->g x=Yc ->
 sp (.ref x::(e++d)) (upd g x (.ext (iu x C Yc))) (λv l=>v=.eR/\Q (.ref x) l) E
def DH (M:Gv X.K C f)(F:cD X.prog X.w X.K X.mg X.base CX k f fd ps sp)(hr:dU (k+1) X.A)(hb:Binds X.K fd ps ds)(hd:Vals dvs ds)(hx:Passes CX X E)(I:Inv X l y H s)(r:Vals vs us)(hl:vs.length<=1000)(go:∀x,X.s₀.heap.objs.size<=x->H x=Yc->sp (.ref x::(vs++dvs)) (upd H x (.ext (iu x C Yc))) (λv H2=>v=.eR/\Q (.ref x) H2) E):
  OH (OM X.prog X.w) X.A (call (.ref C) us) (EP X l y Q) X.xe s:=by
 let(nm,q,N,bs,bm,Y,sn,sub,ab,aa,dd,k0,k1,k2,k3,k5,mN,oI,hC,hn,hi,T,U,S):=M.cls _ I.tG;let O:us.length<=lj:=by rw[<-r.length];exact O7 (aV hl)
 let R:=I.sz;let(hh,g,d,W,os):=s;calc zT PySem.F.excBase_ValueError T hC hn hi U S (λh' x made L=>?_) O;obtain⟨kp,-,tup,ex,-,-⟩:=made;let B:Inv X l y (upd H x (.ext (iu x C Yc))) #[h',g,d,W,os]:=I.laid (a:=x) (o:=.ext (iu x C Yc)) (t':=W) kp L (DF #[tup,ex]);let q1:=go x (OX R L) (I.hok.fresh L);let r2:Vals (V.ref x::(vs++dvs)) (Value.ref x::(us++ds)):=.cons rfl (r.append hd)
 let J:(Value.ref x::us++ds).length=ps.length:=by
  let z:=r2.length;rw[F.len _ _ _ _ q1]at z;exact z.symm
 let D:=F.run _ X.stack _ _ #[Value.ref x::us,[]] (Value.ref x::(us++ds)) _ _ E (hr.make C us []) (B.Jj.make C us []) (hb _ (Value.ref x::us) B.tG J) r2 q1;refine TZ (RY D λG Z j=>?_)
 match G,j with
 |.error e,j=>calc hx l y _ _ e Z B j
 |.ok (.ret u),j =>
  let(v,H',I3,rv,rfl,q3):=B.after j;calc#[rv,#[V.ref x,H',I3,rfl,q3]]
 |.ok .next,j=>calc P7 j
 |.ok .brk,j=>calc P7 j
 |.ok .cont,j=>calc P7 j
def je {CX:xX}{k:Nat}{f C:Yh}{fd:EF}{ps:Yi Yg}{sp:Sp}{dvs:Yi V}{ds:List eF}{E:XK}{x:Yg}{p pos:Pos}{e:Expr}{es:Yi Expr}{t:TA}(M:Gv X.K C f)(F:cD X.prog X.w X.K X.mg X.base CX k f fd ps sp)(hr:dU (k+1) X.A)(y:Gl X x)(u:X.mg x=Yb (.ref C))(z:Binds X.K fd ps ds)(hd:Vals dvs ds)(l:Passes CX X E)(ha:PA X (e::es) t)(hdb:(x == ("__debug__":Yg))=Ye:=by decide)(he:PB (e::es) X.env=(Ye,eval e X.env)::PB es X.env:=by rfl)(hpl:(TM pos (PB es X.env)).any (·.1)=Ye:=by rfl):
  PE X (.Call (.Name x p) (e::es) [] pos) (LB X.s₀.heap.objs.size C sp dvs E t):=by
 intro d s j H Q I h;calc QA (pW I y u ?_ hdb);calc callWith_K (h₀:=X.base) I.ok.mod.kin M.kp (cX (ha pos d s j H _ I h) λD G ⟨B,J,g,r,v,q⟩=>#[g.tG,DH M F hr z hd l g r v q]) he hpl
def Inv.names (I:Inv X pins σ H s)(hs:Rk X.env.locals s.heap h')(l:h'.Ns X.env.locals m')(J:σ'.length=σ.length)(k:∀(i:Nat) (x:Yg) (v:V),X.N[i]?=Yb x->σ'[i]?=Yb (Yb v)->KY X.env.scope x->∃u,RelV v u/\Look X.env h' m' x u):Inv X pins σ' H {s with heap:=h',toks:=t'}:=by
 let young:∀b o,X.s₀.heap.get? b=Yb o->b≠X.env.locals:=λb o e=>OZ (OJ (OG e) I.ok.above)
 let Fe:∀x c,X.env.cells.lookup x=Yb c->c≠X.env.locals:=λx c L z=>by
  let(m,(R,S,T,G,hd,_),_):=I.loc;let(v,t,g,j):=I.cell x c L;rw[z,G]at g
  cases g
  rw[hd]at j
  cases j
 refine#[I.ok,I.os,I.bare,#[λb o e n r d=>?_,λb o e n r d=>?_,I.base.free,λb o e d=>?_,I.base.tups,I.base.frzs,I.base.tbls],#[m',l,k],λy c e=>?_,I.free,I.freeC,λp D=>?_,λb u e=>?_,J.trans I.len]
 .rw[hs.2 b (young b o e)];exact I.base.keep b o e n r d
 .rw[hs.2 b (young b o e)];exact I.base.slot b o e n r d
 .rw[hs.2 b (young b o e)];exact I.base.there b o e d
 .have(v,t,g,j):=I.cell y c e;exact#[v,t,(hs.2 c (Fe y c e)).trans g,j]
 .have(Q,O,B,M):=I.pin p D;exact#[(hs.2 _ B).trans Q,O,B,M]
 .refine(I.hok b u e).stay (λc v C q=>(hs.2 c ?_).trans q) (λ_ q=>q) λ_ _ q=>q;rintro rfl;rcases C with z|z
  .rw[<-z,I.free]at e
   cases e
  .rw[I.free]at z
   cases z
def Gw (I:Inv X pins σ H s)(G:X.N.Nodup)(hi:X.N[i]?=Yb n)(l:X.env.scope.names.lookup n=Yb .local)(go:∀s',Inv X pins (σ.set i Yc) H s'->Q Unit.unit s'):OH M A (do Vm X.env n .none;Th X.env n pos) Q E s:=by
 let S:(X.env.scope.kind == .class||(X.env.scope.kind == .module&&X.env.locals != X.env.globals))=Ye:=by rw[I.ok.kind];rfl
 let g:X.env.kindOf n=Yb .local:=l;calc cB (Vn (lD I G hi (.inl l) (show RelV .eR Value.none from rfl) (λO C=>?_) (.inr l)));let(m,U,D):=id C.loc;unfold Th;calc S9 ?_;unfold unbindName;calc cB (wpAny_point (cB ?_));unfold deleteName;simp only[g,S];rw[if_neg (by decide)];refine cB (wpAny_nsDel_keeps U λh2 L p e=>?_)
 let V:(m n).isSome=Yd:=by
  let(u,r,q):=D i n .eR hi (by rw[Rx (by rw[I.len];calc(bH.mp hi).1)]) (.inl l);rcases q with⟨_,q⟩|⟨q,_⟩
  .rw[q];rfl
  .rw[g]at q;rcases q with q|q<;>cases q
 simp only[V,Bool.not_true,Q7,if_false];calc pC (wpAny_point (go _ ?_));refine C.names (σ':=σ.set i Yc) (t':=O.toks) e p (by simp) λj y v J o W=>?_
 let t:j≠i:=λz=>by
  subst z;rw[Rx (by rw[I.len];calc(bH.mp hi).1)]at o
  cases o
 rw[RQ (Rj t)]at o;let(u,r,q):=D j y v J (by rw[RQ (Rj t)];calc o) W;calc#[u,r,?_];rcases q with⟨q1,q2⟩|⟨q1,c,q2,q3⟩
 .refine .inl #[q1,?_];let:y≠n:=λz=>t (tI G (by rw[J,z]) hi);show(if y=n then L else m y)=Yb u;rw[if_neg this];exact q2
 .have(R,d,B):=q3;calc .inr #[q1,c,q2,R,(e.2 c ?_).trans d,B];intro z;let(Z,(Y,es,ep,T,hd,_),_):=C.loc;rw[z,T]at d
  cases d
  rw[hd]at B
  cases B
meta def vh(x C:Yh)(od:Option Yh):Heap->Prop:=λh=>∃d e,h.get? x=Yb d/\d.cls=.ref C/\d.dict=od/\d.data=.fields e
def Gx (e:vh x C od h):eS P w H h x (.ext (vh x C od)) :=
 #[e,e.elim λ_ q=>q.elim λ_ q=>#[_,q.1],λ_ _ ⟨g,d,q,r⟩ k=>#[g,d,k _ q,r]]
structure xw(K:Frag) (C G:Yh):Prop where
 cls:∀h,K.In h->∃nm q N bs bm hdct sn sub ab col dd k0 k1 k2 k3 k5 nw,h.get? C=Yb (RV nm q C N bs bm hdct sn sub ab col dd k0 k1 k2 k3 k5 nw)/\(Value.ref C::bm).contains (.ref G)=Yd
 top:zW K G
def B4 {K:Frag}(p:K.In s.heap)(S:xw K C G)(J:s.heap.get? x=Yb m)(g:m.cls=.ref C)(go:Q Yd s):OH M A (excMatches (.ref x) (.ref G)) Q E s:=by
 let(nm,q,N,bs,bm,o,Y,sub,ab,U,dd,k0,k1,k2,k3,k5,nw,O,d):=S.cls _ p;let(y,Z,N',V,j,e,u,l,W,t,T,I,H,D,B,z,v,r,L):=S.top.cls _ p;let R:(Value.ref G::j).contains (.type "BaseException")=Yd:=by rw[Q9,L,TL]
 let f:=tc_notTuple;let(h9,g9,d9,X,o9):=s;unfold excMatches
 repeat (first|(with_reducible calc QG J ?_;rw[g])|(with_reducible calc QG r ?_)|(with_reducible calc R6 r ?_;rw[R])|(with_reducible calc R6 O ?_;rw[d])|wp_step)
 calc go
meta def Cx.B5(X:Cx)(x:Yh):Cx:={X with A:=X.A.mark (Yb (.ref x)),calm:=Ye,xe:=λ_ _=>False}
def Inv.B5 (I:Inv X pins σ H s)(x:Yh):Inv (X.B5 x) pins σ H s :=
 #[#[I.ok.mod,I.ok.kind,I.ok.glob,I.ok.blt,I.ok.above,I.ok.inj,I.ok.has,I.ok.cab,nofun,I.ok.frames,I.ok.stk,I.ok.exf,I.ok.bs,I.ok.bsz,I.ok.noex,I.ok.exfs,I.ok.qQ,I.ok.frf],I.os,I.bare,I.base,I.loc,I.cell,I.free,I.freeC,I.pin,I.hok,I.len]
def Inv.MW (I:Inv (X.B5 x) pins σ H s)(ok:X.Ok):Inv X pins σ H s:=#[ok,I.os,I.bare,I.base,I.loc,I.cell,I.free,I.freeC,I.pin,I.hok,I.len]
def Inv.LC {T:eF}(I:Inv X [] σ H s)(j:X.pn=[])(F:Fl H s.heap X.s₀.heap.objs.size x C od T):Inv X [] σ (upd H x (.ext (vh x C od))) s:=by
 let((L,G,B,r,l,hd,R,V),M,Q):=F;let(O,N,U):=I.xr B hd;let d:∀b u,H b=Yb u->b≠x:=λb u e z=>by(rw[z,Q]at e;cases e)
 let g:∀b o,X.s₀.heap.get? b=Yb o->b≠x:=λb o e z=>PN _ (OJ (OG e) (by rw[z];calc M));refine#[I.ok,I.os,I.bare,#[I.base.keep,I.base.slot,λb o e n S=>?_,I.base.there,λb t e=>?_,λb o u e=>?_,λb J e=>?_],I.loc,I.cell,?_,λy c h=>?_,λp v=>?_,λb u e=>?_,I.len]
 .rw[ay (g b o e)];exact I.base.free b o e n S
 .have q:=I.base.tups b t e;rw[ay (d b _ q)];exact q
 .have q:=I.base.frzs b o u e;rw[ay (d b _ q)];exact q
 .have(m,q):=I.base.tbls b J e;exact#[m,by rw[ay (d b _ q)];calc q]
 .rw[ay (Rj O)];exact I.free
 .rw[ay (N y c h)];exact I.freeC y c h
 .rw[j]at v
  cases v
 .by_cases D:b=x
  .subst D;rw[af]at e
   cases e
   exact Gx #[L,G,B,r,l,hd]
  .rw[ay D]at e;calc(I.hok b u e).stay (λ_ _ _ q=>q) (λc q=>by rw[ay (d c _ q)];calc q) λc t q=>by rw[ay (d c _ q)];calc q
meta def MX(X:Cx)(st:Stmt)(t:TS):Prop :=
 ∀(s:fy) (d:St) (H:Hp) (D:Ends),Inv X [] d H s->t D d H->OH (OM X.prog X.w) X.A (exec st X.env) (SP X [] D) X.xe s
meta def yM(X:Cx)(st:Yi Stmt)(t:TS):Prop :=
 ∀(s:fy) (d:St) (H:Hp) (D:Ends),Inv X [] d H s->t D d H->OH (OM X.prog X.w) X.A (execs st X.env) (SP X [] D) X.xe s
def rL.top {st:Yi Stmt}(h:rL X st t):yM X st t:=λs d H D I q=>h [] s d H D I q
def PS.top {st:Stmt}(h:PS X st t):MX X st t:=λs d H D I q=>h [] s d H D I q
meta def behind(i:Nat)(D:Ends):Ends:={nx:=λd H=>D.nx (d.set i Yc) H,rt:=D.rt,bk:=λd H=>D.bk (d.set i Yc) H,ct:=λd H=>D.ct (d.set i Yc) H}
meta def MY(K:Frag)(G:Yh)(o i:Nat)(E':XK)(m:TS)(l:TS):TS:=λD j H=>m D j H/\∀d g e,E' d g e->∃C,d=.ref C/\xw K C G/\∀x,e x=Yc->l (behind i D) ((L1 o Yc).set i (Yb (.ref x))) (upd e x (.ext (vh x C g)))
def JG {T:TS}{V:Pos}(p:X.pn=[])(M:X.stack=X.env::X.outer)(hf:X.env.frame=Yb X.env.locals)(hb:rL (X.jC (IA X E')) y T)(hg:Gl X g)(hm:X.mg g=Yb (.ref G))(hN:X.N.Nodup)(hi:X.N[i]?=Yb n)(hk:X.env.scope.names.lookup n=Yb .local)(hs:∀x,rL (X.B5 x) (W::l) R)(hdb:(g == ("__debug__":Yg))=Ye:=by decide):
  MX X (.Try y [.ExceptHandler (Yb (.Name g gp)) (Yb n) (W::l) V] [] [] pos) (MY X.K G X.N.length i E' T R):=by
 intro s σ H D I h;let(h1,h2):=h;refine wpAny_Try_except (O1 (hb [] s σ H D (I.jC _) h1) (λf s1 q=>?_) λe s1 q=>?_)
 .cases f with
  |next=>calc pC q.fH
  |brk=>calc q.fH
  |cont=>calc q.fH
  |ret u=>exact q.fH
 .have(x,C,od,fl,aa,H1,rfl,I1,F1,q1):=q;let(C',ec,S,q2):=h2 _ _ _ q1
  cases ec
  let q3:=q2 x F1.hx;calc xu I1 p M hf F1 λs2 o2 I2 F2=>?_;calc oB I2 p F2 λs3 ac o3 I3 Z=>?_;calc wpAny_handleBy_cons (codeAny_handlers_test ?_) (by intro z;cases z);let Q:=I3.B5 x;calc pW Q hg hm ?_ hdb;let(oe,vs,he,O,_):=Z.ob;calc B4 Q.tG S he O ?_;calc codeAny_handlers_suite_as ?_;calc oB (X:=X.B5 x) Q p Z λs4 ab o4 J4 F4=>?_;let Y:=Inv.LC J4 p F4
  let J6:Inv (X.B5 x) [] (L1 X.N.length Yc) (upd H1 x (.ext (vh x C od))) s4:=Y.weak (by rw[Qk];calc Y.len.symm) λj v e=>by
   rw[Ru]at e
   split at e<;>cases e
  calc lD (X:=X.B5 x) J6 hN hi (.inl hk) (show RelV (.ref x) (Value.ref x)from rfl) (λs5 J7=>?_) (.inr hk);refine O1 (hs x [] s5 _ _ _ J7 q3) (λf U B=>?_) λ_ _ z=>z.elim
  let fin:∀{d:St}{m:Hp}{L:Flow->fy->Prop},Inv (X.B5 x) [] d m U->(∀o,Inv X [] (d.set i Yc) m o->L f o)->OH (OM X.prog X.w) X.A (do Vm X.env n .none;Th X.env n V) (λ_ o=>L f o) X.xe U:=λ{d m L} J go =>
   Gw (J.MW I.ok) hN hi hk λo t=>go o t
  cases f with
  |next =>
   let(d,m,J,q):=B;calc fin J λo t=>#[_,m,t,q]
  |brk =>
   let(d,m,J,q):=B;calc fin J λo t=>#[_,m,t,q]
  |cont =>
   let(d,m,J,q):=B;calc fin J λo t=>#[_,m,t,q]
  |ret u =>
   let(v,d,m,J,r,q):=B;calc fin J λo t=>#[v,_,m,t,r,q]
meta def lA(H:Hp)(x C:Yh)(fs:Yi (Yg×V)):Prop:=(fs=[]/\H x=Yb (.ext (vh x C Yc)))\/∃d,H x=Yb (.ext (vh x C (Yb d)))/\H d=Yb (.xd fs)
def lA.B5 (e:lA H x C fs)(ok:ny P w H h):Iz x C h:=by
 rcases e with⟨-,e⟩|⟨dx,e,ed⟩
 .obtain⟨⟨j,p,m,l,g,d⟩,-,-⟩:=ok x _ e;exact#[j,Yc,m,l,by(unfold notCls;rw[d]),by(rw[g];trivial)]
 .obtain⟨⟨j,p,m,l,g,d⟩,-,-⟩:=ok x _ e;obtain⟨r,⟨o,t,u,q,-⟩,-⟩:=ok dx _ ed;calc#[j,Yb o,m,l,by(unfold notCls;rw[d]),by(rw[g];calc q)]
def nU :iL X (.builtin "isinstance") (λxs H Q=>∃x C fs D r,xs=[.ref x,.ref D]/\lA H x C fs/\BZ X.K C/\Tr X.K (.ref C) (.ref D)=Yb r/\Q (.bl r) H):=by
 intro d s l H xs m Q I r h;let(x,C,fs,D,b,rfl,e,G,k,q):=h;let(u,g,rfl,j,r2):=vals2 r;obtain rfl:u=Value.ref x:=j;obtain rfl:g=Value.ref D:=r2;calc kia_one (xq G) I.tG (e.B5 I.hok) k nofun λo=>#[.bl b,H,I.tok _,rfl,q]
def xx :iL X (.builtin "isinstance") (λxs H Q=>∃x C fs T r,xs=[.ref x,.ty T]/\lA H x C fs/\BZ X.K C/\Tr X.K (.ref C) (.type T)=Yb r/\Q (.bl r) H):=by
 intro d s l H xs m Q I r h;let(x,C,fs,T,b,rfl,e,G,k,q):=h;let(u,g,rfl,j,r2):=vals2 r;obtain rfl:u=Value.ref x:=j;obtain rfl:g=Value.type T:=r2;calc kia_one (xq G) I.tG (e.B5 I.hok) k nofun λo=>#[.bl b,H,I.tok _,rfl,q]
def xA :iL X (.builtin "isinstance") (λxs H Q=>∃x C fs d,∃ds:Yi Yh,∃r,xs=[.ref x,.ref d]/\lA H x C fs/\BZ X.K C/\bY X.K H d (ds.map V.ref)/\WK X.K (.ref C) (ds.map Value.ref)=Yb r/\Q (.bl r) H):=by
 intro g s J H xs L Q I r h;let(x,C,fs,d,ds,b,rfl,e,G,l,k,q):=h;let(u,j,rfl,o,r2):=vals2 r;obtain rfl:u=Value.ref x:=o;obtain rfl:j=Value.ref d:=r2;obtain⟨y,m,B,-⟩:=I.tuple l;let z:=vW m;subst z;let((N,t,v,p),D,rfl,n,rfl):=B;calc kia_tup (xq G) I.tG (e.B5 I.hok) D k nofun λM=>#[.bl b,H,I.tok _,rfl,q]
meta def JH(K:Frag)(ta:TE)(n:Yg):TE:=λe H Q=>ta e H λx d=>∃a C fs v,x=.ref a/\lA d a C fs/\JC K C n/\fs.lookup n=Yb v/\Q v d
def DI (U:PE X e ta)(V:R8 e n X.env (eval e X.env)=eval e X.env:=by rfl):PE X (.Attribute e n pos) (JH X.K ta n):=by
 intro d s D H Q I h;calc AD V (cX (U d s D H _ I h) λu s1 ⟨x,H1,g,G,a,C,fs,v,ex,t,R,l,q⟩=>?_);subst ex;obtain rfl:u=Value.ref a:=G;rcases t with⟨rfl,-⟩|⟨dx,t,ed⟩
 .cases l
 obtain⟨⟨L,vs,e1,Z,r,m⟩,-,-⟩:=g.hok a _ t;let(O,(o,es,ep,Y,p,sk,uk,N),j):=g.hok dx _ ed;let(u,T,y):=lV.some_of (v:=v) (o:=O n) (by rw[<-l];calc j n);let(B,W,M):=R.no
 let S:UA n o=Yb (Yb u):=by
  let z:=N n;rw[T]at z;unfold Wi findBy at z;let(en,q1,J):=ri.mp z;unfold UA;rw[p];dsimp only;rw[<-VW]at q1;rw[q1];exact congrArg (λz=>Yb (Yb z)) J
 calc BX (ox:=L) (od:=Yb o) g.tG #[e1,Z,by(unfold notCls;rw[m]),by(rw[r];calc Y)] R.hg (findObj_own R.hd W M S) (vE y) #[v,H1,g.tok _,y,q]
def rB {st:Stmt}(l:MX X st t)(j:yM X rest u):yM X (st::rest) (bf t u):=by
 intro s e H D I h;refine UL (cX (l s e H {D with nx:=u D} I h) λf g q=>?_)
 cases f with
 |next =>
  let(d,o,m,q):=q;calc j g d o D m q
 |ret v=>calc q
 |brk=>calc q
 |cont=>calc q
def jn.Gy {P:we}{w:OR}{K:bN}{mg:Yg->Option eF}{base:Heap}{x d:Yg}{st:Stmt}{f:Yh}{m:EF}{N ps:Yi Yg}{k:Nat}{sp:Sp}(F:jn K x d st f m)(S:aY N ps (ak st))(g:∀vs H Q E,sp vs H Q E->vs.length=ps.length)(hbody:∀(cdv:eF) (A:OW) (outer:Yi Env) (s:fy) (H:Hp) (vs:Yi V) (Q:VK) (E:XK),dU k (A.deeper (OV d (ak st) s⁻¹ f cdv))->sp vs H Q E ->
   ∃t,rL ((Zl (yK P w) N d (ak st) H).jC (IA (Zl (yK P w) N d (ak st) H) E)) (bx st) t/\t {nx:=λ_ u=>Q .eR u,rt:=Q} (start N vs) H):Zt (yK P w) (k+1) f m ps sp:=by
 let(C,B,kV,r,y,G,cdv,D,o,rfl,p,l):=F.ex;calc Im p l S g λA outer s H vs Q E hr j=>?_;let(t,h,q):=hbody cdv A outer s H vs Q E hr j;calc#[t,rL.JD (λe v z=>JE z) h,q]
end L2
namespace L2
open PySem PySem.Spec PyProof.Rows
def yM.pB {st:Yi Stmt}(h:yM X.pB st t):yM X st t:=λs d H D I e =>
 O1 (h s d H D (I.jC _) e) (λ_ _ q=>q.fH) λ_ _ z=>P7 z
def JI {CX:xX}{P:we}{w:OR}{K:bN}{mg:Yg->Option eF}{base:Heap}{k:Nat}{f:Yh}{name d:Yg}{g:Arguments}{j:Yi Stmt}{scope:P9}{T kV D R cdv ct oc:eF}{X od:Option Yh}{osl:Array (Option eF)}{N ps:Yi Yg}{sp:Sp}(lk:K.lookup f=Yb #[oc,od,.func (SH name d g j scope T kV D R X cdv ct),osl])(hcd:UB K cdv d=Yd)(S:aY N ps scope)(len:∀vs H Q E,sp vs H Q E->vs.length=ps.length)(hbody:∀(A:OW) (outer:Yi Env) (s:fy) (H:Hp) (vs:Yi V) (Q:VK) (E:XK),dU k (A.deeper (OV d scope s⁻¹ f cdv))->sp vs H Q E ->
   ∃t,yM (Zl CX N d scope H) j t/\t {nx:=λ_ m=>Q .eR m,rt:=Q} (start N vs) H):
  Zt CX (k+1) f (SH name d g j scope T kV D R X cdv ct) ps sp:=by
 calc#[len,λA outer s H U Z vs Q E hr C hb r B=>?_];let hl:=len _ _ _ _ B;let Y:K.In s.heap:=C.mod.kin.keeps λb o e=>(C.bs b o e).1;let M:s.heap.NoLimit:=C.mod.nolimit.keeps λb o e=>(C.bs b o e).1
 let p:∀y∈ps.zip Z,scope.names.lookup y.1=Yb .local\/(scope.names.lookup y.1=Yb .cell/\((Wk (s⁻¹+1) scope.names []).lookup y.1).isSome=Yd):=λ⟨n,v⟩ hy=>by
  rcases S.par n (QL hy).1 with q|q
  .exact .inl q
  .exact .inr #[q,SG _ _ _ (.inl q)]
 calc Vj hr.depth (Y _ _ lk) rfl S.co S.gen rfl (VY Y hcd) (hb _ _ _ _ ?_);calc T3 S.kind p λaa he O x=>?_;subst he;calc#[M.keeps x.toInCall.keep,codeAny_func ?_];let(t,ht,hq):=hbody A outer s H vs Q E (hr.deeper _) B;let I:Inv (Zl CX N d scope H) [] (start N vs) H O:=vJ S hr.hd C hl r x;refine O1 (ht O (start N vs) H _ I hq) (λfl G z=>?_) λe G z=>z
 let fin:∀{l:St}{m:Hp}{v:V}{u:eF},Inv (Zl CX N d scope H) [] l m G->RelV v u->Q v m->CE outer P w H s Q u G :=
  λ{l m v u} J L q=>#[v,m,J.os,J.bare,J.base,J.hok,L,q]
 cases fl with
 |ret u =>
  let(v,l,m,J,L,q):=z;calc fin J L q
 |next =>
  let(l,m,J,q):=z;calc fin (v:=V.eR) (u:=Value.none) J rfl q
 |brk =>
  let(_,_,_,q):=z;calc P7 q
 |cont =>
  let(_,_,_,q):=z;calc P7 q
def jn.Ou {P:we}{w:OR}{K:bN}{mg:Yg->Option eF}{base:Heap}{x d:Yg}{st:Stmt}{f:Yh}{l:EF}{N ps:Yi Yg}{k:Nat}{sp:Sp}(F:jn K x d st f l)(S:aY N ps (ak st))(e:∀vs H Q E,sp vs H Q E->vs.length=ps.length)(hbody:∀(cdv:eF) (A:OW) (outer:Yi Env) (s:fy) (H:Hp) (vs:Yi V) (Q:VK) (E:XK),dU k (A.deeper (OV d (ak st) s⁻¹ f cdv))->sp vs H Q E ->
   ∃t,yM (Zl gz N d (ak st) H).pB (bx st) t/\t {nx:=λ_ r=>Q .eR r,rt:=Q} (start N vs) H):Zt gz (k+1) f l ps sp:=by
 let(y,v,kV,p,u,B,cdv,z,m,rfl,o,j):=F.ex;calc JI o j S e λA outer s H vs Q E hr g=>?_;let(t,h,q):=hbody cdv A outer s H vs Q E hr g;exact#[t,h.pB,q]
open PySem.W
meta def yN(C:Yh)(n:Yg):Sp:=λe H Q _=>∃(x:Yh) (y:V),e=[.ref x,y]/\H x=Yb (.ext (iu x C Yc))/\∀d,H d=Yc->d≠x->Q .eR (upd (upd H d (.xd [(n,y)])) x (.ext (iu x C (Yb d))))
structure oS(P:we) (w:OR) (K:Frag) (mg:Yg->Option eF) (base:Heap) (x:Yg) (k:Nat) (ps:Yi Yg) (sp:Sp) (f:Yh) (fd:EF):Prop where
 ok:Zt (yK P w) k f fd ps sp
 at':mg x=Yb (.ref f)
 kp:QK K (.ref f)=Yd
 bd:Binds K fd ps []
structure CL(P:we) (w:OR) (K:Frag) (mg:Yg->Option eF) (base:Heap) (x:Yg) (n:Yg) (C f:Yh) (fd:EF):Prop where
 k:Gv K C f
 ok:Zt gz 1 f fd ["self",n] (yN C n)
 m:mg x=Yb (.ref C)
 bd:Binds K fd ["self",n] []
 c:zW K C
meta def Told(E:XK)(H:Hp)(C:Yh)(n:Yg)(y:V):Prop:=∀(d:Yh) (e:Hp),aR H e->H d=Yc->e d=Yb (.xd [(n,y)])->E (.ref C) (Yb d) e
def Told.Z (t:Told E H C n y)(s:aR H d):Told E d C n y:=λl m e j g=>t l m (s.trans e) (s.free j) g
def gi {K:Frag}(c:zW K C)(h:Told E H C n y):∀x,m<=x->H x=Yc->yN C n (.ref x::([y]++[])) (upd H x (.ext (iu x C Yc))) (λv o=>v=.eR/\∃d l od,V.ref x=.ref d/\m<=d/\o d=Yb (.ext (iu d l od))/\zW K l/\E (.ref l) od (CK d o)) E0:=by
 intro x t r;refine#[x,y,rfl,af,λj hd g=>#[rfl,x,C,Yb j,rfl,t,af,c,h j _ (λb u q=>?_) ?_ ?_]]
 .have e:b≠x:=au q r
  let p:b≠j:=by
   intro z;subst z;rw[ay e]at hd;rw[hd]at q
   cases q
  rw[nT e,ay e,ay p,ay e];exact q
 .rw[ay g]at hd;exact hd
 .rw[nT g,ay g];calc af
end L2
namespace L2
open PySem
@[irreducible] def jL (X:Cx) (st:Yi Stmt):TS:=λD σ H=>∃u,rL X st u/\u D σ H
def dz :rL X st (jL X st):=λd s e H D I h=>by
 unfold jL at h;let(u,g,q):=h;calc g d s e H D I q
def fg (h:rL X st u)(q:u D d H):jL X st D d H:=by
 unfold jL;calc#[u,h,q]
meta def forA:Yi Stmt->Yi Stmt
 |.For _ _ a _ _::_=>a
 |_=>[]
meta def isStar:Expr->Bool
 |.Starred _ _=>Yd
 |_=>Ye
def DJ (h:isStar e=Ye):PB (e::g) d=(Ye,eval e d)::PB g d:=by
 cases e<;>first|rfl|cases h
def di {e:Expr}{g:Yi Expr}{d:TE}{t:TA}(j:PE X e d)(hr:PA X g t)(hs:isStar e=Ye:=by rfl):PA X (e::g) (kh d t):=bJ j hr (DJ hs)
open PySem.Spec PyProof.Rows
open PySem.AutoSeq1 (wpAny_loadPart')
def DL (r:A.handled=Yc)(it l:Yh)(m:l≠it)(items:Array eF):
  Draws prog w A it [it,l] items.size (λi v=>items[i]?=Yb v) (λi h=>qO b h it l i/\rS b h l items) where
 live:=λ_ _ d=>d.1.got
 frame:=λ_ _ _ d p=>#[d.1.at λo e=>p it (by simp) o e,d.2.at λo e=>p l (by simp) o e]
 item:=λi s Q E q d t=>by
  calc qu d.1 d.2 (x:=items[i]) (by simp[q]) λy j g=>?_;exact t _ y s.toks (by simp[q]) #[j,d.2.extBut g.extBut m] g
 done:=λs Q E d u=>xg r d.1 d.2 (by simp) u
set_option maxRecDepth 100000 in
def Gz (b:Bool)(l:Yh)(items:Array eF):
  Meets (Ry.«enumerate.__new__» #[[.type "enumerate",.ref l],[]]) (λ_ R s=>rS b s.heap l items /\
   R (.ok (.ret (.ref (s.heap.push (nS b l)).objs.size)))
    {s with heap:=(s.heap.push (nS b l)).push {cls:=.type "enumerate",data:=.fields #[.none,.bool Ye,.ref s⁻¹,RK 0,.none,.none,]}}) :=
 .of_wp λp w A R s h=>by
  let(y,g,d,r,u):=s;let(e,h):=h;let q:=sub_enumerate;let m:rS b (Wx #[y,g,d,r,u]) l items:=e;let(o,j):=e.got;let(C,B,v,t):=o
  wp_walk using Tt j
  refine wpAny_stack_any λz=>pC ?_
  split
  .rename_i c _ _ _ _ _
   cases(c == Value.type "enumerate")
   .wp_walk using Tt j,yH m
    exact#[_,rfl,h]
   .wp_walk using Tt j,yH m
    exact#[_,rfl,h]
  .wp_walk using Tt j,yH m
   calc#[_,rfl,h]
end L2
namespace L2
open PySem PySem.Spec PyProof.Rows
def DM (j:rS b s.heap l items)(h:∀h',IsEnum h' (s⁻¹+1) s⁻¹ 0 .none->qO b h' s⁻¹ l 0->h'.objs.size=s⁻¹+2 ->
   (∀b o,s.heap.get? b=Yb o->h'.get? b=Yb o)->Q (.ref (s⁻¹+1)) {s with heap:=h'}):
  OH (OM prog w) A (call (.type "enumerate") [.ref l]) Q E s:=by
 calc callType_new PySem.F.called_enumerate (by decide) (PySem.F.typeCall_enumerate_1 _) (PySem.F.newCall_enumerate_1 _) (λd=>PySem.F.args_object_init_2 d _) PySem.F.entry_enumerate_new (Gz b l items) #[j,?_];let g:(s.heap.push (nS b l)).objs.size=s⁻¹+1:=PL ..;let e:=OI (s.heap.push (nS b l)) (o:={cls:=.type "enumerate",data:=.fields #[.none,.bool Ye,.ref s⁻¹,RK 0,.none,.none,]}) rfl;show _/\_;rw[g]at e|-;calc#[#[_,e,rfl],h _ e (DA (mH _ (OI _ rfl))) (by rw[PL,g]) λb o x=>mH _ (mH _ x)]
meta def LD (K : bN) (b : Bool) (l : Yh) : It :=
  #[λi H => ∃ d x, nq K b H l d ∧ d[i]? = Yb x,
   λi H v e => ∃ p x, H p = Yc ∧ v = .ref p ∧ e = upd H p (.J [.int i, x]) ∧ ∀ d, nq K b H l d -> d[i]? = Yb x,
   λi H => ∃ d, nq K b H l d ∧ d.length = i]
def B6 {K:bN}(e it l:Yh)(d1:e≠it)(d2:l≠it)(d3:l≠e):Turn P w K (.Tuple L x1 pos) (LD K b l) [e,it] e
  (λi h=>(∃j,IsEnum h e it i j)/\qO b h it l i) where
 mem:=by simp
 obj:=λi h t c g=>by
  let((j,p),r):=t;simp only[L0,O3,or_false]at g;rcases g with rfl|rfl
  .exact#[_,p,λv z=>by cases z]
  .cases b with
   |false=>let(o,e,_,d):=(show h.IsListIter _ l i from r);calc#[o,e,λv z=>by rw[d]at z;cases z]
   |true=>let(o,e,_,d):=(show h.IsTupleIter _ l i from r);exact#[o,e,λv z=>by rw[d]at z;cases z]
 keep:=λi h h' t k=>by
  let((j,p),r):=t;exact#[#[j,k e (by simp) _ p],r.at λo q=>k it (by simp) o q]
 item:=by
  intro X hP U hK g i C s σ H E I O t hg;subst hP U hK;let(xs,x,N,hx):=hg;let((j,p),r):=t;let(m,Q,R,_):=mC I N;let(u,hu,ru):=Q.get hx
  let Y:i<m.toArray.size:=by
   let:=(bH.mp hu).1
   simpa using this
  refine wpAny_pyNext_enum_itemD (DL (A:=X.A.in1) (b:=b) (I.ok.hd g) it l d2 m.toArray) p #[r,R] Y d1 (by simp[d1,Rj d3]) λy h' M hy ho V hT ab Z=>?_
  let T:y=u:=by
   let D:m[i]?=Yb y:=by simpa using hy
   rw[hu]at D;exact(OL D).symm
  subst T;refine#[.ref s⁻¹,rfl,wpAny_letOwnedTupleGo_enum (s:={s with heap:=h',toks:=M+1}) ho λJ aa B=>?_]
  let ne:∀c∈[e,it],c≠s⁻¹:=λc g z=>by
   obtain⟨o,e2⟩:∃o,s.heap.get? c=Yb o:=by
    simp only[L0,O3,or_false]at g;rcases g with rfl|rfl
    .exact#[_,p]
    .exact r.got
   let:=OG e2;rw[z]at this;exact PN _ this
  let kk:∀c o,c∉[e,it]->s.heap.get? c=Yb o->J.get? c=Yb o:=λc o g q=>by
   simp only[L0,O3,or_false,not_or]at g;exact(B.2 c g.1).trans (Z c o g.1 g.2 q)
  let G:J.get? s⁻¹=Yb {cls:=.type "tuple",data:=.seq #[.int i M,y,]}:=(B.2 _ (ne e (by simp)).symm).trans hT
  refine#[.ref s⁻¹,upd H s⁻¹ (.J [.int i,x]),I.xm (t':=M+1) O kk (i5 _) #[(by show 2<=lj;decide),_,.cons #[M,rfl] (.cons ru .nil),#[_,G,rfl,_,rfl],_,G,rfl],rfl,
   #[_,x,I.hok.fresh (i5 _),rfl,rfl,λzs S=>by rw[nq.inj I S N];calc hx],?_,λc g=>?_]
  .exact#[#[_,by simpa using aa],V.1.at λo q=>(B.2 it (Rj d1)).trans q]
  .rw[ay (ne c g)];exact(O c g).1
 done:=by
  intro X hP U hK g i C s σ H E I O t hg;subst hP U hK;let(xs,N,hl):=hg;let((j,p),r):=t;let(m,Q,R,_):=mC I N;let e1:=Q.length;let ei:i=m.toArray.size:=by simp;omega
  rw[ei]at r;calc wpAny_pyNext_enum_endD (DL (A:=X.A.in1) (b:=b) (I.ok.hd g) it l d2 m.toArray) p #[r,R] λh' Z=>#[rfl,I.xh (t':=s.toks) O λc o g q=>?_];simp only[L0,O3,or_false,not_or]at g;exact Z c o g.2 q
 self:=λ_ _ _ _ _ t h=>let⟨_,p⟩:=t.1;wpAny_pyIter_enum p h
meta def LF(K:bN)(t:TA):TI:=λe H R=>t e H λj d=>∃b p g,j=[.ref p]/\nq K b d p g/\R (LD K b p) d
def GA (K:bN)(V:X.K=K)(T:Gl X "enumerate")(Q:X.mg "enumerate"=Yc)(U:PA X [a] t)(he:PB [a] X.env=(Ye,eval a X.env)::PB [] X.env:=by rfl)(hpl:(TM q (PB [] X.env)).any (·.1)=Ye:=by rfl):PI X (.Tuple m B pos) (.Call (.Name "enumerate" G) [a] [] q) (LF K t):=by
 subst V;intro j s z H R I h;calc QA (qR I T Q (u:=.type "enumerate") (by decide) ?_ (by decide) (by decide));calc QU ?_ he hpl;calc cX (U q j s z H _ I h) λus d ⟨vs,Z,o,D,q1⟩=>?_;let(c,p,xs,rfl,M,O):=q1;let(u,rfl,C):=vals1 D;obtain rfl:u=Value.ref p:=C;let(L,rv,r,_):=mC o M;let J:@LT.lt Nat _ p d⁻¹:=by let(_,e):=r.got;exact OG e
 calc DM r λg v Y N S=>?_;calc wpAny_pyIter_enum (s:={d with heap:=g}) v ?_;refine#[d⁻¹+1,[d⁻¹+1,d⁻¹],_,_,Z,rfl,o.kept (t':=d.toks) S,B6 _ _ p (by show @Ne Nat _ _;omega) (by show @Ne Nat _ _;omega) (by show @Ne Nat _ _;omega),#[#[_,v],Y],λb y=>?_,O]
 let l:d⁻¹<=b:=by
  simp only[L0,O3,or_false]at y;rcases y with rfl|rfl
  .exact Q2 _ 1
  .exact i5 _
 calc o.By l (o.hok.fresh l)
def DN {K:bN}{g:TG}{t:TS}{D:Ends}(j:Nat->St->Hp->Prop)(I:j 0 d H)(C:∀i d H,i<=xs.length->j i d H->nq K b H a xs)(hs:∀i x d H p,xs[i]?=Yb x->j i d H->H p=Yc->g (.ref p) d (upd H p (.J [.int i,x])) λl r=>t {D with nx:=j (i+1),ct:=j (i+1),bk:=D.nx} l r)(hd:∀d H,j xs.length d H->D.nx d H):
  ∃W:Nat->Nat->St->Hp->Prop,(∃m,W 0 m d H)/\∀i m d H,W i m d H ->
   ((LD K b a).stop i H/\D.nx d H)\/((LD K b a).go i H/\∃N:St->Hp->Prop,(∀σ' o,N σ' o->∃m',m' < m/\W (i+1) m' σ' o)/\∀x o,(LD K b a).yld i H x o->g x d o λl r=>t {D with nx:=N,ct:=N,bk:=D.nx} l r):=by
 calc#[λi m d H=>m=xs.length-i/\i<=xs.length/\j i d H,#[xs.length,by simp,ON _,I],?_];rintro i m d H ⟨rfl,G,p⟩;let q1:=C i d H G p
 by_cases q:i<xs.length
 .refine .inr #[#[xs,xs[i],q1,by simp[q]],j (i+1),λσ' o z=>#[xs.length - (i+1),(),rfl,q,z],λx o y=>?_];let(v,u,B,rfl,rfl,J):=y;exact hs i u d H v (J xs q1) p B
 .have e:i=xs.length:=()
  subst e;calc .inl #[#[xs,q1,rfl],hd d H p]
end L2
local macro_rules|`(tactic|right)=>`(tactic|try dsimp only[L2.bu])
namespace G15
open PySem L2
def qw {W:eF->fy->Prop}{CX:xX}{P:we}{w:OR}{K:bN}{mg:Yg->Option eF}{base:Heap}{N:Yi Yg}{e:Yg}{d:P9}{f:Yh}{cdv:eF}{A:OW}{outer:Yi Env}{s:fy}{H:Hp}{E:XK}:((Zl CX N e d H).jC W).K=K:=rfl
def qx {CX:xX}{P:we}{w:OR}{K:bN}{mg:Yg->Option eF}{base:Heap}{N:Yi Yg}{e:Yg}{d:P9}{f:Yh}{cdv:eF}{A:OW}{outer:Yi Env}{s:fy}{H:Hp}{E:XK}:(Zl CX N e d H).K=K:=rfl
meta def DO(g:Yh):Sp:=λe H Q E=>∃(n:Int) (l:Yh) (d:Yi Int),e=[.int n,.ref l]/\H l=Yb (.Y (d.map V.int))/\d.length<=900/\(n∈d->Told E H g "name" (.str "?"))/\(n∉d->Q .eR (upd H l (.Y ((d++[n]).map V.int))))
meta def rC(K:bN)(j:Yh):Sp:=λg H Q E=>∃(a:Yh) (b:Bool) (d:Yi Yg),g=[.ref a]/\nq K b H a (d.map V.str)/\d.length<=500/\(∀x,cJ [] d=Yb x->Told E H j "name" (.str x))/\(cJ [] d=Yc->∀e,aR H e->Q .eR e)
def kU :Nm XY (ak mz):=by decide
def yO :aY XY XY (ak mz):=by ac_rfl
def JJ (F:jn K "look_gap" "look_gap" mz f j)(d:Zv "Twice" "name" cT fT dT):Zt (yK P w) 3 f j XY (DO cT):=by
 refine F.Gy yO (λp H Q E h=>?_) (λcdv A outer s H p Q E hr h=>?_)
 .have(_,_,_,rfl,_):=h;rfl
 let(n,l,ns,rfl,r,y,t,k):=h;refine#[_,(Z5 (Z8 (ou eB (va kU 0) (va kU 1) (by rfl')) (Zd (@gZ _ _ _ _ _ rfl (je d.k d.ok (hr.mono ()) (by left) d.m d.bd .nil lF (Zc aD))))) (Zd (Zo (Z7 (va kU 1) (Zc (va kU 0)))))),?_]
 right
 try dsimp only[qw,qx]
 let B:=rg ns;let u:bA K H l (ns.map V.int):=bA.of r;let g:=uw (n:=n) (ns:=ns);let v:(ns.map V.int).length<lj:=aV (by rw[bM];omega);ext;refine bP (λc=>?_) (λc=>?_)
 .have e:n∈ns:=by
   let o:nh (.int n) (ns.map V.int)=Yd:=c;rw[g]at o;exact of_decide_eq_true o
  let q:=t e;ext;exact gi d.c q
 .have e:n∉ns:=λz=>c (by show nh (.int n) (ns.map V.int)=Yd;rw[g];calc decide_eq_true z);ext;let:=k e;rw[i4]at this;calc this
def jf :Nm ["names","at","name"] (ak jH):=by decide
def qy :Lm ["names","at","name"] (ak jH):=by decide
def mE :aY ["names","at","name"] X8 (ak jH):=by ac_rfl
def GB {T:EF}(F:jn K "look_once" "look_once" jH f T)(d:Zv "Twice" "name" cT fT dT)(e:mg "enumerate"=Yc):Zt (yK P w) 3 f T X8 (rC K cT):=by
 refine F.Gy mE (λW H Q E h=>?_) (λcdv A outer s H W Q E hr h=>?_)
 .have(_,_,_,rfl,_):=h;rfl
 let(a,b,xs,rfl,M,Z,S,k):=h;refine#[_,(Zd (Zj (jb rfl rfl rfl) (GA K rfl (by left) e (Zc (va jf 0))) (Zb (2) (Zf (ga mE.nd qy 1) (Zs (ga mE.nd qy 2)))) (Zd (Z8 (Zg eB (va jf 2) (@b6 _ _ _ _ _ _ _ _ _ _ (CJ.or qg wN) (va jf 0) cQ (bZ (va jf 1))) (by rfl')) (Zd (@gZ _ _ _ _ _ rfl (@je _ _ _ _ _ _ _ _ _ _ _ _ _ _ _ _ _ d.k d.ok (hr.mono ()) (by left) d.m d.bd .nil lF (Zc (va jf 2)) (by decide) (by rfl) (by rfl)))))))),?_]
 right
 try dsimp only[qw,qx]
 let O:(xs.map V.str).length=xs.length:=bM _;ext;refine DN (K:=K) (b:=b) (xs:=xs.map V.str) (λi G t=>(∃y z,G=[Yb (.ref a),y,z])/\aR H t/\cJ [] xs=cJ (xs.take i) (xs.drop i)) #[#[_,_,rfl],aR.refl _,rfl] ?_ ?_ ?_
 .rintro i G t hi ⟨_,C,_⟩;exact yJ M C
 .rintro i v G t p3 hv ⟨⟨_,_,rfl⟩,C,g⟩ hp3;rw[vv]at hv;let(x,R,rfl):=ri.mp hv;let X:=(bH.mp R).1;let N:=ae hp3 (.J [.int i,.str x]);let Y:upd t p3 (.J [.int i,.str x]) p3=Yb (.J [.int i,.str x]):=af;generalize upd t p3 (.J [.int i,.str x])=H3 at N Y|-;let o:=C.trans N;let u:=yJ M o;rw[yI R]at g;let U:iE (xs.map V.str) Yc (Yb (i:Int))=(xs.take i).map V.str:=by rw[gr,QY]
  let fl:=iP (xs.take i);let I:=kG (x:=x) (xs:=xs.take i)
  cases b with
  |false =>
   let l:bA K H3 a (xs.map V.str):=u;ext;calc .inl #[_,_,rfl,l,λp q=>?_];rw[U];let B:=ae q (.Y ((xs.take i).map V.str));let L:bA K (upd H3 p (.Y ((xs.take i).map V.str))) p ((xs.take i).map V.str):=bA.of af;generalize upd H3 p (.Y ((xs.take i).map V.str))=H4 at B L|-;let j:=o.trans B;ext;refine bP (λc=>?_) (λc=>?_)
   .have r:x∈xs.take i:=by
     let D:nh (.str x) ((xs.take i).map V.str)=Yd:=c;rw[I]at D;exact of_decide_eq_true D
    rw[if_pos r]at g;let J:=(S x g).Z j;ext;exact gi d.c J
   .have r:x∉xs.take i:=λz=>c (by show nh (.str x) ((xs.take i).map V.str)=Yd;rw[I];calc decide_eq_true z);rw[if_neg r]at g;calc#[#[_,_,rfl],j,g]
  |true =>
   let l:bY K H3 a (xs.map V.str):=u
   let nw:¬(HT.iw (xs.map V.str).length 0 Yc=0/\HT.iw (xs.map V.str).length (xs.map V.str).length (Yb (i:Int))=(xs.map V.str).length):=λz=>by
    let:=z.2;rw[HT.kR,O]at this;omega
   ext;calc .inr #[_,_,rfl,l,nw,λp q=>?_];rw[U];let B:=ae q (.J ((xs.take i).map V.str));let L:bY K (upd H3 p (.J ((xs.take i).map V.str))) p ((xs.take i).map V.str):=bY.of af;generalize upd H3 p (.J ((xs.take i).map V.str))=H4 at B L|-;let j:=o.trans B;ext;refine bP (λc=>?_) (λc=>?_)
   .have r:x∈xs.take i:=by
     let D:nh (.str x) ((xs.take i).map V.str)=Yd:=c;rw[I]at D;exact of_decide_eq_true D
    rw[if_pos r]at g;let J:=(S x g).Z j;ext;exact gi d.c J
   .have r:x∉xs.take i:=λz=>c (by show nh (.str x) ((xs.take i).map V.str)=Yd;rw[I];calc decide_eq_true z);rw[if_neg r]at g;exact#[#[_,_,rfl],j,g]
 .rintro G t ⟨_,C,g⟩;rw[O,Pa]at g;calc k g _ C
end G15
namespace L2
open PySem
def LG (p:Prop)(ht:∀C:Bool->Hp->Prop,(p->C Yd H)->(¬p->C Ye H)->e d H C)(a:p->ta D d H)(b:¬p->g D d H):IV e ta g D d H:=ht _ a b
def JK (R:Bool->Hp->Prop)(ht:∀C:Bool->Hp->Prop,(∀b d,R b d->C b d)->g e H C)(a:∀d,R Yd d->ta D e d)(b:∀d,R Ye d->j D e d):IV g ta j D e H:=ht _ λc d h=>by
 cases c with
 |true=>calc a d h
 |false=>calc b d h
end L2
namespace G15
open PySem L2
set_option genInjectivity true in
inductive Kk|num|kd (x:Yg)|op (n:Int)|row (k:Kk)
meta def mX:Kk->T
 |.num=>.s "num"
 |.kd x=>.t [.s "kind",.s x]
 |.op n=>.t [.s "open",.i n]
 |.row k=>.t [.s "row",mX k]
meta def Kk.core:Kk->Kk
 |.row k=>k.core
 |k=>k
meta def Kk.dep:Kk->Nat
 |.row k=>k.dep+1
 |_=>0
meta def Kk.ok(ns:Yi Yg):Kk->Prop
 |.num=>True
 |.kd x=>x∈ns
 |.op _=>False
 |.row k=>k.ok ns
theorem Kk.sR :∀(k j:Kk),k.core≠.row j
 |.num,_=>nofun
 |.kd x,_=>nofun
 |.op n,_=>nofun
 |.row k,j=>sR k j
meta def DP(p:Yg×Kk):T:=.t [.s p.1,mX p.2]
meta def lB(d:Yg×Yi (Yg×Kk)×Tm):T:=.t [.s d.1,.t (d.2.1.map DP),enc d.2.2]
meta def cw:Kk->Yg
 |.num=>"n"
 |.kd _=>"kind"
 |.op _=>"open"
 |.row _=>"row"
def core0 (r:Rp K H (mX c) v)(h:Q (.str (cw c)) H):Io K v (.int 0) H Q:=by
 cases c with
 |num =>
  obtain rfl:=(show Rp K H (.s "num") v from r).aL;calc .inr (.inr #[_,0,110,rfl,rfl,(by decide),(by decide),h])
 |kd y =>
  let(e,l,j,rfl,d,g,m):=(show Rp K H (.t [.s "kind",.s y]) v from r).t2;obtain rfl:=g.aL;calc .inr (.inl #[e,_,0,.str "kind",rfl,rfl,d,rfl,h])
 |op n =>
  let(e,l,j,rfl,d,g,m):=(show Rp K H (.t [.s "open",.i n]) v from r).t2;obtain rfl:=g.aL;calc .inr (.inl #[e,_,0,.str "open",rfl,rfl,d,rfl,h])
 |row k =>
  let(e,l,j,rfl,d,g,m):=(show Rp K H (.t [.s "row",mX k]) v from r).t2;obtain rfl:=g.aL;calc .inr (.inl #[e,_,0,.str "row",rfl,rfl,d,rfl,h])
meta def iF(ah:Yi Yg)(k:Kk):Option Yg:=match k.core with
 |.op _=>Yb "?"
 |.kd x=>if x∈ah then Yc else Yb x
 |_=>Yc
meta def fR{d:Type}(f:d->Option Yg):List d->Option Yg
 | []=>Yc
 |x::r=>match f x with
  |some n=>Yb n
  |none=>fR f r
theorem uA {d:Type}{f:d->Option Yg}{xs:List d}{i:Nat}{x:d}(h:xs[i]?=Yb x):fR f (xs.drop i)=match f x with
  |some n=>Yb n
  |none=>fR f (xs.drop (i+1)):=by
 let e:=(bH.mp h).1;let g:xs.drop i=x::xs.drop (i+1):=by rw[O5 e,(bH.mp h).2]
 rw[g];rfl
meta def nV(K:bN):Sp:=λe H Q _=>∃(v:V) (k:Kk),e=[v]/\Rp K H (mX k) v/\∀d,Rp K H (mX k.core) d->Q d H
meta def IB(K:bN)(j:Yh):Sp:=λg H Q E=>∃(a l:Yh) (e:Yi V) (ks:Yi Kk) (d:Yi Yg),g=[.ref a,.ref l]/\bY K H a e/\bR K H (ks.map mX) e/\H l=Yb (.Y (d.map V.str))/\ks.length<=100/\d.length<=100 /\
 (∀n,fR (iF d) ks=Yb n->Told E H j "name" (.str n))/\(fR (iF d) ks=Yc->Q .eR H)
def mF :Nm ["kind"] (ak jG):=by decide
def xB :Lm ["kind"] (ak jG):=by decide
def qz :aY ["kind"] ["kind"] (ak jG):=by ac_rfl
def xC (F:jn K "innermost" "innermost" jG f G):Zt gz 1 f G ["kind"] (nV K):=by
 refine F.ok qz (λJ H Q E h=>?_) (λcdv A outer s H J Q E hr h=>?_)
 .have(_,_,rfl,_):=h;rfl
 let(v,B,rfl,L,k):=h;refine#[_,(Z5 (@tL _ _ _ _ _ _ O8 (Zg bO (Z6 nB (va mF 0)) aD (bz _)) (Zd (Z4 qz.nd xB 0 (Z6 nB (va mF 0))))) (Zd (cS (va mF 0)))),?_]
 right
 calc#[λm D o=>o=H/\∃(v:V) (l:Kk),D=[Yb v]/\Rp K H (mX l) v/\l.dep=m/\l.core=B.core,#[B.dep,rfl,v,B,rfl,L,rfl,rfl],?_];rintro m D o ⟨rfl,v,l,rfl,j,N,y⟩
 let g:∀(s:Yg),s≠"row"->¬(decide (V.str s=V.str "row")=Yd):=λs M h=>by
  let e:=of_decide_eq_true h;injection e with e;exact M e
 cases l with
 |num =>
  obtain rfl:=(show Rp K o (.s "num") v from j).aL;calc#[_,rfl,.inr (.inr #[_,0,110,rfl,rfl,(by decide),(by decide),rfl,_,rfl,bP (λc=>absurd c (g _ (by decide))) (λ_=>?_)])];ext;calc k _ (by rw[<-y];calc j)
 |kd x =>
  let(p,l,r,rfl,d,u,C):=(show Rp K o (.t [.s "kind",.s x]) v from j).t2;obtain rfl:=u.aL;calc#[_,rfl,.inr (.inl #[p,_,0,.str "kind",rfl,rfl,d,rfl,rfl,_,rfl,bP (λc=>absurd c (g _ (by decide))) (λ_=>?_)])];ext;calc k _ (by rw[<-y];calc j)
 |op n =>
  let(p,l,r,rfl,d,u,C):=(show Rp K o (.t [.s "open",.i n]) v from j).t2;obtain rfl:=u.aL;calc#[_,rfl,.inr (.inl #[p,_,0,.str "open",rfl,rfl,d,rfl,rfl,_,rfl,bP (λc=>absurd c (g _ (by decide))) (λ_=>?_)])];ext;calc k _ (by rw[<-y];calc j)
 |row r =>
  let(p,S,z,rfl,d,u,C):=(show Rp K o (.t [.s "row",mX r]) v from j).t2;obtain rfl:=u.aL;calc#[_,rfl,.inr (.inl #[p,_,0,.str "row",rfl,rfl,d,rfl,rfl,_,rfl,bP (λ_=>?_) (λc=>absurd (by decide) c)])];calc#[λq I=>I=o/\q=[Yb z],λq I ⟨R,O⟩=>#[r.dep,by rw[<-N];calc QZ _,R,z,r,O,C,rfl,y],?_];calc#[_,rfl,.inr (.inl #[p,_,1,z,rfl,rfl,d,rfl,rfl,rfl])]
def hU :Nm XQ (ak kB):=by decide
def rX :Lm XQ (ak kB):=by decide
def nW :aY XQ ["inner","ahead"] (ak kB):=by ac_rfl
def JL (F:jn K "look_tag" "look_tag" kB f W)(IM:Za "innermost" 1 ["kind"] (nV K) gI ifd)(d:Zv "NoName" "name" cN fN dN):Zt (yK P w) 3 f W ["inner","ahead"] (IB K cN):=by
 refine F.Gy nW (λZ H Q E h=>?_) (λcdv A outer s H Z Q E hr h=>?_)
 .have(_,_,_,_,_,rfl,_):=h;rfl
 let(a,l,R,ks,g,rfl,sq,r,hl,hk,ha,U,k):=h;refine#[_,(Zd (Zj (jb rfl rfl rfl) (cG (va hU 0)) (ga nW.nd rX 2) (Z5 (Z4 nW.nd rX 3 (Z0 IM (Zc (va hU 2)))) (Z5 (Z8 (Zg bO (Z6 nB (va hU 3)) aD (bz _)) (Zd (@gZ _ _ _ _ _ rfl (je d.k d.ok (hr.mono ()) (by left) d.m d.bd .nil lF (Zc aD))))) (Zd (Z8 (PW.pt (@ir _ _ _ _ _ _ _ (Zg bO (Z6 nB (va hU 3)) aD (bz _)) (@fQ _ _ _ _ (Zg lZ (Z6 aI (va hU 3)) (va hU 1) (by rfl'))))) (Zd (@gZ _ _ _ _ _ rfl (@je _ _ _ _ _ _ _ _ _ _ _ _ _ _ _ _ _ d.k d.ok (hr.mono ()) (by left) d.m d.bd .nil lF (Z1 (Z6 aI (va hU 3)) aA) (by decide) (by rfl) (by rfl)))))))))),?_]
 right
 try dsimp only[qw,qx]
 let L:=r.length;rw[bM]at L;ext;refine eY (K:=K) (xs:=R) (λi G B=>(∃y z,G=[Yb (.ref a),Yb (.ref l),y,z])/\B=H/\fR (iF g) ks=fR (iF g) (ks.drop i)) #[#[_,_,rfl],rfl,rfl] ?_ ?_ ?_
 .rintro i G B hi ⟨_,rfl,_⟩;exact sq
 .rintro i v G B hv ⟨⟨_,_,rfl⟩,rfl,o⟩;let(t,T,rv):=r.get' hv;rw[vv]at T;let(q,hq,rfl):=ri.mp T;rw[uA hq]at o;let ne:=q.sR;calc jF ?_;intro N1 N2 c1 Y;let fl:=iP g;let aa:bA K B l (g.map V.str):=bA.of hl;ext v' I;ext;calc core0 (K:=K) I ?_;ext;refine bP (λc=>?_) (λc=>?_)
  .have p:cw q.core="open":=by injection(of_decide_eq_true c)
   let u:iF g q=Yb "?":=by
    unfold iF
    cases e:q.core with
    |op n=>rfl
    |num=>rw[e]at p;calc absurd p (by decide)
    |kd y=>rw[e]at p;calc absurd p (by show("kind":Yg)≠"open";decide)
    |row j=>rw[e]at p;exact absurd p (by show("row":Yg)≠"open";decide)
   rw[u]at o;let J:=U _ o;ext;exact gi d.c J
  calc Y _ _ ?_;clear Y;let C:∀n,q.core≠.op n:=λn e=>c (by rw[e];calc decide_eq_true rfl);ext;calc core0 (K:=K) I ?_;ext;refine bP (λO=>?_) (λO=>?_)
  .have p:cw q.core="kind":=by injection(of_decide_eq_true O)
   obtain⟨y,X⟩:∃y,q.core=.kd y:=by
    cases e:q.core with
    |kd y=>calc#[y,rfl]
    |num=>rw[e]at p;calc absurd p (by decide)
    |op n=>calc absurd e (C n)
    |row j=>rw[e]at p;exact absurd p (by show("row":Yg)≠"kind";decide)
   rw[X]at I;let(ka,k1,k2,rfl,ab,g1,g2):=(show Rp K B (.t [.s "kind",.s y]) v' from I).t2;obtain rfl:=g1.aL;obtain rfl:=g2.aL;let a1:dZ [V.str "kind",.str y] 1=Yb (.str y):=aF (j:=1) rfl;let S:=kG (x:=y) (xs:=g);let u:iF g q=if y∈g then Yc else Yb y:=by unfold iF;rw[X]
   ext;refine bP (λN=>?_) (λN=>?_)
   .have M:y∉g:=λz=>by
     let D:(!nh (.str y) (g.map V.str))=Yd:=N;rw[S,decide_eq_true z]at D
     cases D
    rw[u,if_neg M]at o;let J:=U _ o;ext;exact gi d.c J
   .have M:y∈g:=by
     by_cases z:y∈g
     .exact z
     .refine absurd ?_ N;show(!nh (.str y) (g.map V.str))=Yd;rw[S,decide_eq_false z];rfl
    rw[u,if_pos M]at o;exact#[#[_,_,rfl],rfl,o]
  .have u:iF g q=Yc:=by
    unfold iF
    cases e:q.core with
    |op n=>calc absurd e (C n)
    |num=>rfl
    |kd y=>calc absurd (by rw[e];calc decide_eq_true rfl) O
    |row j=>rfl
   rw[u]at o;exact#[#[_,_,rfl],rfl,o]
 .rintro G B ⟨_,rfl,o⟩;rw[show R.length=ks.length by omega,Pa]at o;calc k o
inductive Er|tw|nn|wr
abbrev Flt:=Er×Yg
abbrev Kl:=Yi (Yg×Yi (Yg×Yi Kk))
meta def qA(t:Yg×Yi Kk):T:=.t [.s t.1,.t (t.2.map mX)]
meta def jo(k:Yg×Yi (Yg×Yi Kk)):T:=.t [.s k.1,.t (k.2.map qA)]
meta def oU(d e cW:Yh):Er->Yh
 |.tw=>d
 |.nn=>e
 |.wr=>cW
meta def TF(d e cW:Yh)(E:XK)(H:Hp)(f:Flt):Prop:=Told E H (oU d e cW f.1) "name" (.str f.2)
def TF.Z (t:TF d e cW E H f)(s:aR H g):TF d e cW E g f:=Told.Z t s
meta def gj(ah ta:Yi Yg):Yi (Yg×Yi Kk)->Option Flt
 | []=>Yc
 |t::r=>match cJ [] (ta++[t.1])with
  |some x=>Yb (.tw,x)
  |none=>match fR (iF ah) t.2 with
   |some n=>Yb (.nn,n)
   |none=>gj ah (ta++[t.1]) r
meta def cK(ah ta:Yi Yg):Kl->Option Flt
 | []=>Yc
 |k::r=>match cJ [] (ah++[k.1])with
  |some x=>Yb (.tw,x)
  |none=>match gj ah ta k.2 with
   |some f=>Yb f
   |none=>cK (ah++[k.1]) (ta++k.2.map (·.1)) r
meta def xY(kl:Kl):Prop:=kl.length<=10/\∀k∈kl,k.2.length<=10/\∀t∈k.2,t.2.length<=10
meta def AO(K:bN)(j l cW:Yh):Sp:=λg H Q E=>∃(v:V) (d:Kl),g=[v]/\Rp K H (.t (d.map jo)) v/\xY d/\(∀f,cK [] [] d=Yb f->TF j l cW E H f)/\(cK [] [] d=Yc->∀e,aR H e->Q .eR e)
theorem vY {ah ta:Yi Yg}{d:Yi (Yg×Yi Kk)}{i:Nat}{t:Yg×Yi Kk}(h:d[i]?=Yb t):gj ah ta (d.drop i)=match cJ [] (ta++[t.1])with
  |some x=>Yb (.tw,x)
  |none=>match fR (iF ah) t.2 with
   |some n=>Yb (.nn,n)
   |none=>gj ah (ta++[t.1]) (d.drop (i+1)):=by
 let e:=(bH.mp h).1;let g:d.drop i=t::d.drop (i+1):=by rw[O5 e,(bH.mp h).2]
 rw[g];rfl
theorem uB {ah ta:Yi Yg}{kl:Kl}{i:Nat}{k:Yg×Yi (Yg×Yi Kk)}(h:kl[i]?=Yb k):cK ah ta (kl.drop i)=match cJ [] (ah++[k.1])with
  |some x=>Yb (.tw,x)
  |none=>match gj ah ta k.2 with
   |some f=>Yb f
   |none=>cK (ah++[k.1]) (ta++k.2.map (·.1)) (kl.drop (i+1)):=by
 let d:=(bH.mp h).1;let e:kl.drop i=k::kl.drop (i+1):=by rw[O5 d,(bH.mp h).2]
 rw[e];rfl
meta def jg(kl:Kl):Yi Yg:=kl.flatMap λk=>k.2.map (·.1)
def qB (h:xY kl):(jg kl).length<=100:=by
 let:∀l:Kl,(∀k∈l,k.2.length<=10)->(jg l).length<=l.length*10:=by
  intro l
  induction l with
  |nil=>intro _;calc ON _
  |cons k r ih =>
   intro d;let m:=d k (.head _);let j:=ih λx e=>d x (.tail _ e);unfold jg at j|-;rw[Qt,mu,bM,OT,U8];omega
 let:=this kl λk g=>(h.2 k g).1;let:=h.1;omega
structure MZ(H:Hp) (l1 l2:Yh) (ah ta:Yi Yg) (H2:Hp):Prop where
 s:aR H H2
 h1:H2 l1=Yb (.Y (ah.map V.str))
 h2:H2 l2=Yb (.Y (ta.map V.str))
def cH :Nm Xv (ak iY):=by decide
def gu :Lm Xv (ak iY):=by decide
def fh :aY Xv ["kinds"] (ak iY):=by ac_rfl
def DQ (F:jn K "look_kinds" "look_kinds" iY f fd)(G:Zu "look_once" 3 X8 (rC K cT) gO ofd)(C:Zu "look_tag" 3 ["inner","ahead"] (IB K cN) gG gfd):Zt (yK P w) 4 f fd ["kinds"] (AO K cT cN cW):=by
 refine F.Gy fh (λvs H Q E h=>?_) (λcdv A outer s H vs Q E hr h=>?_)
 .have(_,_,rfl,_):=h;rfl
 let(v,l,rfl,r,hB,hE,k):=h;refine#[_,(Z5 (sa fh.nd gu 1 (dH aA)) (Z5 (sa fh.nd gu 2 (dH aA)) (Zd (Zj (jb rfl rfl rfl) (cG (va cH 0)) (Zb (2) (Zf (ga fh.nd gu 3) (Zs (ga fh.nd gu 4)))) (Z5 (Zo (@eN _ _ _ _ _ _ _ _ _ _ _ _ _ _ _ _ G.ok (hr.mono ()) (by left) G.at' G.kp G.bd .nil jK (Z1 (Zm iW (va cH 1) (Zq (Zc (va cH 3)))) aA) (by decide) (by rfl) (by rfl))) (Z5 (Zj (jb rfl rfl rfl) (cG (va cH 4)) (Zb (2) (Zf (ga fh.nd gu 5) (Zs (ga fh.nd gu 6)))) (Z5 (Zo (Z7 (va cH 2) (Zc (va cH 5)))) (Z5 (Zo (@eN _ _ _ _ _ _ _ _ _ _ _ _ _ _ _ _ G.ok (hr.mono ()) (by left) G.at' G.kp G.bd .nil jK (Zc (va cH 2)) (by decide) (by rfl) (by rfl))) (Zd (Zo (@eN _ _ _ _ _ _ _ _ _ _ _ _ _ _ _ _ C.ok (hr.mono ()) (by left) C.at' C.kp C.bd .nil jK (Z1 (va cH 6) (Zc (va cH 1))) (by decide) (by rfl) (by rfl))))))) (Zd (Zo (Z7 (va cH 1) (Zc (va cH 3))))))))))),?_]
 right
 try dsimp only[qw,qx]
 let(a,us,rfl,sq,rs):=r.aS;let ai:=rs.length;rw[bM]at ai;let bh:=qB hB;let aq:=hB.1;ext;calc nw λl1 H1 s1 h1 ap=>?_;ext;calc nw λl2 H2 s2 h2 ab=>?_;let T:l1≠l2:=au h1 ab;let a2:=s2 _ _ h1;let aa:H l2=Yc:=s1.free ab;let bc:=sq.Z (s1.trans s2);ext;refine eY (K:=K) (xs:=us) (λi u H3=>(∃y4 y5 y6 y7,u=[Yb (.ref a),Yb (.ref l1),Yb (.ref l2),y4,y5,y6,y7])/\MZ H l1 l2 ((l.take i).map (·.1)) (jg (l.take i)) H3/\cK [] [] l=cK ((l.take i).map (·.1)) (jg (l.take i)) (l.drop i)) #[#[_,_,_,_,rfl],#[s1.trans s2,a2,h2],rfl] ?_ ?_ ?_
 .rintro i u H3 hi ⟨_,o,_⟩;exact sq.Z o.s
 .rintro i xv u H3 hxv ⟨⟨_,_,_,_,rfl⟩,o,p⟩;let(t,Y,rx):=rs.get' hxv;rw[vv]at Y;let(kd,z,rfl):=ri.mp Y;let as:=(bH.mp z).1;let L:l.take (i+1)=l.take i++[kd]:=by rw[i3 as,(bH.mp z).2]
  let(br,av):=hB.2 kd (xn z);rw[uB z]at p;let(ka,k1,k2,rfl,ak,g1,g2):=(show Rp K H (.t [.s kd.1,.t (kd.2.map qA)]) xv from rx).t2;obtain rfl:=g1.aL;let a8:=ak.Z o.s;let(ae,I,rfl,M,N):=g2.aS;let aj:=N.length;rw[bM]at aj;generalize hah:(l.take i).map (·.1)=ah at o p;generalize hta:jg (l.take i)=ta at o p;let bl:ah.length<=10:=by rw[<-hah,bM,x9];omega
  let bi:ta.length+kd.2.length<=100:=by
   let e:jg (l.take (i+1))=ta++kd.2.map (·.1):=by rw[L,<-hta];unfold jg;rw[Pk];simp
   let hT:xY (l.take (i+1)):=#[OX (Vv _ _) aq,λx X=>hB.2 x (Pn X)];let:=qB hT;rw[e,mu,bM]at this;exact this
  let a1:=o.h1;ext;calc nw λp4 H4 s4 h4 bp=>?_;let bv:=s4 _ _ a1;let lc:(ah.map V.str).length+([.str kd.1]:Yi V).length<=lj:=small (by rw[bM];show _+1<=_;omega);ext;calc nw λp5 H5 s5 D bo=>?_;let ea:ah.map V.str++[.str kd.1]=(ah++[kd.1]).map V.str:=by simp
  rw[ea]at D;let h5:nq K Ye H5 p5 ((ah++[kd.1]).map V.str):=bA.of D;let R:=s4.trans s5;let ag:=o.s.trans R;let l5:(ah++[kd.1]).length<=500:=by rw[mu];show _+1<=_;omega
  let oE:∀x,cJ [] (ah++[kd.1])=Yb x->Told E H5 cT "name" (.str x):=λx X=>by
   rw[X]at p;exact(hE _ p).Z ag
  ext ao H6 s6;rw[ao]at p
  let g:cK [] [] l=match gj ah ta kd.2 with
    |some f=>Yb f
    |none=>cK (ah++[kd.1]) (ta++kd.2.map (·.1)) (l.drop (i+1)):=p
  let J:=R.trans s6;let i6:MZ H l1 l2 ah ta H6:=#[o.s.trans J,J _ _ o.h1,J _ _ o.h2];let a7:=M.Z i6.s;ext;refine eY (K:=K) (xs:=I) (λj u q=>(∃y6 y7,u=[Yb (.ref a),Yb (.ref l1),Yb (.ref l2),Yb (.str kd.1),Yb (.ref ae),y6,y7])/\MZ H l1 l2 ah (ta++(kd.2.take j).map (·.1)) q/\gj ah ta kd.2=gj ah (ta++(kd.2.take j).map (·.1)) (kd.2.drop j)) #[#[_,_,rfl],by rw[Rv,Qn,O0];calc i6,by rw[Rv,Qn,O0];rfl] ?_ ?_ ?_
  .rintro j u q hj ⟨_,m,_⟩;exact M.Z m.s
  .rintro j yv u q hyv ⟨⟨_,_,rfl⟩,m,B⟩;let(t,Y,ry):=N.get' hyv;rw[vv]at Y;let(d,y,rfl):=ri.mp Y;let ar:=(bH.mp y).1;let a5:kd.2.take (j+1)=kd.2.take j++[d]:=by rw[i3 ar,(bH.mp y).2]
   let bq:=av d (xn y);rw[vY y]at B;rw[B]at g;let(ga,w1,w2,rfl,a3,q1,q2):=(show Rp K H (.t [.s d.1,.t (d.2.map mX)]) yv from ry).t2;obtain rfl:=q1.aL;let(ia,bn,rfl,al,am):=q2.aS;let bb:=a3.Z m.s;generalize htj:ta++(kd.2.take j).map (·.1)=tj at m B g;let bg:tj.length<=99:=by rw[<-htj,mu,bM,x9];omega
   let a0:=m.h2;let ll:(tj.map V.str).length<lj:=aV (by rw[bM];omega);let et:tj.map V.str++[.str d.1]=(tj++[d.1]).map V.str:=by simp
   let s8:=m.s.oR aa (.Y (tj.map V.str++[.str d.1]));let h8:upd q l2 (.Y (tj.map V.str++[.str d.1])) l2=Yb (.Y ((tj++[d.1]).map V.str)):=by rw[af,et]
   let az:upd q l2 (.Y (tj.map V.str++[.str d.1])) l1=Yb (.Y (ah.map V.str)):=by rw[ay T];exact m.h1
   let k8:Kt q (upd q l2 (.Y (tj.map V.str++[.str d.1]))):=Kt.Y a0 _;let U:=(al.Z m.s).kt k8;let W:=(am.Z m.s).kt k8;let bs:nq K Ye (upd q l2 (.Y (tj.map V.str++[.str d.1]))) l2 ((tj++[d.1]).map V.str):=bA.of h8;let l8:(tj++[d.1]).length<=500:=by rw[mu];show _+1<=_;omega
   let bf:∀x,cJ [] (tj++[d.1])=Yb x->Told E (upd q l2 (.Y (tj.map V.str++[.str d.1]))) cT "name" (.str x):=λx X=>by
    rw[X]at g;exact(hE _ g).Z s8
   ext Z H9 O;rw[Z]at g B;let S:=s8.trans O;let ax:=O _ _ az;let aw:=O _ _ h8;let a9:=U.Z O;let ba:=W.Z O;let bk:d.2.length<=100:=()
   let bm:ah.length<=100:=()
   let be:∀n,fR (iF ah) d.2=Yb n->Told E H9 cN "name" (.str n):=λn hn=>by
    rw[hn]at g;exact(hE _ g).Z S
   ext an;rw[an]at B;let a4:ta++(kd.2.take (j+1)).map (·.1)=tj++[d.1]:=by rw[a5,i4,<-PC,htj];rfl
   rw[a4];exact#[#[_,_,rfl],#[S,ax,aw],B]
  .rintro u q ⟨⟨_,_,rfl⟩,m,B⟩;rw[show I.length=kd.2.length by omega,OO]at m;rw[show I.length=kd.2.length by omega,OO,Pa]at B;let a6:gj ah ta kd.2=Yc:=B;rw[a6]at g;let bt:=m.h1;let bj:(ah.map V.str).length<lj:=aV (by rw[bM];omega);let ad:(l.take (i+1)).map (·.1)=ah++[kd.1]:=by rw[L,i4,hah];rfl
   let ac:jg (l.take (i+1))=ta++kd.2.map (·.1):=by rw[L,<-hta];unfold jg;rw[Pk];simp
   ext
   .rw[ad,ac];exact#[m.s.oR ap _,by rw[af];simp,by rw[ay (Rj T)];calc m.h2]
   .rw[ad,ac];exact g
 .rintro u H3 ⟨_,o,p⟩;rw[show us.length=l.length by omega,Pa]at p;calc k p _ o.s
end G15
namespace L2
open PySem PySem.Spec PyProof.Rows
def DR (l j t1 g t2 e:Expr)(scope:P9)(pos:Pos)(it:eF)(D:Yh)(d:Env):Vr (.DictComp l j [#[t1,g,[],0],#[t2,e,[],0]] scope pos) 0 it (.ref D) d=(do
  UZ g.pos
  match←S4 it with
  |none=>pure (.done .next)
  |some v =>
   Qy t1 it v
   TQ t1 d v
   let x ←eval e d
   UZ e.pos
   let x ←Pg e d x
   let _ ←runOwn (.compStart (.DictComp l j [#[t1,g,[],0],#[t2,e,[],0]] scope pos) 1 (←Up [x] (Vo x)) (.ref D) d) d
   again (.compLoop (.DictComp l j [#[t1,g,[],0],#[t2,e,[],0]] scope pos) 0 it (.ref D) d)):=by
 rfl
def GC (g e t1 o t2 l:Expr)(scope:P9)(pos:Pos)(it:eF)(D:Yh)(d:Env):Vr (.DictComp g e [#[t1,o,[],0],#[t2,l,[],0]] scope pos) 1 it (.ref D) d=(do
  UZ l.pos
  match←S4 it with
  |none=>pure (.done .next)
  |some v =>
   Qy t2 it v
   TQ t2 d v
   (do
    let j ←eval g d
    let m ←Up [j] (eval e d)
    UZ {g.pos with endLine:=e.pos.endLine,endCol:=e.pos.endCol}
    Up [j,m] (dictSet D j m))
   again (.compLoop (.DictComp g e [#[t1,o,[],0],#[t2,l,[],0]] scope pos) 1 it (.ref D) d)):=by
 rfl
def GD (g:∀e s,¬E e s)(I:Nat->fy->Prop)(turn:∀n s,I n s->OH (OM prog w) A (S4 it) (λr l=>match r with
   |none=>R (.ok .next) l
   |some v=>OH (OM prog w) A (Qy t2 it v) (λ_ C=>OH (OM prog w) A (TQ t2 d v) (λ_ B =>
     OH (OM prog w) A (eval o d) (λx u=>OH (OM prog w) A (eval j d) (λy t =>
      OH (OM prog w) A (dictSet D x y) (λ_ p=>∃m,m<n/\I m p) E t) E u) E B) E C) E l) E s)(n:Nat)(h:I n s):Qs (OM prog w) A (.compLoop (.DictComp o j [#[t1,H,[],0],#[t2,G,[],0]] scope pos) 1 it (.ref D) d) R s:=by
 calc U9 rfl I (λn s q=>?_) n h;show OH _ A ((Vr (.DictComp o j [#[t1,H,[],0],#[t2,G,[],0]] scope pos) 1 it (.ref D) d).onRaise _) _ _ s;calc Vs ?_;rw[GC];refine cB (Qf (cB (O1 (turn n s q) (λr l q1=>?_) λe s z=>(g e s z).elim)))
 cases r with
 |none=>calc pC q1
 |some v =>
  calc cB (O1 q1 (λ_ C O=>cB (O1 O (λ_ B N=>?_) λe s z=>(g e s z).elim)) λe s z=>(g e s z).elim);calc cB (cB (O1 N (λx u M=>cB (PY (O1 M (λy t L=>cB (Qf (PY (O1 L (λ_ p J=>pC #[rfl,J]) λe s z=>(g e s z).elim)))) λe s z=>(g e s z).elim))) λe s z=>(g e s z).elim))
def DS (t:∀e s,¬E e s)(r:Qs (OM prog w) A (.compLoop (.DictComp o m [#[t1,p,[],0],#[t2,l,[],0]] scope pos) 1 it g d) R s)(h:OH (OM prog w) A (Vo it) (λj s'=>Qs (OM prog w) A (.compLoop (.DictComp o m [#[t1,p,[],0],#[t2,l,[],0]] scope pos) 1 j g d) R s') E s):
  Qs (OM prog w) A (.compStart (.DictComp o m [#[t1,p,[],0],#[t2,l,[],0]] scope pos) 1 it g d) R s:=by
 calc codeAny_of_tree ?_;show OH _ A ((compStart (.DictComp o m [#[t1,p,[],0],#[t2,l,[],0]] scope pos) 1 it g d).onRaise _) _ _ s;calc wpAny_notedAt ?_;unfold compStart;show OH _ A (ask>>=_) _ _ s;refine cB (wpAny_askSetting (wpAny_ite ?_))
 split
 .first
   |calc pC #[rfl,r]
   |exact cB (pC (pC #[rfl,r]))
 .refine cB (TV ?_);show OH _ _ (UZ l.pos>>=_) _ _ s;calc cB (Qf (cB (O1 h (λj s' q=>pC #[rfl,q]) λe s z=>(t e s z).elim)))
def DT (l:∀e s,¬E e s)(I:Nat->fy->Prop)(hs:∀x,Pg j d x=pure x)(turn:∀n s,I n s->OH (OM prog w) A (S4 it) (λr p=>match r with
   |none=>R (.ok .next) p
   |some v=>OH (OM prog w) A (Qy t1 it v) (λ_ H=>OH (OM prog w) A (TQ t1 d v) (λ_ G =>
     OH (OM prog w) A (eval j d) (λx C=>OH (OM prog w) A (Vo x) (λg B =>
      Qs (OM prog w) A (.compStart (.DictComp t o [#[t1,u,[],0],#[t2,j,[],0]] scope pos) 1 g (.ref D) d) (λr y=>match r with|.ok _=>∃m,m<n/\I m y|.error _=>False) B) E C) E G) E H) E p) E s)(n:Nat)(h:I n s):Qs (OM prog w) A (.compLoop (.DictComp t o [#[t1,u,[],0],#[t2,j,[],0]] scope pos) 0 it (.ref D) d) R s:=by
 calc U9 rfl I (λn s q=>?_) n h;show OH _ A ((Vr (.DictComp t o [#[t1,u,[],0],#[t2,j,[],0]] scope pos) 0 it (.ref D) d).onRaise _) _ _ s;calc Vs ?_;rw[DR];refine cB (Qf (cB (O1 (turn n s q) (λr p q1=>?_) λe s z=>(l e s z).elim)))
 cases r with
 |none=>calc pC q1
 |some v =>
  calc cB (O1 q1 (λ_ H O=>cB (O1 O (λ_ G N=>?_) λe s z=>(l e s z).elim)) λe s z=>(l e s z).elim);calc cB (O1 N (λx C M=>cB (Qf ?_)) λe s z=>(l e s z).elim);rw[hs x];calc cB (pC (cB (PY (O1 M (λg B L=>?_) λe s z=>(l e s z).elim))));refine cB (wpAny_runOwn (RY L λr y J=>?_))
  cases r with
  |ok f=>calc pC #[rfl,J]
  |error e=>calc J.elim
meta def AQ(J:It)(g:TG)(M:TI)(Z:TG)(X U:TE)(Q:VK)(L:St)(H0:Hp):Prop:=∃W:Nat->Nat->St->Yi (Key×V)->Hp->Prop,(∃m,W 0 m L [] H0)/\∀i m r o H,W i m r o H ->
 (J.stop i H/\o.length<=lj/\∀p,H p=Yc->Q (.ref p) (upd H p (.dK o))) \/
 (J.go i H/\∃N:St->Yi (Key×V)->Hp->Prop,(∀l u I,N l u I->∃z,z < m/\W (i+1) z l u I)/\∀x T,J.yld i H x T->g x r T λl I=>M l I λR H3 =>
  ∃O:Nat->Nat->St->Yi (Key×V)->Hp->Prop,(∃G,O 0 G l o H3)/\∀j G q d D,O j G q d D ->
   (R.stop j D/\N q d D) \/
   (R.go j D/\d.length<lj/\∃S:St->Yi (Key×V)->Hp->Prop,(∀e t C,S e t C->∃z,z < G/\O (j+1) z e t C)/\∀y C,R.yld j D y C->Z y q C λe H6 =>
    X e H6 λY H7=>U e H7 λv H8=>∃B,Y=kV B/\S e (putK d B v) H8))
meta def AR(own:Nat)(fr:Yi Nat)(j:TI)(g:TG)(d:TI)(o:TG)(m l:TE):TE:=λe H Q=>j e H λJ p=>AQ J g d o m l Q (iX own fr e) p
def LH {W2:Nat->Nat->St->Yi (Key×V)->Hp->Prop}{N:St->Yi (Key×V)->Hp->Prop}(hc:Y.calm=Yd)(hx:∀e s,¬Y.xe e s)(hg:PG Y aa g2)(hk:PE Y kx tk)(he:PE Y vx tv)(T:Turn Y.prog Y.w Y.K aa J2 fp it tn)(d:Jv Y D fo)(hp:∀p∈pl,p.1≠D)(hD:D∉fp)(stat:∀{H:Hp}{o:Obj},(∀b∈fp,H b=Yc)->∀b∈fp,qb Y ([(D,o)]++pl) H b)(I:Inv Y pl σ H s)(st:tn 0 s.heap)(fn:∀b∈fp,H b=Yc)(dn:H D=Yc)(dd:s.heap.DictOf (bg Y.prog Y.w) D C)(rv:KV kvs C)(w0:W2 0 m σ kvs H)(turn:∀j m2 X g H4,W2 j m2 X g H4 ->
   (J2.stop j H4/\N X g H4) \/
   (J2.go j H4/\g.length<lj/\∃N2:St->Yi (Key×V)->Hp->Prop,(∀l ag H5,N2 l ag H5->∃m',m' < m2/\W2 (j+1) m' l ag H5)/\∀y H5,J2.yld j H4 y H5->g2 y X H5 λl H6 =>
    tk l H6 λkv H7=>tv l H7 λv H8=>∃q,kv=kV q/\N2 l (putK g q v) H8))(fin:∀{σ:St}{H:Hp}{s:fy}{kvs:Yi (Key×V)}{C:Yi (Key×eF)},Inv Y pl σ H s->H D=Yc->s.heap.DictOf (bg Y.prog Y.w) D C->KV kvs C->N σ kvs H->R (.ok .next) s):
  Qs (OM Y.prog Y.w) Y.A (.compLoop (.DictComp kx vx [#[tg,iter,[],0],#[aa,iter2,[],0]] scope pos) 1 (.ref it) (.ref D) Y.env) R s:=by
 refine GD hx (λn s'=>∃j ae H' kvs C,Inv Y pl ae H' s'/\tn j s'.heap/\(∀b∈fp,H' b=Yc)/\H' D=Yc/\s'.heap.DictOf (bg Y.prog Y.w) D C/\KV kvs C/\W2 j n ae kvs H')
  ?_ m #[0,σ,H,kvs,C,I,st,fn,dn,dd,rv,w0]
 rintro n2 t3 ⟨j,B,G3,g,ac,K3,ah,aj,ak,au,ab,v3⟩;let(G,Q,S,ai,O,t,M,J,L):=id au;let al:=d.pin K3 ak ai λv z=>by rw[t]at z;cases z
 rcases turn j n2 B g G3 v3 with⟨stop2,q2⟩|⟨go2,hz2,N2,hN2,step2⟩
 .refine cX (T.done Y rfl rfl rfl hc j _ t3 B G3 Y.xe al (stat aj) ah stop2) λr t4 ⟨hr,K4⟩=>?_;subst hr;exact fin (K4.fB λp hp=>K4.pin p (rj _ (rj _ hp))) ak #[G,Q,S,(K4.pin (D,G) (rj _ (O4 _ (by simp)))).1,O,t,M,J,L] ab q2
 .refine cX (T.item Y rfl rfl rfl hc j _ t3 B G3 Y.xe al (stat aj) ah go2) λr t4 ⟨u2,hr,g4⟩=>?_;subst hr;calc cX g4 λ_ t5 ⟨y,G5,K5,ao,am,Z,as⟩=>?_;let av:=K5.pinned (stat as) (T.obj _ _ Z);calc cX (hg _ t5 B G5 y u2 _ av ao (step2 y G5 am)) λ_ t6 ⟨W,G6,K6,p6⟩=>?_;calc cX (hk _ t6 W G6 _ K6 p6) λx an ⟨a0,ax,aw,ap,aq⟩=>?_;calc cX (he _ an W ax _ aw aq) λy s8 ⟨v8,H8,J8,r8,n8⟩=>?_;let(q,rfl,n8):=n8;let(m',hm,w8):=hN2 _ _ _ n8;let pD:=J8.pin (D,G) (rj _ (O4 _ (O4 _ (by simp))))
  let pF:∀b∈fp,H8 b=Yc:=λb U=>by
   let(o,e,d):=T.obj _ _ Z b U;exact(J8.pin (b,o) (rj _ (rj _ (fc U e)))).2.1
  let pT:tn (j+1) s8.heap:=T.keep _ _ _ Z λb U o e=>(J8.pin (b,o) (rj _ (rj _ (fc U e)))).1;let ar:ac.length<=lj:=by let:=KV.length ab;omega
  refine wpAny_dictSet_pairs (rQ ap) (#[G,Q,S,pD.1,O,t,M,J,L]:s8.heap.DictOf (bg Y.prog Y.w) D ac) (λaz ad u=>?_) ar
  calc#[m',hm,j+1,W,H8,putK g q v8,stored ac q y,d.put (J8.fB λp hp=>J8.pin p (rj _ (O4 _ (rj _ hp)))) (λb o U e=>by rw[u.2 b U];calc e) pD.2.1 hp,
   T.keep _ _ _ pT λb U o e=>(u.2 b (λz=>hD (z▸U))).trans e,pF,pD.2.1,ad,ab.put q r8,w8]
def JM {ae:TI}{W:Nat->Nat->St->Yi (Key×V)->Hp->Prop}{Q:Yi (Key×V)->Hp->Prop}(hc:Y.calm=Yd)(hx:∀e s,¬Y.xe e s)(hg:PG Y tg g)(hi2:PI Y ab iter2 ae)(hg2:PG Y ab g2)(hk:PE Y kx tk)(he:PE Y vx tv)(hs2:∀x,Pg iter2 Y.env x=pure x)(T:Turn Y.prog Y.w Y.K tg J fp it tn)(d:Jv Y D fp)(I:Inv Y [] σ H s)(st:tn 0 s.heap)(fn:∀b∈fp,H b=Yc)(dn:H D=Yc)(dd:s.heap.DictOf (bg Y.prog Y.w) D [])(w0:W 0 m σ [] H)(turn:∀i m σ' kvs H,W i m σ' kvs H ->
 (J.stop i H/\kvs.length<=lj/\Q kvs H) \/
 (J.go i H/\∃N:St->Yi (Key×V)->Hp->Prop,(∀L ah H2,N L ah H2->∃m',m' < m/\W (i+1) m' L ah H2)/\∀x G,J.yld i H x G->g x σ' G λL H2=>ae L H2 λJ2 H3 =>
  ∃W2:Nat->Nat->St->Yi (Key×V)->Hp->Prop,(∃m2,W2 0 m2 L kvs H3)/\∀j m2 l B H4,W2 j m2 l B H4 ->
   (J2.stop j H4/\N l B H4) \/
   (J2.go j H4/\B.length<lj/\∃N2:St->Yi (Key×V)->Hp->Prop,(∀C ag Z,N2 C ag Z->∃m',m' < m2/\W2 (j+1) m' C ag Z)/\∀y Z,J2.yld j H4 y Z->g2 y l Z λC H6 =>
    tk C H6 λkv H7=>tv C H7 λv H8=>∃aq,kv=kV aq/\N2 C (putK B aq v) H8)))(fin:∀{σ:St}{H:Hp}{s:fy}{pl:Yi (Yh×Obj)}{kvs:Yi (Key×V)}{S:Yi (Key×eF)},Inv Y pl σ H s->H D=Yc->s.heap.DictOf (bg Y.prog Y.w) D S->KV kvs S->kvs.length<=lj->Q kvs H->R (.ok .next) s):
  Qs (OM Y.prog Y.w) Y.A (.compLoop (.DictComp kx vx [#[tg,iter,[],0],#[ab,iter2,[],0]] scope pos) 0 (.ref it) (.ref D) Y.env) R s:=by
 refine DT hx (λn s'=>∃i σ' G kvs S,Inv Y [] σ' G s'/\tn i s'.heap/\(∀b∈fp,G b=Yc)/\G D=Yc/\s'.heap.DictOf (bg Y.prog Y.w) D S/\KV kvs S/\W i n σ' kvs G)
  hs2 ?_ m #[0,σ,H,[],[],I,st,fn,dn,dd,.nil,w0]
 rintro n s3 ⟨i,l,H3,kvs,S,J3,aj,ar,as,a1,rv,w3⟩;let(U,ao,ap,ax,an,ad,am,ak,al):=id a1;let au:Inv Y [(D,U)] l H3 s3:=d.pin (pl:=[]) J3 as ax λv z=>by rw[ad]at z;cases z
 let t:∀p∈[(D,U)],p.1=D:=λp hp=>by
  let e':p=(D,U):=by simpa using hp
  rw[e']
 rcases turn i n l kvs H3 w3 with⟨stop,hz,q⟩|⟨go,N,hN,step⟩
 .refine cX (T.done Y rfl rfl rfl hc i _ s3 l H3 Y.xe au (d.stat ar t) aj stop) λr s4 ⟨hr,J4⟩=>?_;subst hr;exact fin J4 as #[U,ao,ap,(J4.pin (D,U) (rj _ (by simp))).1,an,ad,am,ak,al] rv hz q
 .refine cX (T.item Y rfl rfl rfl hc i _ s3 l H3 Y.xe au (d.stat ar t) aj go) λr s4 ⟨u,hr,h4⟩=>?_;subst hr;calc cX h4 λ_ s5 ⟨x,Z,J5,r5,y5,ac,az⟩=>?_;let a2:=J5.pinned (d.stat az t) (T.obj _ _ ac);calc cX (hg _ s5 l Z x u _ a2 r5 (step x Z y5)) λ_ s6 ⟨av,H6,J6,q6⟩=>?_;calc cX (hi2 _ s6 av H6 _ J6 q6) λv7 s7 h7=>cX h7 λa3 s8 h8=>?_;let(a6,a0,a4,J2,H8,e8,I8,T2,ai,f8,W2,(a5,aw),aa):=h8;subst e8;let z:=I8.pin (D,U) (rj _ (O4 _ (by simp)));let X:D∉a0:=λhm=>(f8 _ hm).2.2.2.2.2 (D,U) (rj _ (O4 _ (by simp))) rfl
  let M:=LH (R:=λr s6=>match r with|.ok _=>∃m,m<n/\∃i σ' G kvs S,Inv Y [] σ' G s6/\tn i s6.heap/\(∀b∈fp,G b=Yc)/\G D=Yc/\s6.heap.DictOf (bg Y.prog Y.w) D S/\KV kvs S/\W i m σ' kvs G|.error _=>False) (pl:=pI fp s5.heap) (tg:=tg) (iter:=iter) (iter2:=iter2) (scope:=scope) (pos:=pos)
   hc hx hg2 hk he T2 d (λp hp z=>d.out (by let:=(vD hp).1;rw[z]at this;calc this)) X (λ{G o'} hn b O=>by
    let(z0,z1,z2,z3,z4,z5):=f8 b O;calc#[hn b O,z1,z2,z3,z4,λp hp=>?_];rcases IF.mp hp with hp|hp
    .exact z5 p (O4 _ hp)
    .rcases IF.mp hp with hp|hp
     .have e':p=(D,o'):=by simpa using hp
      rw[e'];exact λz=>X ((show D=b from z)▸O)
     .exact z5 p (rj _ (rj _ hp)))
   (I8.fB λp hp=>I8.pin p (rj _ (rj _ hp))) ai (λb O=>(f8 b O).1) z.2.1 #[U,ao,ap,z.1,an,ad,am,ak,al] rv aw aa λ{σ9 H9 s9 kvs9 rs9} J9 dn9 dd9 rv9 q9=>by
    let(m',hm,w7):=hN _ _ _ q9;calc#[m',hm,i+1,σ9,H9,kvs9,rs9,J9.fB (λp hp=>absurd hp (by simp)),T.keep _ _ _ ac λb O o e=>(J9.pin (b,o) (rj _ (fc O e))).1,λb O=>?_,dn9,dd9,rv9,w7];let(o,e,d):=T.obj _ _ ac b O;exact(J9.pin (b,o) (rj _ (fc O e))).2.1
  calc DS hx M (T2.self Y.A 0 _ _ _ ai M)
def B7 (own:Yi Yg)(fr:Yi Nat)(B:X.calm=Yd)(hkind:scope.kind=.function)(hcell:∀x∈scope.names,x.2≠.cell)(hnames:∀x∈scope.names,x.2=.local->scope.names.lookup x.1=Yb .local)(hfr:∀x∈scope.names,x.2=.free->X.env.scope.names.lookup x.1=Yb .cell\/X.env.scope.names.lookup x.1=Yb .free)(hin:∀j∈fr,scope.names.lookup (X.N.getD j OU)=Yb .free)(hi:PI X tg iter p)(hg:∀e C s H,PG (br X scope (own++fr.map λj=>X.N.getD j OU) e C s H) tg g)(hi2:∀e C s H,PI (br X scope (own++fr.map λj=>X.N.getD j OU) e C s H) l iter2 m)(hg2:∀e C s H,PG (br X scope (own++fr.map λj=>X.N.getD j OU) e C s H) l y)(hk:∀e C s H,PE (br X scope (own++fr.map λj=>X.N.getD j OU) e C s H) v t)(he:∀e C s H,PE (br X scope (own++fr.map λj=>X.N.getD j OU) e C s H) q r)(hs:∀x,Pg iter X.env x=pure x:=by intro _;rfl)(hs2:∀o x,Pg iter2 o x=pure x:=by intro _ _;rfl):PE X (.DictComp v q [#[tg,iter,[],0],#[l,iter2,[],0]] scope pos) (AR own.length fr p g m y t r):=by
 intro u s D H Q I h
 exact vS own fr hkind hcell hnames hfr hin hi hs I h λ{it e tn J s2 s' H2 C R} T ⟨W,⟨m0,w0⟩,turn⟩ d I3 st f2 dn dd fin =>
  JM B (λ_ _ z=>z) (hg _ _ _ _) (hi2 _ _ _ _) (hg2 _ _ _ _) (hk _ _ _ _) (he _ _ _ _) (hs2 _) T d I3 st f2 dn dd w0 turn fin
def zX (D:P9)(m own:Yi Yg)(fr:Yi Nat)(O:X.calm=Yd)(r:X.env.scope=D)(Q:X.N=m)(ok:nK scope D m fr=Yd)(hi:PI X tg iter u)(hg:∀d C s H,PG (br X scope (own++fr.map λj=>m.getD j OU) d C s H) tg g)(hi2:∀d C s H,PI (br X scope (own++fr.map λj=>m.getD j OU) d C s H) l iter2 o)(hg2:∀d C s H,PG (br X scope (own++fr.map λj=>m.getD j OU) d C s H) l I)(hk:∀d C s H,PE (br X scope (own++fr.map λj=>m.getD j OU) d C s H) G B)(he:∀d C s H,PE (br X scope (own++fr.map λj=>m.getD j OU) d C s H) v y)(hs:∀x,Pg iter X.env x=pure x:=by intro _;rfl)(hs2:∀t x,Pg iter2 t x=pure x:=by intro _ _;rfl):PE X (.DictComp G v [#[tg,iter,[],0],#[l,iter2,[],0]] scope pos) (AR own.length fr u g o I B y):=by
 subst r Q;unfold nK at ok;simp only[Pd,Pj,bne_iff_ne,beq_iff_eq,QN]at ok;let((L,q),J):=ok;refine B7 own fr O L (λx p=>(q x p).1.1) (λx p e=>?_) (λx p e=>?_) (λj M=>J j M) hi hg hi2 hg2 hk he hs hs2
 .rcases(q x p).1.2 with z|z
  .exact absurd e z
  .exact z
 .rcases(q x p).2 with(z|z)|z
  .exact absurd e z
  .exact .inl z
  .exact .inr z
meta def M0(d:Obj)(e:Array Rh)(ep:Nat)(h:Heap)(l:Yh):Prop:=h.get? l=Yb d/\d.ExactDict/\d.data=.dict e ep/\(l == Qq)=Ye
meta def M1(d:Array Rh)(ep:Nat)(h:Heap)(i l:Yh)(k:Nat):Prop:=h.IsKeyIter i l k d.size ep
def M0.at (x:M0 ob es ep h l)(k:∀o,h.get? l=Yb o->h'.get? l=Yb o):M0 ob es ep h' l:=#[k _ x.1,x.2]
def M1.at (x:M1 es ep h i l n)(k:∀o,h.get? i=Yb o->h'.get? i=Yb o):M1 es ep h' i l n:=by
 let(o,e,r):=x;calc#[o,k o e,r]
def Inv.nX (I:Inv X d l H s)(j:H p=Yb (.dK kvs))(y:s.heap.get? p=Yb t):Inv X d l (upd H p (.nX t (.dK kvs))) s:=by
 let g:∀{b u},H b=Yb u->u≠.dK kvs->b≠p:=λe n z=>by subst z;rw[j]at e;exact n (OL e).symm
 refine I.step (g':=s.gens) (d':=s.drawn) (t':=s.toks) (h':=s.heap) (ch:=[]) ⋯ (λb o _ _ _ e _=>e) (λb o _ _ _ e _=>#[o.slots,e]) (λb o _ _ n=>?_) (λb o _ e=>#[o,e]) (λb r e=>?_) (λb o u e=>?_) (λb B e=>#[#[],?_]) (λm h=>h) (λb u e=>?_) I.bare
 .rw[ay (λz=>by subst z;rw[j]at n;cases n)];exact n
 .rw[ay (g e nofun)];exact e
 .rw[ay (g e nofun)];exact e
 .rw[ay (g e nofun)];simpa using e
 .by_cases v:b=p
  .subst v;rw[af]at e
   cases e
   refine#[y,(I.hok b _ j).stay (λ_ _ _ q=>q) (λc q=>?_) λc r q=>?_]
   .rw[ay (g q nofun)];exact q
   .rw[ay (g q nofun)];exact q
  .rw[ay v]at e;refine(I.hok b u e).stay (λ_ _ _ q=>q) (λc q=>?_) λc r q=>?_
   .rw[ay (g q nofun)];exact q
   .rw[ay (g q nofun)];calc q
def AS (h:(bg P w).is k v=Yd):RelV (kV k) v:=by
 rcases ez (show tu k v=Yd from h)with⟨i,t,rfl,rfl⟩|⟨x,t,rfl,rfl⟩
 .exact#[t,rfl]
 .exact#[t,rfl]
def B8 :entryFor table "dict_itemiterator.__iter__"=Yb Ry.«dict_keyiterator.__iter__» :=
 entryFor_alias (id':="dict_keyiterator.__iter__") (by kernel_rfl) rfl (by decide) (by kernel_rfl)
meta def Itm (d : Obj) (kvs : Yi (Key × V)) (l : Yh) : It :=
  #[λi H => H l = Yb (.nX d (.dK kvs)) ∧ i < kvs.length,
   λi H v g => ∃ p e, H p = Yc ∧ v = .ref p ∧ g = upd H p (.J [kV e.1, e.2]) ∧ kvs[i]? = Yb e,
   λi H => H l = Yb (.nX d (.dK kvs)) ∧ kvs.length ≤ i]
def KV.get (r:KV kvs vs):∀{i:Nat}{e:Key×V},kvs[i]?=Yb e->∃u,vs[i]?=Yb (e.1,u)/\RelV e.2 u:=by
 induction r with
 |nil=>intro i e h;simp at h
 |@cons a b l1 l2 q t ih =>
  intro i e h
  cases i with
  |zero =>
   simp only[Sw,SM]at h;subst h;calc#[b.2,?_,q.2];simp only[Sw,SM];calc Prod.ext q.1.symm rfl
  |succ n=>calc ih (by simpa using h)
def zY {K:bN}(he:m.ExactDict)(hd:m.data=.dict N ep)(D:KeysOf (bg P w) N)(B:Pairs (bg P w) N.toList vs)(C:(vs.map (·.1)).Nodup)(r:KV kvs vs)(it l:Yh)(ac:l≠it):
  Turn P w K (.Tuple O x1 pos) (Itm m kvs l) [it] it (λi h=>∃ok j,IsItemIter h it l i vs.length ep ok j) where
 mem:=by simp
 obj:=λi h g c e=>by
  let(ok,j,d):=g;obtain rfl:c=it:=by simpa using e
  exact#[_,d,λv z=>by cases z]
 keep:=λi h h' g k=>by
  let(ok,j,d):=g;exact#[ok,j,k it (by simp) _ d]
 item:=by
  intro X hP S hK e i t s σ H E I Q g Z;subst hP S hK;let(T,hi):=Z;let(ok,j,d):=g;let p:s.heap.DictAt (bg X.prog X.w) l vs ep:=#[m,N,(show eS X.prog X.w H s.heap l (.nX m (.dK kvs))from I.hok l _ T).1,he,hd,D,B,C];let hx:kvs[i]?=Yb kvs[i]:=by simp[hi]
  let(u,hu,ru):=r.get hx;calc wpAny_pyNext_items_item d p hu λR h' Y ho L ab U=>?_;refine#[.ref s⁻¹,rfl,wpAny_letOwnedTupleGo_items (s:={s with heap:=h'}) ho λM aa y=>?_]
  let ne:it≠s⁻¹:=λz=>by
   let:=OG d;rw[z]at this;exact PN _ this
  let kk:∀c o,c∉[it]->s.heap.get? c=Yb o->M.get? c=Yb o:=λc o e q=>by
   let G:c≠it:=by simpa using e
   exact(y.2 c G).trans (U c o G q)
  let J:M.get? s⁻¹=Yb {cls:=.type "tuple",data:=.seq #[R,u,]}:=(y.2 _ ne.symm).trans L
  refine#[.ref s⁻¹,upd H s⁻¹ (.J [kV kvs[i].1,kvs[i].2]),I.xm (t':=s.toks) Q kk (i5 _) #[(by show 2<=lj;decide),_,.cons (AS Y) (.cons ru .nil),#[_,J,rfl,_,rfl],_,J,rfl],rfl,
   #[_,kvs[i],I.hok.fresh (i5 _),rfl,rfl,hx],#[_,_,aa],λc e=>?_]
  obtain rfl:c=it:=by simpa using e
  rw[ay ne];exact(Q c e).1
 done:=by
  intro X hP S hK e i t s σ H E I Q g Z;subst hP S hK;let(T,hi):=Z;let(ok,j,d):=g;let p:s.heap.DictAt (bg X.prog X.w) l vs ep:=#[m,N,(show eS X.prog X.w H s.heap l (.nX m (.dK kvs))from I.hok l _ T).1,he,hd,D,B,C]
  let hn:vs[i]?=Yc:=by
   let:=r.length;simp;omega
  refine wpAny_pyNext_items_end (I.ok.hd e) d p hn λh' Y=>#[rfl,I.xh (t':=s.toks) Q λc o e q=>Y c o (by simpa using e) q]
 self:=λ_ _ _ _ _ g h=>by
  let(ok,j,d):=g
  rename_i s0 _ _
  let L:s0.TypeIs (.ref it) "dict_itemiterator":=#[_,d,rfl];calc wpAny_pyIter_slot L Ti (QB Ti L B8 ?_ (F.args_dict_itemiterator_iter_1 _));show OH _ _ (ret (.ref it)) _ _ s0;calc pC #[_,rfl,"dict_itemiterator",_,L,F.slot_dict_itemiterator_next.lookup,h]
meta def JN(l:TE):TI:=λj H R=>l j H λv g=>∃p d,v=.ref p/\g p=Yb (.dK d)/\∀e,R (Itm e d p) (upd g p (.nX e (.dK d)))
def yP {V:TE}(B:PE X o V)(hbase:R8 o "items" X.env (eval o X.env)=eval o X.env:=by rfl)(hline:(r.endLine == l.line)=Yd:=by rfl):PI X (.Tuple L x1 pos) (.Call (.Attribute o "items" r) [] [] l) (JN V):=by
 intro m s U H R I h;calc UP hbase hline (cX (B m s U H _ I h) λv g ⟨x,H1,Z,r1,p,kvs,e,W,q1⟩=>?_);subst e;obtain rfl:v=Value.ref p:=r1;let(ab,Q,C,N,D,Y,ep,B,j,z,y,t,u):=tS Z.hok (.inl W);let M:g.heap.DictOf (bg X.prog X.w) p C:=#[D,Y,ep,B,j,z,y,t,u];calc#["dict","dict.items",F.plainAttrs_dict,F.slot_dict_items,F.type_dict_items,M.typeIs,M.mapOf.noDict,?_];show OH _ _ (callWith l (.builtin "dict.items") [.ref p] [] []) _ _ g;calc method_meetsIn F.slot_dict_items F.entry_dict_items rfl (VE #[rfl,M.typeIs,F.args_dict_items_1 _,_,meets_dict_items (bg X.prog X.w) p Q,#[C,M],?_]);let aa:@LT.lt Nat _ p g⁻¹:=OG B;let S:g.heap.DictAt (bg X.prog X.w) p C ep:=#[D,Y,B,j,z,y,t,u];let O:(g.heap.push {cls:=.type "dict_items",data:=.fields #[.ref p]}).objs.size=g⁻¹+1:=PL ..;show OH _ _ (Vo (.ref g⁻¹)) _ _ _;calc wpAny_pyIter_items (knd:=bg X.prog X.w) (d:=p) (kvs:=C) (ep:=ep) #[_,OI _ rfl,rfl,rfl] (S.push _) ?_;let T:Inv X m U (upd H1 p (.nX D (.dK kvs))) g:=Z.nX W B;dsimp only;let G:=OI (g.heap.push {cls:=.type "dict_items",data:=.fields #[.ref p]}) (o:={cls:=.type "dict_itemiterator",data:=.fields #[.none,.bool Ye,.ref p,.int 0 0,.int C.length 0,.int ep 0,.none,.none,]}) rfl;rw[O]at G|-;refine#[g⁻¹+1,[g⁻¹+1],_,_,upd H1 p (.nX D (.dK kvs)),rfl,T.kept (t':=g.toks) (λc o q=>mH _ (mH _ q)),zY j z y t u N _ p (by show @Ne Nat _ _;omega),#[_,_,G],λb hb=>?_,q1 D]
 let J:g⁻¹<=b:=by
  obtain rfl:b=g⁻¹+1:=by simpa using hb
  exact Q2 _ 1
 calc T.By J (T.hok.fresh J)
def rY (l:Nat->St->Yi (Key×V)->Hp->Prop)(I:l 0 σ0 [] H0)(q:∀i d kvs H,i<=xs.length->l i d kvs H->kvs.length<=i)(hn:xs.length<=lj)(u:∀i d kvs H,i<=xs.length->l i d kvs H->H a=Yb (.nX t (.dK xs)))(hs:∀i x d kvs H p,xs[i]?=Yb x->l i d kvs H->H p=Yc->g (.ref p) d (upd H p (.J [kV x.1,x.2])) λj M=>tt j M λok z=>if ok=Yd then tk j z λC L=>tv j L λv J=>∃o,C=kV o/\l (i+1) j (putK kvs o v) J else l (i+1) j kvs z)(hd:∀d kvs H,l xs.length d kvs H->∀p,H p=Yc->Q (.ref p) (upd H p (.dK kvs))):wX (Itm t xs a) g tt tk tv Q σ0 H0:=by
 calc yF xs.length l I q hn (λi d m H r p=>#[u i d m H (O7 r) p,r]) (λd m H p=>#[u _ d m H (i5 _) p,i5 _]) (λi d m H x N r p y=>?_) hd;let(B,e,G,rfl,rfl,D):=y;calc hs i e d m H B D p G
meta def Nj(u:It)(H:TG)(D C:TE)(N:St->Yi (Key×V)->Hp->Prop)(r:St)(kvs:Yi (Key×V))(M:Hp):Prop :=
 ∃t:Nat->Nat->St->Yi (Key×V)->Hp->Prop,(∃q,t 0 q r kvs M)/\∀j q g d p,t j q g d p ->
   (u.stop j p/\N g d p) \/
   (u.go j p/\d.length<lj/\∃B:St->Yi (Key×V)->Hp->Prop,(∀e l o,B e l o->∃z,z < q/\t (j+1) z e l o)/\∀y o,u.yld j p y o->H y g o λe L =>
    D e L λG J=>C e J λv I=>∃m,G=kV m/\B e (putK d m v) I)
def zZ {K:bN}(j:Nat->St->Yi (Key×V)->Hp->Prop)(z:j 0 σ0 [] H0)(u:∀i d kvs H,i<=xs.length->j i d kvs H->bY K H a xs)(hs:∀i x d kvs H,xs[i]?=Yb x->j i d kvs H->g x d H λl r=>wi2 l r λB C=>Nj B g2 tk tv (j (i+1)) l kvs C)(hz:∀d kvs H,j xs.length d kvs H->kvs.length<=lj)(hd:∀d kvs H,j xs.length d kvs H->∀p,H p=Yc->Q (.ref p) (upd H p (.dK kvs))):AQ (Ax K a) g wi2 g2 tk tv Q σ0 H0:=by
 calc#[λi m d kvs H=>m=xs.length-i/\i<=xs.length/\j i d kvs H,#[xs.length,by simp,ON _,z],?_];rintro i m d kvs H ⟨rfl,v,p⟩;let q1:=u i d kvs H v p
 by_cases o:i<xs.length
 .refine .inr #[#[xs,xs[i],q1,by simp[o]],j (i+1),λl t r q=>#[xs.length - (i+1),(),rfl,o,q],λx D y=>?_];let(rfl,y):=y;exact hs i x d kvs _ (y xs q1) p
 .have e:i=xs.length:=()
  subst e;calc .inl #[#[xs,q1,i5 _],hz d kvs H p,hd d kvs H p]
def GF {K:bN}(l:Nat->St->Yi (Key×V)->Hp->Prop)(G:l 0 σ0 kvs H0)(C:∀j d kvs H,j<=ys.length->l j d kvs H->bY K H b ys)(hn:∀j d kvs H,j<ys.length->l j d kvs H->kvs.length<lj)(hs:∀j y d kvs H,ys[j]?=Yb y->l j d kvs H->g2 y d H λo L=>tk o L λB J=>tv o J λv I=>∃t,B=kV t/\l (j+1) o (putK kvs t v) I)(hd:∀d kvs H,l ys.length d kvs H->N d kvs H):Nj (Ax K b) g2 tk tv N σ0 kvs H0:=by
 calc#[λj m d kvs H=>m=ys.length-j/\j<=ys.length/\l j d kvs H,#[ys.length,by simp,ON _,G],?_];rintro j m d kvs H ⟨rfl,D,p⟩;let q1:=C j d kvs H D p
 by_cases r:j<ys.length
 .refine .inr #[#[ys,ys[j],q1,by simp[r]],hn j d kvs H r p,l (j+1),λu z M q=>#[ys.length - (j+1),(),rfl,r,q],λx O y=>?_];let(rfl,y):=y;exact hs j x d kvs _ (y ys q1) p
 .have e:j=ys.length:=()
  subst e;calc .inl #[#[ys,q1,i5 _],hd d kvs H p]
def Paired.yQ {F:α->β->Prop}{l1:Yi α}{l2:List β}(r:Paired F l1 l2){a:α}{b:β}(h:F a b):Paired F (l1++[a]) (l2++[b]):=by
 induction r with
 |nil=>calc .cons h .nil
 |cons q t ih=>calc .cons q ih
def Paired.getL {F:α->β->Prop}{l1:Yi α}{l2:List β}(r:Paired F l1 l2):∀{i:Nat}{b:β},l2[i]?=Yb b->∃a,l1[i]?=Yb a/\F a b:=by
 induction r with
 |nil=>intro i b h;simp at h
 |@cons a b l1 l2 q t ih =>
  intro i c h
  cases i with
  |zero =>
   simp only[Sw,SM]at h;subst h;calc#[a,by simp,q]
  |succ n =>
   let(x,d,f):=ih (by simpa using h);calc#[x,by simpa using d,f]
def mG {d:Yi (Key×V)}(h:∀e∈d,e.1≠k):putK d k v=d++[(k,v)]:=by
 unfold putK
 let:(d.any λe=>decide (e.1=k))=Ye:=by
  rw[SD];intro e g
  simpa using h e g
 rw[this];rfl
end L2
namespace G15
open PySem L2
meta def tl(kl:Kl):Yi (Yg×Yg×Yi Kk):=kl.flatMap λk=>k.2.map λt=>(t.1,k.1,t.2)
meta def GG(K:bN)(H:Hp)(x:Yg×Yg×Yi Kk)(e:Key×V):Prop:=∃q d,e=(Sum.inr x.1,V.ref q)/\H q=Yb (.J [.str x.2.1,d])/\Rp K H (.t (x.2.2.map mX)) d
def GG.Z (t:GG K H x e)(s:aR H d):GG K d x e:=by
 let(q,g,e,h,r):=t;calc#[q,g,e,s _ _ h,r.Z s]
def pS (kl:Kl):(tl kl).map (·.1)=jg kl:=by
 unfold tl jg;rw[List.map_flatMap]
 congr 1
 funext k
 rw[Pz];rfl
def sS (l:Kl)(k:Yg×Yi (Yg×Yi Kk)):tl (l++[k])=tl l++k.2.map λt=>(t.1,k.1,t.2):=by
 unfold tl;rw[Pk];simp
meta def yR(K:bN):Sp:=λj H Q _=>∃(v:V) (e:Kl) (l:T),j=[v]/\Rp K H (.t [.t (e.map jo),l]) v/\xY e/\(jg e).Nodup /\
 ∀(p:Yh) (g:Hp) (d:Yi (Key×V)),aR H g->H p=Yc->g p=Yb (.dK d)->Paired (GG K g) (tl e) d->Q (.ref p) g
structure Nk(K:bN) (H:Hp) (xs:Yi (Yg×Yg×Yi Kk)) (H2:Hp) (kvs:Yi (Key×V)):Prop where
 s:aR H H2
 p:Paired (GG K H2) xs kvs
def uC :Nm XM (ak j5):=by decide
def uD :Lm XM (ak j5):=by decide
def pU :aY XM X5 (ak j5):=by ac_rfl
def Aa (F:jn K "tags_of" "tags_of" j5 f fd):Zt gz 1 f fd X5 (yR K):=by
 refine F.ok pU (λvs H Q E h=>?_) (λcdv A outer s H vs Q E hr h=>?_)
 .have(_,_,_,rfl,_):=h;rfl
 let(v,g,dt,rfl,r,hB,ag,k):=h;refine#[_,(Z5 (@iD _ _ _ _ _ _ (va uC 0) (Zb (2) (Zf (ga pU.nd uD 1) (Zs (ga pU.nd uD 2)))) (by rfl) (by rfl) (by rfl)) (Zd (Zp (zX (ak j5) XM Xg [] rfl rfl rfl (by decide) (cG (va uC 1)) (λ_ _ _ _=>(Zb (2) (Zf (Zx Xg 0) (Zs (Zx Xg 1))))) (λ_ _ _ _=>(AN K rfl (Zw Xg 1))) (λ_ _ _ _=>(Zb (2) (Zf (Zx Xg 2) (Zs (Zx Xg 3))))) (λ_ _ _ _=>(Zw Xg 2)) (λ_ _ _ _=>(Zk (Z1 (Zw Xg 0) (Zc (Zw Xg 3))))))))),?_]
 right
 let(pa,u1,u2,rfl,aq,g1,g2):=r.t2;let(a,W,rfl,sq,rs):=g1.aS;let Y:=rs.length;rw[bM]at Y;let aa:=qB hB;rw[<-pS,bM]at aa;ext;refine zZ (K:=K) (xs:=W) (λi o d R=>(∃y1 y2 V U,o=[y1,y2,V,U])/\Nk K H (tl (g.take i)) R d) #[#[_,_,_,_,rfl],aR.refl _,.nil] ?_ ?_ ?_ ?_
 .rintro i o d R hi ⟨_,l⟩;exact sq.Z l.s
 .rintro i xv o d R hxv ⟨⟨_,_,_,_,rfl⟩,l⟩;let(t,L,rx):=rs.get' hxv;rw[vv]at L;let(kd,N,rfl):=ri.mp L;let aj:=(bH.mp N).1;let y:g.take (i+1)=g.take i++[kd]:=by rw[i3 aj,(bH.mp N).2]
  let(ka,k1,k2,rfl,ab,q1,q2):=(show Rp K H (.t [.s kd.1,.t (kd.2.map qA)]) xv from rx).t2;obtain rfl:=q1.aL;let ao:=ab.Z l.s;let(X,D,rfl,G,I):=q2.aS;let Z:=I.length;rw[bM]at Z;let an:=G.Z l.s;ext
  let M:∀j,j<=kd.2.length->((tl (g.take i)++(kd.2.take j).map λt=>(t.1,kd.1,t.2)).map (·.1)).Nodup:=λj hj=>by
   calc ag.sublist ?_;rw[<-pS];calc R1 _ ?_;refine Wg.trans (l₂:=tl (g.take (i+1))) ?_ ?_
   .rw[y,sS];exact Wg.append (Wg.refl _) (R1 _ (RO _ _))
   .conv=>rhs;rw[<-Rb (i+1) g]
    unfold tl;rw[Pk];exact List.sublist_append_left _ _
  let ac:∀j,(tl (g.take i)++(kd.2.take j).map λt=>(t.1,kd.1,t.2)).length<=100:=λj=>by
   let e:(tl (g.take (i+1))).length<=(tl g).length:=by
    conv=>rhs;rw[<-Rb (i+1) g]
    unfold tl;rw[Pk,mu];omega
   rw[y,sS,mu,bM]at e;rw[mu,bM,x9];omega
  refine GF (K:=K) (ys:=D) (λj o d B=>(∃V U,o=[Yb (.str kd.1),Yb (.ref X),V,U])/\Nk K H (tl (g.take i)++(kd.2.take j).map λt=>(t.1,kd.1,t.2)) B d) #[#[_,_,rfl],by rw[Rv,Qn,O0];calc l] ?_ ?_ ?_ ?_
  .rintro j o d B hj ⟨_,m⟩;exact G.Z m.s
  .rintro j o d B hj ⟨_,m⟩;let e1:=m.p.length;let e2:=ac j;exact aV ()
  .rintro j yv o d B hyv ⟨⟨_,_,rfl⟩,m⟩;let(t,L,ry):=I.get' hyv;rw[vv]at L;let(u,J,rfl):=ri.mp L;let O:=(bH.mp J).1;let am:kd.2.take (j+1)=kd.2.take j++[u]:=by rw[i3 O,(bH.mp J).2]
   let(ga,w1,C,rfl,al,p1,p2):=(show Rp K H (.t [.s u.1,.t (u.2.map mX)]) yv from ry).t2;obtain rfl:=p1.aL;let ap:=al.Z m.s;let r3:=p2.Z m.s;let hn:=M (j+1) O;let en:(tl (g.take i)++(kd.2.take (j+1)).map λt=>(t.1,kd.1,t.2))=(tl (g.take i)++(kd.2.take j).map λt=>(t.1,kd.1,t.2))++[(u.1,kd.1,u.2)]:=by rw[am,i4,PC];rfl
   rw[en,i4]at hn
   let nw:∀kv∈d,kv.1≠Sum.inr u.1:=λkv ai z=>by
    let(n,ah):=Po ai;let(x,hx,q,iv,e,_):=Paired.getL m.p ah;rw[e]at z;let z':x.1=u.1:=PZ z;let:=(Qc.mp hn).2.2 x.1 (O6 (xn hx)) u.1 (by simp);exact this z'
   ext T ad;let S:=ae ad (.J [.str kd.1,C]);let h4:upd B T (.J [.str kd.1,C]) T=Yb (.J [.str kd.1,C]):=af;generalize upd B T (.J [.str kd.1,C])=H4 at S h4|-;calc#[Sum.inr u.1,rfl,#[_,_,rfl],?_];rw[mG nw,en];exact#[m.s.trans S,Paired.yQ (Paired.imp' (λx e h=>GG.Z h S) m.p) #[T,C,rfl,h4,r3.Z S]]
  .rintro o d B ⟨⟨_,_,rfl⟩,m⟩;rw[show D.length=kd.2.length by omega,OO]at m;rw[y,sS];exact#[#[_,_,_,_,rfl],m]
 .rintro o d R ⟨_,l⟩;rw[show W.length=g.length by omega,OO]at l;let:=l.p.length;exact small ()
 .rintro o d R ⟨_,l⟩ p hp;rw[show W.length=g.length by omega,OO]at l;let s3:=ae hp (.dK d);ext;calc k p _ d (l.s.trans s3) (l.s.free hp) af (Paired.imp' (λx e h=>GG.Z h s3) l.p)
meta def Mp(s:Stmt)(i:Nat):Stmt:=match s with
 |.ClassDef _ _ _ b _ _ _ _ _ _ _=>b.getD i (.Pass #[0,0,0,0])
 |_=>.Pass #[0,0,0,0]
meta abbrev fS:Stmt:=Mp Gk 0
structure qC where
 dx:Yh
 dK:Yh
 dT:Yh
 dM:Yh
 dD:Yh
 lG:Yh
 lO:Yh
 kv:Yi (Key×V)
meta def IC(a:qC):Yi (Yg×V):=[("kinds",.ref a.dK),("kind_of_tag",.ref a.dT),("many_of_tag",.ref a.dM),("many_of_def",.ref a.dD),("gaps",.ref a.lG),("opens",.ref a.lO)]
meta def So(o:Yh)(H d:Hp):Prop:=∀b u,b≠o->H b=Yb u->d b=Yb u
def So.refl (o:Yh)(H:Hp):So o H H:=λ_ _ _ e=>e
def So.Z (a:So o H g)(s:aR g d):So o H d:=λb u n e=>s _ _ (a b u n e)
def So.upd (a:So o H d)(x:HO):So o H (L2.upd d o x):=λb u n e=>by rw[ay n];calc a b u n e
def So.trans (a:So o H g)(b:So o g d):So o H d:=λc u n e=>b c u n (a c u n e)
def So.free (a:So o H d)(n:b≠o)(e:d b=Yc):H b=Yc:=by
 cases q:H b with
 |none=>rfl
 |some u=>rw[a b u n q]at e;cases e
def So.kt (a:So o H g)(e:H o=Yb (.ins C j fs)):Kt H g:=by
 intro b l d;rcases d with d|⟨z,d⟩
 .exact .inl (a b _ (λq=>by rw[q,e]at d;cases d) d)
 .exact .inr #[z,a b _ (λq=>by rw[q,e]at d;cases d) d]
meta def Mq(a:qC)(H:Hp)(k:Yg×Yi (Yg×Yi Kk))(e:Key×V):Prop:=∃l,e=(Sum.inr k.1,V.ref l)/\H l=Yb (.Y (k.2.map λt=>.str t.1))/\l≠a.lG/\l≠a.lO
structure ic(C:Yh) (H0:Hp) (o:Yh) (a:qC) (kl:Kl) (ds:Yi (Yg×Nat)) (gs os:Yi Int) (H:Hp):Prop where
 sm:aR H0 H
 d0:H0 a.dD=Yc
 g0:H0 a.lG=Yc
 o0:H0 a.lO=Yc
 go:a.lG≠a.lO
 kd:a.dK≠a.dD
 td:a.dT≠a.dD
 md:a.dM≠a.dD
 ins:H o=Yb (.ins C a.dx (IC a))
 kk:H a.dK=Yb (.dK a.kv)
 ke:Paired (Mq a H) kl a.kv
 kt:H a.dT=Yb (.dK ((tl kl).map λx=>(Sum.inr x.1,.str x.2.1)))
 km:H a.dM=Yb (.dK ((tl kl).map λx=>(Sum.inr x.1,.int x.2.2.length)))
 dd:H a.dD=Yb (.dK (ds.map λd=>(Sum.inr d.1,.int d.2)))
 gg:H a.lG=Yb (.Y (gs.map V.int))
 oo:H a.lO=Yb (.Y (os.map V.int))
def ic.step {os:Yi Int}(h:ic C H0 o a kl ds gs os H)(s:∀b u,b≠a.dD->b≠a.lG->b≠a.lO->H b=Yb u->H' b=Yb u)(dd:H' a.dD=Yb (.dK (m.map λd=>(Sum.inr d.1,.int d.2))))(gg:H' a.lG=Yb (.Y (j.map V.int)))(oo:H' a.lO=Yb (.Y (g.map V.int))):ic C H0 o a kl m j g H':=by
 let y:=h.kk;let v:=h.ke;let dict:∀{b:Yh}{p:Yi (Key×V)},b≠a.dD->H b=Yb (.dK p)->H' b=Yb (.dK p):=λ{b p} n e=>s b _ n (λz=>by rw[z,h.gg]at e;cases e) (λz=>by rw[z,h.oo]at e;cases e) e;refine#[λb u e=>?_,h.d0,h.g0,h.o0,h.go,h.kd,h.td,h.md,?_,dict h.kd y,?_,dict h.td h.kt,dict h.md h.km,dd,gg,oo]
 .exact s b u (au e h.d0) (au e h.g0) (au e h.o0) (h.sm b u e)
 .exact s o _ (λz=>by let:=h.ins;rw[z,h.dd]at this;cases this) (λz=>by let:=h.ins;rw[z,h.gg]at this;cases this) (λz=>by let:=h.ins;rw[z,h.oo]at this;cases this) h.ins
 .exact Paired.imp' (λk e ⟨l,B,q,t,r⟩=>#[l,B,s l _ (λz=>by rw[z,h.dd]at q;cases q) t r q,t,r]) v
meta def kH(a:qC)(H H':Hp):Prop:=∀b u,b≠a.dD->b≠a.lG->b≠a.lO->H b=Yb u->H' b=Yb u
def kH.refl (a:qC)(H:Hp):kH a H H:=λ_ _ _ _ _ e=>e
def kH.Z (x:kH a H g)(s:aR g d):kH a H d:=λb u m l j e=>s _ _ (x b u m l j e)
def kH.of (s:aR H d):kH a H d:=λb u _ _ _ e=>s _ _ e
def kH.trans (x:kH a H m)(y:kH a m l):kH a H l:=λb u j g d e=>y _ _ j g d (x b u j g d e)
def kH.Gh (x:kH a H d)(e:H b=Yc)(o:HO):kH a H (upd d b o):=λc u l j g h=>by rw[ay (au h e)];calc x c u l j g h
def ic.vj {os:Yi Int}(h:ic C H0 o a kl ds gs os H)(x:kH a H H'):Kt H H':=by
 intro b e d;rcases d with d|⟨z,d⟩
 .exact .inl (x b _ (λq=>by rw[q,h.dd]at d;cases d) (λq=>by rw[q,h.gg]at d;cases d) (λq=>by rw[q,h.oo]at d;cases d) d)
 .exact .inr #[z,x b _ (λq=>by rw[q,h.dd]at d;cases d) (λq=>by rw[q,h.gg]at d;cases d) (λq=>by rw[q,h.oo]at d;cases d) d]
theorem Paired.both {F G:e->d->Prop}:∀{l1:List e}{l2:List d},Paired F l1 l2->Paired G l1 l2->Paired (λx y=>F x y/\G x y) l1 l2
 |_,_,.nil,_=>.nil
 |_,_,.cons f t,.cons g u=>.cons #[f,g] (Paired.both t u)
def ic.other {os:Yi Int}(h:ic C H0 o a kl ds gs os H)(d:ic C H0 o a kl r j g t)(e:t b=Yc)(x:HO):ic C H0 o a kl ds gs os (upd H b x):=by
 let n:∀{c:Yh}{u:HO},t c=Yb u->c≠b:=λq=>au q e;refine#[h.sm.oR (d.sm.free e) x,h.d0,h.g0,h.o0,h.go,h.kd,h.td,h.md,?_,?_,?_,?_,?_,?_,?_,?_]
 .rw[ay (n d.ins)];exact h.ins
 .rw[ay (n d.kk)];exact h.kk
 .refine Paired.imp' (λk y ⟨⟨l,G,D,z,v⟩,B,p,m,_,_⟩=>?_) (Paired.both h.ke d.ke);subst G;obtain rfl:l=B:=V.ref.inj (Uv p).2;exact#[l,rfl,by rw[ay (n m)];calc D,z,v]
 .rw[ay (n d.kt)];exact h.kt
 .rw[ay (n d.km)];exact h.km
 .rw[ay (n d.dd)];exact h.dd
 .rw[ay (n d.gg)];exact h.gg
 .rw[ay (n d.oo)];calc h.oo
def kH.setG (x:kH a H e)(y:HO):kH a H (upd e a.lG y):=λc u j d g h=>by rw[ay d];calc x c u j d g h
def kH.DU (x:kH a H e)(y:HO):kH a H (upd e a.lO y):=λc u j g d h=>by rw[ay d];calc x c u j g d h
def ic.ext {os:Yi Int}(h:ic C H0 o a kl ds gs os H)(s:aR H H'):ic C H0 o a kl ds gs os H':=h.step (λb u _ _ _ e=>s b u e) (s _ _ h.dd) (s _ _ h.gg) (s _ _ h.oo)
def ic.dG {os:Yi Int}(h:ic C H0 o a kl ds gs os H):a.dD≠a.lG:=λz=>by let:=h.dd;rw[z,h.gg]at this;cases this
def ic.dO {os:Yi Int}(h:ic C H0 o a kl ds gs os H):a.dD≠a.lO:=λz=>by let:=h.dd;rw[z,h.oo]at this;cases this
def ic.setG {os:Yi Int}(h:ic C H0 o a kl ds gs os H)(d:Yi Int):ic C H0 o a kl ds d os (upd H a.lG (.Y (d.map V.int))) :=
 h.step (λb u _ n _ e=>by rw[ay n];calc e) (by rw[ay h.dG];calc h.dd) af (by rw[ay h.go.symm];calc h.oo)
def ic.DU {os:Yi Int}(h:ic C H0 o a kl ds gs os H)(d:Yi Int):ic C H0 o a kl ds gs d (upd H a.lO (.Y (d.map V.int))) :=
 h.step (λb u _ _ n e=>by rw[ay n];calc e) (by rw[ay h.dO];calc h.dd) (by rw[ay h.go];calc h.gg) af
def ic.Ab {os:Yi Int}(h:ic C H0 o a kl ds gs os H)(g:Yi (Yg×Nat)):ic C H0 o a kl g gs os (upd H a.dD (.dK (g.map λd=>(Sum.inr d.1,.int d.2)))) :=
 h.step (λb u n _ _ e=>by rw[ay n];calc e) af (by rw[ay h.dG.symm];calc h.gg) (by rw[ay h.dO.symm];calc h.oo)
def uE (a:qC):(IC a).lookup ("kinds":Yg)=Yb (V.ref a.dK):=by kernel_rfl
def DV (a:qC):(IC a).lookup ("kind_of_tag":Yg)=Yb (V.ref a.dT):=by kernel_rfl
def vZ (a:qC):(IC a).lookup ("many_of_tag":Yg)=Yb (V.ref a.dM):=by kernel_rfl
def yS (a:qC):(IC a).lookup ("many_of_def":Yg)=Yb (V.ref a.dD):=by kernel_rfl
def B9 (a:qC):(IC a).lookup ("gaps":Yg)=Yb (V.ref a.lG):=by kernel_rfl
def Ac (a:qC):(IC a).lookup ("opens":Yg)=Yb (V.ref a.lO):=by kernel_rfl
structure KO(K:bN) (C:Yh):Prop where
 c:Il K C
 kinds:jQ K C "kinds"
 ktag:jQ K C "kind_of_tag"
 mtag:jQ K C "many_of_tag"
 mdef:jQ K C "many_of_def"
 gaps:jQ K C "gaps"
 opens:jQ K C "opens"
def DW (a:qC):aX "opens" (.ref a.lO) (aX "gaps" (.ref a.lG) (aX "many_of_def" (.ref a.dD) (aX "many_of_tag" (.ref a.dM) (aX "kind_of_tag" (.ref a.dT) (aX "kinds" (.ref a.dK) [])))))=IC a:=by kernel_rfl
meta def AU(K:bN)(C:Yh):Sp:=λj H Q _=>∃(e:Hp) (o l:Yh) (v:V) (d:Kl) (m:T),j=[.ref o,v]/\aR e H/\e o=Yc/\H o=Yb (.ins C l [])/\Rp K H (.t [.t (d.map jo),m]) v/\xY d/\(jg d).Nodup/\(d.map (·.1)).Nodup /\
 ∀(g:Hp) (a:qC),ic C e o a d [] [] [] g->Q .eR g
theorem uF :∀(l a:Yi Yg) (x:Yg),cJ a (l++[x])=match cJ a l with
  |some y=>Yb y
  |none=>if x∈a++l then Yb x else Yc
 | [],a,x=>by
  show(if x∈a then Yb x else cJ (a++[x]) [])=_;rw[O0];rfl
 |y::r,a,x=>by
  show(if y∈a then Yb y else cJ (a++[y]) (r++[x]))=_;let d:=uF r (a++[y]) x
  by_cases h:y∈a
  .have e:cJ a (y::r)=Yb y:=by show(if y∈a then Yb y else _)=_;rw[if_pos h]
   rw[if_pos h,e]
  .have e:cJ a (y::r)=cJ (a++[y]) r:=by show(if y∈a then Yb y else _)=_;rw[if_neg h]
   rw[if_neg h,e,d,PC];rfl
def lR (h:cJ [] l=Yc):cJ [] (l++[x])=if x∈l then Yb x else Yc:=by
 rw[uF,h];rfl
theorem rD :∀(l a:Yi Yg),cJ a l=Yc->l.Nodup/\∀x∈l,x∉a
 | [],a,_=>#[Vw,λ_ h=>nomatch h]
 |y::r,a,h=>by
  let d:(if y∈a then Yb y else cJ (a++[y]) r)=Yc:=h
  by_cases c:y∈a
  .rw[if_pos c]at d;cases d
  .rw[if_neg c]at d;let(g,e):=rD r _ d;calc#[Qz.mpr #[λz=>e y z (by simp),g],λx hx=>?_];rcases L0.mp hx with rfl|hx
   .exact c
   .exact λz=>e x hx (by simp[z])
theorem yT :∀(d:Yi (Yg×Yi Kk)) (ta:Yi Yg),gj ah ta d=Yc->cJ [] ta=Yc->cJ [] (ta++d.map (·.1))=Yc
 | [],ta,_,h=>by rw[Qn,O0];calc h
 |t::r,ta,h,hd=>by
  unfold gj at h
  cases e:cJ [] (ta++[t.1])with
  |some x=>rw[e]at h;cases h
  |none =>
   rw[e]at h
   cases e2:fR (iF ah) t.2 with
   |some n=>rw[e2]at h;cases h
   |none =>
    rw[e2]at h;let:=yT r _ h e
    rwa [PC]at this
theorem wc :∀(kl:Kl) (ah ta:Yi Yg),cK ah ta kl=Yc->cJ [] ah=Yc->cJ [] ta=Yc->cJ [] (ah++kl.map (·.1))=Yc/\cJ [] (ta++jg kl)=Yc
 | [],ah,ta,_,h1,h2=>by
  show cJ [] (ah++[])=Yc/\cJ [] (ta++[])=Yc;rw[O0,O0];calc#[h1,h2]
 |k::r,ah,ta,h,h1,h2=>by
  unfold cK at h
  cases e:cJ [] (ah++[k.1])with
  |some x=>rw[e]at h;cases h
  |none =>
   rw[e]at h
   cases e2:gj ah ta k.2 with
   |some n=>rw[e2]at h;cases h
   |none =>
    rw[e2]at h;let(a,b):=wc r _ _ h e (yT _ _ e2 h2);rw[PC]at a b;calc#[a,b]
def rZ (h:cK [] [] kl=Yc):(kl.map (·.1)).Nodup/\(jg kl).Nodup:=by
 let(a,b):=wc kl [] [] h rfl rfl;calc#[(rD _ _ a).1,(rD _ _ b).1]
meta def fM(e:Yi Yg)(d:Yi Int)(k:Kk):Except Flt (Yi Int):=match k.core with
 |.kd x=>if x∈e then .ok d else .error (.nn,x)
 |.op n=>if n∈d then .error (.tw,"?")else .ok (d++[n])
 |_=>.ok d
meta def cV(d:Yi Yg):Yi Yg->Yi Int->Yi (Yg×Kk)->Except Flt (Yi Int)
 |_,os,[]=>.ok os
 |ah,os,p::r=>if p.1∈ah then .error (.tw,p.1)else match fM d os p.2 with
  |.error f=>.error f
  |.ok os'=>cV d (ah++[p.1]) os' r
theorem se {d ah:Yi Yg}{g:Yi Int}{ps:Yi (Yg×Kk)}{i:Nat}{p:Yg×Kk}(h:ps[i]?=Yb p):cV d ah g (ps.drop i)=if p.1∈ah then .error (.tw,p.1)else match fM d g p.2 with
  |.error f=>.error f
  |.ok os'=>cV d (ah++[p.1]) os' (ps.drop (i+1)):=by
 let e:=(bH.mp h).1;let j:ps.drop i=p::ps.drop (i+1):=by rw[O5 e,(bH.mp h).2]
 rw[j];rfl
meta def jR(kl:Kl)(t:Yg):Option (Yg×Yg×Yi Kk):=(tl kl).find? λx=>decide (x.1=t)
meta def Ad(kl:Kl)(n:Yg):Option (Yg×Yi (Yg×Yi Kk)):=kl.find? λk=>decide (k.1=n)
theorem qD {e:Type}(d:e->Yg)(f:e->V)(t:Yg):∀l:List e,cZ (l.map λx=>((Sum.inr (d x):Key),f x)) (Sum.inr t)=(l.find? λx=>decide (d x=t)).map f
 | []=>rfl
 |x::r=>by
  rw[OQ]
  by_cases h:d x=t
  .rw[fJ (show(Sum.inr (d x):Key)=Sum.inr t by rw[h]),List.find?_cons_of_pos (by simpa using h)];rfl
  .rw[fK (λz=>h (PZ z)),List.find?_cons_of_neg (by simpa using h)];calc qD d f t r
meta def jy(kl:Kl)(a:Yg×Yi Yg):Option Flt:=match jR kl a.1 with
 |none=>Yb (.nn,a.1)
 |some y=>if a.2.length=y.2.2.length then(cJ [] a.2).map λx=>(.tw,x)else Yb (.wr,a.1)
meta def fz(kl:Kl)(arms:Yi (Yg×Yi Yg)):Option Flt:=match arms with
 | []=>Yb (.nn,"match")
 |a::r=>match(a::r).find? (λb=>decide ((jR kl b.1).isSome=Ye))with
  |some b=>Yb (.nn,b.1)
  |none=>if((a::r).map (·.1)).isPerm ((((jR kl a.1).bind λy=>Ad kl y.2.1).map λk=>k.2.map (·.1)).getD [])=Yd then(a::r).findSome? (jy kl)else Yb (.wr,"match")
meta def eK(kl:Kl)(ds:Yi (Yg×Nat))(gs:Yi Int)(ns:Yi Yg):Hd->Nat->Except Flt (Yi Int)
 |.name x,_=>if x∈ns then .ok gs else .error (.nn,x)
 |.tag t,n=>match jR kl t with
  |none=>.error (.nn,t)
  |some y=>if n=y.2.2.length then .ok gs else .error (.wr,t)
 |.call f,n=>match ds.find? (λd=>decide (d.1=f))with
  |none=>.error (.nn,f)
  |some d=>if n=d.2 then .ok gs else .error (.wr,f)
 |.mat arms,_=>match fz kl arms with
  |some f=>.error f
  |none=>.ok gs
 |.fold x y,_=>if x=y then .error (.tw,x)else .ok gs
 |.gap n,_=>if n∈gs then .error (.tw,"?")else .ok (gs++[n])
 |_,_=>.ok gs
meta def iQ(kl:Kl)(ds:Yi (Yg×Nat)):Yi Int->Yi (Yi Yg×Tm)->Except Flt (Yi Int)
 |gs,[]=>.ok gs
 |gs,p::r=>match eK kl ds gs p.1 p.2.hd p.2.ks.length with
  |.error f=>.error f
  |.ok gs'=>iQ kl ds gs' r
structure mY where
 d:Yh
 dk:Yh
 dt:Yh
 lo:Yh
 lg:Yh
 dd:Yh
 kv:Yi (Key×V)
meta def ky(x:Yg):Key:=Sum.inr x
meta def E8(S:mY):Yi (Key×V):=[(ky "kinds",.ref S.dk),(ky "tags",.ref S.dt),(ky "opens",.ref S.lo),(ky "gaps",.ref S.lg),(ky "defs",.ref S.dd)]
meta def Mr(S:mY)(H:Hp)(k:Yg×Yi (Yg×Yi Kk))(e:Key×V):Prop:=∃l,e=(Sum.inr k.1,V.ref l)/\H l=Yb (.Y (k.2.map λt=>.str t.1))/\l≠S.lg/\l≠S.lo
meta def JO(H:Hp)(x:Yg×Yg×Nat)(e:Key×V):Prop:=∃q,e=(Sum.inr x.1,V.ref q)/\H q=Yb (.J [.str x.2.1,.int x.2.2])
meta def Ms(H:Hp)(x:Yg×Nat)(e:Key×V):Prop:=∃q,e=(Sum.inr x.1,V.ref q)/\H q=Yb (.J [.str x.1,.int x.2])
structure Nl(H0:Hp) (S:mY):Prop where
 d0:H0 S.d=Yc
 k0:H0 S.dk=Yc
 t0:H0 S.dt=Yc
 o0:H0 S.lo=Yc
 g0:H0 S.lg=Yc
 f0:H0 S.dd=Yc
 kt:S.dk≠S.dt
 kd:S.dk≠S.dd
 td:S.dt≠S.dd
 dk:S.d≠S.dk
 dt:S.d≠S.dt
 dd:S.d≠S.dd
 og:S.lo≠S.lg
structure eL(H0:Hp) (S:mY) (kn:Kl) (tg:Yi (Yg×Yg×Nat)) (ds:Yi (Yg×Nat)) (gs os:Yi Int) (H:Hp):Prop where
 n:Nl H0 S
 sm:aR H0 H
 sd:H S.d=Yb (.dK (E8 S))
 hk:H S.dk=Yb (.dK S.kv)
 ke:Paired (Mr S H) kn S.kv
 ht:∃tv,H S.dt=Yb (.dK tv)/\Paired (JO H) tg tv
 hd:∃dv,H S.dd=Yb (.dK dv)/\Paired (Ms H) ds dv
 hg:H S.lg=Yb (.Y (gs.map V.int))
 ho:H S.lo=Yb (.Y (os.map V.int))
structure sU(H0:Hp) (S:mY) (m:Nat) (H:Hp):Prop where
 n:Nl H0 S
 sm:aR H0 H
 sd:H S.d=Yb (.dK (E8 S))
 hd:∃dv,H S.dd=Yb (.dK dv)/\dv.length<=m
meta def iC(S:mY)(H d:Hp):Prop:=∀b u,b≠S.dk->b≠S.dt->b≠S.dd->b≠S.lo->b≠S.lg->H b=Yb u->d b=Yb u
def iC.refl (S:mY)(H:Hp):iC S H H:=λ_ _ _ _ _ _ _ e=>e
def iC.of (s:aR H d):iC S H d:=λb u _ _ _ _ _ e=>s _ _ e
def iC.trans (x:iC S H p)(y:iC S p o):iC S H o:=λb u m l j g d e=>y _ _ m l j g d (x b u m l j g d e)
def iC.Z (x:iC S H e)(y:aR e d):iC S H d:=x.trans (iC.of y)
def eL.w {os:Yi Int}(h:eL H0 S kn tg ds gs os H){n:Nat}(hn:ds.length<=n):sU H0 S n H:=by
 let(g,e,d):=h.hd;calc#[h.n,h.sm,h.sd,g,e,by rw[<-d.length];calc hn]
def eL.ext {os:Yi Int}(h:eL H0 S kn tg ds gs os H)(s:aR H H'):eL H0 S kn tg ds gs os H':=by
 let(j,t1,t2):=h.ht;let(m,p,o):=h.hd;calc#[h.n,h.sm.trans s,s _ _ h.sd,s _ _ h.hk,Paired.imp' (λk e ⟨l,g,d,n⟩=>#[l,g,s _ _ d,n]) h.ke,#[j,s _ _ t1,Paired.imp' (λk e ⟨l,g,d⟩=>#[l,g,s _ _ d]) t2],#[m,s _ _ p,Paired.imp' (λk e ⟨l,g,d⟩=>#[l,g,s _ _ d]) o],s _ _ h.hg,s _ _ h.ho]
def sU.ext {n:Nat}(h:sU H0 S n H)(s:aR H H'):sU H0 S n H':=by
 let(d,g,e):=h.hd;calc#[h.n,h.sm.trans s,s _ _ h.sd,d,s _ _ g,e]
def sU.le {n:Nat}(h:sU H0 S n H)(e:n<=m):sU H0 S m H:=by
 let(d,j,g):=h.hd;calc#[h.n,h.sm,h.sd,d,j,OX g e]
def eL.vj {os:Yi Int}(h:eL H0 S kn tg ds gs os H)(x:iC S H H'):Kt H H':=by
 let(m,t1,_):=h.ht;let(o,p,_):=h.hd
 let d:∀b u,H b=Yb u->(∀k,u≠.dK k)->(∀k,u≠.Y k)->H' b=Yb u:=λb u e j l =>
  x b u (λq=>j S.kv (by rw[q,h.hk]at e;calc(OL e).symm)) (λq=>j m (by rw[q,t1]at e;calc(OL e).symm)) (λq=>j o (by rw[q,p]at e;calc(OL e).symm))
   (λq=>l _ (by rw[q,h.ho]at e;calc(OL e).symm)) (λq=>l _ (by rw[q,h.hg]at e;calc(OL e).symm)) e
 intro b r g;rcases g with g|⟨z,g⟩
 .exact .inl (d b _ g ⋯ ⋯)
 .exact .inr #[z,d b _ g ⋯ ⋯]
def eL.setG {os:Yi Int}(h:eL H0 S kn tg ds gs os H)(j:Yi Int):eL H0 S kn tg ds j os (upd H S.lg (.Y (j.map V.int))):=by
 let(r,t1,t2):=h.ht;let(v,p,y):=h.hd;let g:∀{b:Yh}{u:HO},H b=Yb u->(∀k,u≠.Y k)->b≠S.lg:=λ{b u} e n q=>n _ (by rw[q,h.hg]at e;calc(OL e).symm);refine#[h.n,h.sm.oR h.n.g0 _,?_,?_,?_,#[r,?_,?_],#[v,?_,?_],af,?_]
 .rw[ay (g h.sd ⋯)];exact h.sd
 .rw[ay (g h.hk ⋯)];exact h.hk
 .exact Paired.imp' (λk e ⟨l,m,d,o,t⟩=>#[l,m,by rw[ay o];calc d,o,t]) h.ke
 .rw[ay (g t1 ⋯)];exact t1
 .exact Paired.imp' (λk e ⟨l,m,d⟩=>#[l,m,by rw[ay (g d ⋯)];calc d]) t2
 .rw[ay (g p ⋯)];exact p
 .exact Paired.imp' (λk e ⟨l,m,d⟩=>#[l,m,by rw[ay (g d ⋯)];calc d]) y
 .rw[ay h.n.og];calc h.ho
def eL.DU {os:Yi Int}(h:eL H0 S kn tg ds gs os H)(j:Yi Int):eL H0 S kn tg ds gs j (upd H S.lo (.Y (j.map V.int))):=by
 let(r,t1,t2):=h.ht;let(v,p,y):=h.hd;let g:∀{b:Yh}{u:HO},H b=Yb u->(∀k,u≠.Y k)->b≠S.lo:=λ{b u} e n q=>n _ (by rw[q,h.ho]at e;calc(OL e).symm);refine#[h.n,h.sm.oR h.n.o0 _,?_,?_,?_,#[r,?_,?_],#[v,?_,?_],?_,af]
 .rw[ay (g h.sd ⋯)];exact h.sd
 .rw[ay (g h.hk ⋯)];exact h.hk
 .exact Paired.imp' (λk e ⟨l,m,d,t,o⟩=>#[l,m,by rw[ay o];calc d,t,o]) h.ke
 .rw[ay (g t1 ⋯)];exact t1
 .exact Paired.imp' (λk e ⟨l,m,d⟩=>#[l,m,by rw[ay (g d ⋯)];calc d]) t2
 .rw[ay (g p ⋯)];exact p
 .exact Paired.imp' (λk e ⟨l,m,d⟩=>#[l,m,by rw[ay (g d ⋯)];calc d]) y
 .rw[ay h.n.og.symm];calc h.hg
def eL.M3 {os:Yi Int}(h:eL H0 S kn tg ds gs os H)(t1:H S.dt=Yb (.dK m))(t2:Paired (JO H) tg m)(o:H q=Yb (.J [.str x.2.1,.int x.2.2])):eL H0 S kn (tg++[x]) ds gs os (upd H S.dt (.dK (m++[(Sum.inr x.1,.ref q)]))):=by
 let(t,y,v):=h.hd;let g:∀{b:Yh}{u:HO},H b=Yb u->(∀k,u≠.dK k)->b≠S.dt:=λ{b u} e n q=>n _ (by rw[q,t1]at e;calc(OL e).symm);refine#[h.n,h.sm.oR h.n.t0 _,?_,?_,?_,#[_,af,?_],#[t,?_,?_],?_,?_]
 .rw[ay h.n.dt];exact h.sd
 .rw[ay h.n.kt];exact h.hk
 .exact Paired.imp' (λk e ⟨l,j,d,r,p⟩=>#[l,j,by rw[ay (g d ⋯)];calc d,r,p]) h.ke
 .exact Paired.yQ (Paired.imp' (λk e ⟨l,j,d⟩=>#[l,j,by rw[ay (g d ⋯)];calc d]) t2) #[q,rfl,by rw[ay (g o ⋯)];calc o]
 .rw[ay h.n.td.symm];exact y
 .exact Paired.imp' (λk e ⟨l,j,d⟩=>#[l,j,by rw[ay (g d ⋯)];calc d]) v
 .rw[ay (g h.hg ⋯)];exact h.hg
 .rw[ay (g h.ho ⋯)];calc h.ho
def eL.M4 {os:Yi Int}(h:eL H0 S kn tg ds gs os H)(r:H l=Yb (.Y (k.2.map λt=>.str t.1)))(p:l≠S.lg)(o:l≠S.lo):eL H0 {S with kv:=S.kv++[(Sum.inr k.1,.ref l)]} (kn++[k]) tg ds gs os (upd H S.dk (.dK (S.kv++[(Sum.inr k.1,.ref l)]))):=by
 let(v,t1,t2):=h.ht;let(y,C,B):=h.hd;let j:∀{b:Yh}{u:HO},H b=Yb u->(∀k,u≠.dK k)->b≠S.dk:=λ{b u} e n q=>n _ (by rw[q,h.hk]at e;calc(OL e).symm);refine#[#[h.n.d0,h.n.k0,h.n.t0,h.n.o0,h.n.g0,h.n.f0,h.n.kt,h.n.kd,h.n.td,h.n.dk,h.n.dt,h.n.dd,h.n.og],h.sm.oR h.n.k0 _,?_,af,?_,#[v,?_,?_],#[y,?_,?_],?_,?_]
 .show upd H S.dk _ S.d=_;rw[ay h.n.dk];exact h.sd
 .exact Paired.yQ (Paired.imp' (λk e ⟨l,m,g,p,o⟩=>#[l,m,by rw[ay (j g ⋯)];calc g,p,o]) h.ke) #[l,rfl,by rw[ay (j r ⋯)];calc r,p,o]
 .show upd H S.dk _ S.dt=_;rw[ay h.n.kt.symm];exact t1
 .exact Paired.imp' (λk e ⟨l,m,g⟩=>#[l,m,by rw[ay (j g ⋯)];calc g]) t2
 .show upd H S.dk _ S.dd=_;rw[ay h.n.kd.symm];exact C
 .exact Paired.imp' (λk e ⟨l,m,g⟩=>#[l,m,by rw[ay (j g ⋯)];calc g]) B
 .show upd H S.dk _ S.lg=_;rw[ay (j h.hg ⋯)];exact h.hg
 .show upd H S.dk _ S.lo=_;rw[ay (j h.ho ⋯)];calc h.ho
def eL.Ab {os:Yi Int}(h:eL H0 S kn tg ds gs os H)(y:H S.dd=Yb (.dK m))(v:Paired (Ms H) ds m)(o:H q=Yb (.J [.str x.1,.int x.2])):eL H0 S kn tg (ds++[x]) gs os (upd H S.dd (.dK (m++[(Sum.inr x.1,.ref q)]))):=by
 let(p,t1,t2):=h.ht;let g:∀{b:Yh}{u:HO},H b=Yb u->(∀k,u≠.dK k)->b≠S.dd:=λ{b u} e n q=>n _ (by rw[q,y]at e;calc(OL e).symm);refine#[h.n,h.sm.oR h.n.f0 _,?_,?_,?_,#[p,?_,?_],#[_,af,?_],?_,?_]
 .rw[ay h.n.dd];exact h.sd
 .rw[ay h.n.kd];exact h.hk
 .exact Paired.imp' (λk e ⟨l,j,d,t,r⟩=>#[l,j,by rw[ay (g d ⋯)];calc d,t,r]) h.ke
 .rw[ay h.n.td];exact t1
 .exact Paired.imp' (λk e ⟨l,j,d⟩=>#[l,j,by rw[ay (g d ⋯)];calc d]) t2
 .exact Paired.yQ (Paired.imp' (λk e ⟨l,j,d⟩=>#[l,j,by rw[ay (g d ⋯)];calc d]) v) #[q,rfl,by rw[ay (g o ⋯)];calc o]
 .rw[ay (g h.hg ⋯)];exact h.hg
 .rw[ay (g h.ho ⋯)];calc h.ho
def sU.Ab {n:Nat}(h:sU H0 S n H)(e:d.length<=n):sU H0 S n (upd H S.dd (.dK d)) :=
 #[h.n,h.sm.oR h.n.f0 _,by rw[ay h.n.dd];calc h.sd,d,af,e]
def eL.other {os:Yi Int}(h:eL H0 S kn tg ds gs os H)(m:eL H0 S kn o B r p C)(e:C b=Yc)(M:H b=Yb (.Y xs))(ys:Yi V):eL H0 S kn tg ds gs os (upd H b (.Y ys)):=by
 let(G,t1,t2):=h.ht;let(N,D,O):=h.hd;let n:∀{c:Yh}{u:HO},C c=Yb u->c≠b:=λq=>au q e;let g:∀{c:Yh}{u:HO},H c=Yb u->(∀k,u≠.Y k)->c≠b:=λ{c u} q n z=>n _ (by rw[z,M]at q;calc(OL q).symm);refine#[h.n,h.sm.oR (m.sm.free e) _,?_,?_,?_,#[G,?_,?_],#[N,?_,?_],?_,?_]
 .rw[ay (g h.sd ⋯)];exact h.sd
 .rw[ay (g h.hk ⋯)];exact h.hk
 .refine Paired.imp' (λk y ⟨⟨l,j,d,J,I⟩,L,v,t,_,_⟩=>?_) (Paired.both h.ke m.ke);subst j;obtain rfl:l=L:=V.ref.inj (Uv v).2;exact#[l,rfl,by rw[ay (n t)];calc d,J,I]
 .rw[ay (g t1 ⋯)];exact t1
 .exact Paired.imp' (λk e ⟨l,j,d⟩=>#[l,j,by rw[ay (g d ⋯)];calc d]) t2
 .rw[ay (g D ⋯)];exact D
 .exact Paired.imp' (λk e ⟨l,j,d⟩=>#[l,j,by rw[ay (g d ⋯)];calc d]) O
 .rw[ay (n m.hg)];exact h.hg
 .rw[ay (n m.ho)];calc h.ho
def fj (e:H S.d=Yb (.dK (E8 S)))(q:cZ (E8 S) (ky y)=Yb v):cF H S.d (.str y) (Yb v):=by
 let:=cF.k (k:=ky y) e;rw[q]at this;calc this
def nY (S:mY):cZ (E8 S) (ky "kinds")=Yb (.ref S.dk):=by kernel_rfl
def mJ (S:mY):cZ (E8 S) (ky "tags")=Yb (.ref S.dt):=by kernel_rfl
def DX (S:mY):cZ (E8 S) (ky "opens")=Yb (.ref S.lo):=by kernel_rfl
def GH (S:mY):cZ (E8 S) (ky "gaps")=Yb (.ref S.lg):=by kernel_rfl
def mK (S:mY):cZ (E8 S) (ky "defs")=Yb (.ref S.dd):=by kernel_rfl
meta def JP:Er->Yg
 |.tw=>"twice"
 |.nn=>"noname"
 |.wr=>"wrong"
meta def nu(H:Hp):Option Flt->V->Prop
 |none,v=>v=.eR
 |some f,v=>∃p,v=.ref p/\H p=Yb (.Y [.str (JP f.1),.str f.2])
def nu.Z (h:nu H f v)(s:aR H d):nu d f v:=by
 cases f with
 |none=>calc h
 |some f =>
  let(p,e,q):=h;calc#[p,e,s _ _ q]
end G15
namespace L2
open PySem PySem.Spec PyProof.Rows
theorem AV :∀{xs:Yi V}{us:List eF},xs.length=us.length->(∀(i:Nat) (x:V) (u:eF),xs[i]?=Yb x->us[i]?=Yb u->RelV x u)->Vals xs us
 | [],[],_,_=>.nil
 |x::r,u::t,hl,h=>.cons (h 0 x u rfl rfl) (AV (by simpa using hl) λi y v d e=>h (i+1) y v (by simpa using d) (by simpa using e))
def JQ {kvs:Yi (Key×V)}(r:KV kvs vs){i:Nat}(h:kvs[i]?=Yb e):∃u,vs[i]?=Yb (e.1,u)/\RelV e.2 u:=KV.get r h
def uG :iL X (.builtin "sorted") (λxs H Q=>∃(p:Yh) (m:Yi Yg),xs=[.ref p]/\bA X.K H p (m.map V.str)/\m.length<64 /\
  ∀(d:Yi Yg) (l:Yh),d.Perm m->sortedS d=Yd->H l=Yc->Q (.ref l) (upd H l (.Y (d.map V.str)))):=by
 intro D s S H xs T Q I r h;let(p,m,rfl,O,W,q):=h;let(u,rfl,L):=vals1 r
 cases L
 let(v,C,M,U):=I.list O;let j:=C.length;rw[bM]at j;calc sorted_strs M.isList (wW C) () λg d B z G=>?_;let(e,J):=sortedAll_at s.heap v g
 let N:Vals (d.map V.str) g.toList:=by
  generalize g.toList=l at B;clear z G J q
  induction B with
  |nil=>calc .nil
  |cons x t _ ih=>exact .cons #[t,rfl] ih
 let y:(d.map V.str).length<=lj:=by rw[bM,z.length_eq];let:=RS;omega
 let R:H (s⁻¹+1)=Yc:=I.hok.fresh (Pc _);calc#[.ref (s⁻¹+1),_,I.laid (t':=s.toks) (a:=s⁻¹+1) (o:=.Y (d.map V.str)) (λb o q=>sortedAll_old q) (Pc _) (show eS X.prog X.w _ _ _ (.Y (d.map V.str))from#[y,g.toList,e,N,J]),rfl,q d _ z G R]
def vm (K:bN)(d:X.K=K):iL X (.type "list") (λxs H Q=>∃p ys,xs=[.ref p]/\(bA K H p ys\/bY K H p ys)/\∀l,H l=Yc->Q (.ref l) (upd H l (.Y ys))):=by
 subst d;calc jU
def Ae (hc:X.calm=Yd):iL X (.type "list") (λxs H Q=>∃(p:Yh) (kvs:Yi (Key×V)),xs=[.ref p]/\H p=Yb (.dK kvs)/\∀l,H l=Yc->Q (.ref l) (upd H l (.Y (kvs.map λe=>kV e.1)))):=by
 intro O s σ H xs us Q I r h;let(p,kvs,rfl,hq,q):=h;let(u,rfl,T):=vals1 r
 cases T
 let(B,C,v,j,U,es,ep,ho,t,M,J,D,G):=tS I.hok (.inl hq);let N:s.heap.DictAt (bg X.prog X.w) p v ep:=#[U,es,ho,t,M,J,D,G];let hl:=j.length;refine PySem.W.kdl_call (PySem.W.kdl_dict (knd:=bg X.prog X.w) (kvs:=v) (ep:=ep) C) (I.ok.hd hc) N () λh' S d c' hk hD g=>?_
 let Z:Vals (kvs.map λe=>kV e.1) d.toList:=by
  let ha:d.toList.length=v.length:=(Qx (xs:=d)).trans g.1;calc AV (by rw[bM,ha,hl]) λi x u R hu=>?_;rw[vv]at R;let(e,he,rfl):=ri.mp R;let(k,y,m,L):=g.2 i u (by rw[<-Vk];calc hu);let(z,Y,_):=JQ j he;rw[Y]at m;let(rfl,rfl):=Uv (OL m);exact AS L
 calc#[.ref s⁻¹,_,I.laid (t':=S) (a:=s⁻¹) (o:=.Y (kvs.map λe=>kV e.1)) hk (i5 _) (show eS X.prog X.w _ _ _ (.Y (kvs.map λe=>kV e.1))from#[by rw[bM];calc B,d.toList,c',Z,hD]),rfl,q _ (I.hok.fresh (i5 _))]
def Ca {a b c:Yg}(j:ltCps b.cps.toList a.cps.toList=Ye)(g:ltCps c.cps.toList b.cps.toList=Ye):ltCps c.cps.toList a.cps.toList=Ye:=by
 rw[ltCps_eq]at *;let e:a.cps.toList<=b.cps.toList:=by simpa using j
 let d:b.cps.toList<=c.cps.toList:=by simpa using g
 let:=List.le_trans e d
 simpa using this
theorem uH :∀(l:Yi Yg) (p:Yg),risingS p l=Yd->(p::l).Pairwise λa b=>ltCps b.cps.toList a.cps.toList=Ye
 | [],p,_=>Su _ _
 |x::r,p,h=>by
  let d:(!ltCps x.cps.toList p.cps.toList&&risingS x r)=Yd:=h;rw[Pd]at d;let e:=uH r x d.2;let g:ltCps x.cps.toList p.cps.toList=Ye:=by simpa using d.1
  calc V2.mpr #[λb hb=>?_,e];rcases L0.mp hb with rfl|hb
  .exact g
  .exact Ca g ((V2.mp e).1 b hb)
theorem uI :∀{l:Yi Yg},sortedS l=Yd->l.Pairwise λa b=>ltCps b.cps.toList a.cps.toList=Ye
 | [],_=>List.Pairwise.nil
 |x::r,h=>uH r x h
def yU (p:a.Perm b)(o:sortedS a=Yd)(m:sortedS b=Yd):a=b:=by
 calc List.Perm.eq_of_pairwise ?_ (uI o) (uI m) p;intro x y _ _ l j;rw[ltCps_eq]at l j;let g:x.cps.toList<=y.cps.toList:=by simpa using l
 let d:y.cps.toList<=x.cps.toList:=by simpa using j
 let e:=List.le_antisymm g d
 cases x
 cases y
 simp only at e
 congr
 calc Array.toList_inj.mp e
def Af (l:X.A.units+1<SV):mV X (P5 .In) (λy x H Q=>∃a o,x=.ref a/\cF H a y o/\Q (.bl o.isSome) H):=by
 intro d s p H y x t u Q I e j h;let(a,o,rfl,g,q):=h;obtain rfl:u=Value.ref a:=j;calc MN l I g e λr m=>#[.bl o.isSome,H,m,rfl,q]
def j7 (l:X.A.units+1<SV):mV X (P5 .NotIn) (λy x H Q=>∃a o,x=.ref a/\cF H a y o/\Q (.bl (!o.isSome)) H):=by
 intro d s p H y x t u Q I e j h;let(a,o,rfl,g,q):=h;obtain rfl:u=Value.ref a:=j;calc FE l I g e λr m=>#[.bl (!o.isSome),H,m,rfl,q]
def Cb (K:bN)(y:X.K=K):iL X (.builtin "isinstance") (λxs H Q=>∃x,xs=[x,.ty "tuple"]/\((∃p ys,x=.ref p/\bY K H p ys/\Q (.bl Yd) H)\/(∃z,x=.str z/\Q (.bl Ye) H)\/∃z,x=.int z/\Q (.bl Ye) H)):=by
 subst y;intro e s B H xs C Q I r h;let(x,rfl,h):=h;let(u,g,rfl,d,r2):=vals2 r;obtain rfl:g=Value.type "tuple":=r2;rcases h with⟨p,ys,rfl,hq,q⟩|⟨z,rfl,q⟩|⟨z,rfl,q⟩
 .obtain rfl:u=Value.ref p:=d;let(l,D,j,G):=I.tuple hq;let(o,m,v,n,hd):=j;exact IsiPair.tuple_tuple m v #[.bl Yd,H,I,rfl,q]
 .have(t,rfl):=d;exact IsiPair.str_tuple #[.bl Ye,H,I.tok _,rfl,q]
 .have(t,rfl):=d;calc IsiPair.int_tuple #[.bl Ye,H,I.tok _,rfl,q]
end L2
namespace G15
open PySem L2
meta def AW(K:bN):Sp:=λe H Q _=>∃(v:V) (k:Kk),e=[v]/\Rp K H (mX k) v/\∀d,Rp K H (mX k.core) d->Q d H
meta def qE(K:bN):Sp:=λy H Q _=>∃(u:Hp) (S:mY) (l:Kl) (q:Yi (Yg×Yg×Nat)) (t:Yi (Yg×Nat)) (r m:Yi Int) (v:V) (k:Kk) (o:Bool) (d:Yh),y=[.ref d,v,.bl o]/\eL u S l q t r m H/\S.d=d/\Rp K H (mX k) v/\m.length<=100 /\
 (o=Yd->∀g e,aR H e->nu e ((iF (l.map (·.1)) k).map λn=>(.nn,n)) g->Q g e) /\
 (o=Ye->(∀f,fM (l.map (·.1)) m k=.error f->∀g e,aR H e->nu e (Yb f) g->(∀p,g=.ref p->H p=Yc)->Q g e)/\(∀j,fM (l.map (·.1)) m k=.ok j->∀e,eL u S l q t r j e->iC S H e->Q .eR e))
def AX :∀{kl:Kl}{kvs:Yi (Key×V)},Paired (Mr S H) kl kvs->(cZ kvs (Sum.inr x)).isSome=decide (x∈kl.map (·.1)):=by
 intro kl kvs p
 induction p with
 |nil=>rfl
 |@cons k _ r _ he t ih =>
  let(l,e,_):=he;subst e
  by_cases h:k.1=x
  .rw[fJ (show(Sum.inr k.1:Key)=Sum.inr x by rw[h]),OQ,decide_eq_true (by rw[h];calc Qe)];rfl
  .rw[fK (λz=>h (PZ z)),ih,OQ];let:(x∈k.1::r.map (·.1))↔x∈r.map (·.1):=by rw[L0];exact or_iff_right (λz=>h z.symm)
   calc(decide_eq_decide.mpr this).symm
def jh :Nm XZ (ak iz):=by decide
def uJ :Lm XZ (ak iz):=by decide
def nZ :aY XZ XZ (ak iz):=by ac_rfl
def DY (F:jn K "_law_leaf_kind" "_law_leaf_kind" iz f G)(e:mg "tuple"=Yc)(d:mg "isinstance"=Yc):Zt gz 1 f G XZ (AW K):=by
 refine F.ok nZ (λJ H Q E h=>?_) (λcdv A outer s H J Q E hr h=>?_)
 .have(_,_,rfl,_):=h;rfl
 let(v,y,rfl,L,k):=h;refine#[_,(Z5 (@tL _ _ _ _ _ _ O8 (PW.pt (@ir _ _ _ _ _ _ _ (@tJ _ _ _ (Z2 (Cb K rfl) d P4 (Z1 (va jh 0) (Zc (Aw (v:=.ty "tuple") (by left) e (by decide) rfl)))) (by intro _;rfl)) (@fQ _ _ _ _ (Zg bO (Z6 aI (va jh 0)) aD (bz _))))) (Zd (Z4 nZ.nd uJ 0 (Z6 aI (va jh 0))))) (Zd (cS (va jh 0)))),?_]
 right
 calc#[λm B o=>o=H/\∃(v:V) (l:Kk),B=[Yb v]/\Rp K H (mX l) v/\l.dep=m/\l.core=y.core,#[y.dep,rfl,v,y,rfl,L,rfl,rfl],?_];rintro m B o ⟨rfl,v,l,rfl,j,M,u⟩
 cases l with
 |num =>
  obtain rfl:=(show Rp K o (.s "num") v from j).aL;let fin:=k _ (by rw[<-u];calc j);ext;calc .inr (.inl #[_,rfl,?_]);ext;calc fin
 |kd x =>
  let fin:=k _ (by rw[<-u];calc j);let(D,l,q,rfl,g,r,z):=(show Rp K o (.t [.s "kind",.s x]) v from j).t2;obtain rfl:=r.aL;ext;calc .inl #[_,_,rfl,g,?_];ext;calc fin
 |op n =>
  let fin:=k _ (by rw[<-u];calc j);let(D,l,q,rfl,g,r,z):=(show Rp K o (.t [.s "open",.i n]) v from j).t2;obtain rfl:=r.aL;ext;calc .inl #[_,_,rfl,g,?_];ext;calc fin
 |row q =>
  let(D,R,C,rfl,g,r,z):=(show Rp K o (.t [.s "row",mX q]) v from j).t2;obtain rfl:=r.aL;ext;calc .inl #[_,_,rfl,g,?_];ext;calc bP (λ_=>?_) (λc=>absurd (by decide) c);calc#[λp I=>I=o/\p=[Yb C],λp I ⟨O,N⟩=>#[q.dep,by rw[<-M];calc QZ _,O,C,q,N,z,rfl,u],?_];ext;rfl
def bV :Nm Xz (ak gX):=by decide
def sG :Lm Xz (ak gX):=by decide
def mZ :aY Xz Xi (ak gX):=by ac_rfl
def DZ (F:jn K "_law_kind_fault" "_law_kind_fault" gX f Z)(T:Za "_law_leaf_kind" 1 XZ (AW K) gL lfd):Zt gz 2 f Z Xi (qE K):=by
 refine F.ok mZ (λvs H Q E h=>?_) (λcdv A outer s H vs Q E hr h=>?_)
 .have(_,_,_,_,_,_,_,_,_,_,_,rfl,_):=h;rfl
 let(H0,S,D,tg,ds,gs,g,v,q,J,d,rfl,m,rfl,r,lo,L,I):=h;refine#[_,(Z5 (Z4 mZ.nd sG 3 (Z0 T (Zc (va bV 1)))) (Z5 (Z8 (PW.pt (@ir _ _ _ _ _ _ _ (Zg bO (Z6 nB (va bV 3)) aD (bz _)) (@fQ _ _ _ _ (Zg (j7 (gJ hr)) (Z6 aI (va bV 3)) (Zi (va bV 0)) (by rfl'))))) (Zd (Zp (Zq (Z1 aD (Z1 (Z6 aI (va bV 3)) aA)))))) (Z5 (Z8 (Zg qc (Z6 nB (va bV 3)) aD (bz _)) (cA (cS gw))) (Z5 (Z8 (tJ (va bV 2)) (Zd (Zp (Zq (di aD (Zc aD)))))) (Z5 (Z8 (Zg eB (Z6 aI (va bV 3)) (Zi (va bV 0)) (by rfl')) (Zd (Zp (Zq (di aD (Zc aD)))))) (Z5 (Zo (Z7 (Zi (va bV 0)) (Z1 (Z6 aI (va bV 3)) aA))) (cA (cS gw)))))))),?_]
 right
 ext l y;let gk:=fj m.sd (nY S);let go:=fj m.sd (DX S);let ho:=m.ho;let aa:bA K H S.lo (g.map V.int):=bA.of m.ho
 let same:∀f,fM (D.map (·.1)) g q=.error f->(J=Yd->iF (D.map (·.1)) q=Yb f.2/\f.1=.nn)->∀l G,aR H G->nu G (Yb f) l->(∀p,l=.ref p->H p=Yc)->Q l G:=λf he hf l G W Y fp=>by
  cases J with
  |false=>calc(I rfl).1 f he l G W Y fp
  |true =>
   let(h1,h2):=hf rfl;calc L rfl l G W ?_;rw[h1];let(f1,f2):=f
   cases h2
   exact Y
 cases ec:q.core with
 |row j=>calc absurd ec (q.sR j)
 |num =>
  rw[ec]at y;let B:∀{Q:VK},Q (.str "n") H->Io K l (.int 0) H Q:=λh=>core0 y h
  let fin:Q .eR H:=by
   cases J with
   |false=>calc(I rfl).2 g (by unfold fM;rw[ec]) H m (iC.refl _ _)
   |true=>exact L rfl _ H (aR.refl _) (by unfold iF;rw[ec];rfl)
  ext;calc B ?_;ext;calc B ?_;ext;calc fin
 |kd x =>
  rw[ec]at y;let B:∀{Q:VK},Q (.str "kind") H->Io K l (.int 0) H Q:=λh=>core0 y h;let(ka,w1,w2,rfl,N,R,O):=(show Rp K H (.t [.s "kind",.s x]) l from y).t2;obtain rfl:=R.aL;obtain rfl:=O.aL;let a1:dZ [V.str "kind",.str x] 1=Yb (.str x):=aF (j:=1) rfl;let dg:cF H S.dk (.str x) (cZ S.kv (Sum.inr x)):=cF.k (k:=Sum.inr x) m.hk;let U:(cZ S.kv (Sum.inr x)).isSome=decide (x∈D.map (·.1)):=AX m.ke;ext;calc B ?_;ext;refine bP (λM=>?_) (λM=>?_)
  .have o:x∉D.map (·.1):=λz=>by
    rw[U,decide_eq_true z]at M
    cases M
   ext p C;exact same (.nn,x) (by unfold fM;rw[ec];dsimp only;rw[if_neg o]) (λ_=>#[by unfold iF;rw[ec];dsimp only;rw[if_neg o],rfl]) _ _ (ae C _) #[p,rfl,af] (λ_ z=>V.ref.inj z▸C)
  .have o:x∈D.map (·.1):=by
    by_cases z:x∈D.map (·.1)
    .exact z
    .exact absurd (by rw[U,decide_eq_false z];rfl) M
   let fin:Q .eR H:=by
    cases J with
    |false=>calc(I rfl).2 g (by unfold fM;rw[ec];dsimp only;rw[if_pos o]) H m (iC.refl _ _)
    |true=>exact L rfl _ H (aR.refl _) (by unfold iF;rw[ec];dsimp only;rw[if_pos o];rfl)
   ext;calc B ?_;ext;calc fin
 |op n =>
  rw[ec]at y;let B:∀{Q:VK},Q (.str "open") H->Io K l (.int 0) H Q:=λh=>core0 y h;let(ka,w1,w2,rfl,N,R,O):=(show Rp K H (.t [.s "open",.i n]) l from y).t2;obtain rfl:=R.aL;obtain rfl:=O.jS;let a1:dZ [V.str "open",.int n] 1=Yb (.int n):=aF (j:=1) rfl;let fl:=rg g;let X:=uw (n:=n) (ns:=g);let ll:(g.map V.int).length<lj:=aV (by rw[bM];omega);ext;calc B ?_;ext;calc B ?_;ext
  cases J with
  |true =>
   ext p C;calc L rfl _ _ (ae C _) (by unfold iF;rw[ec];calc#[p,rfl,af])
  |false =>
   ext;refine bP (λc=>?_) (λc=>?_)
   .have o:n∈g:=by
     let c':nh (.int n) (g.map V.int)=Yd:=c;rw[X]at c';exact of_decide_eq_true c'
    ext p C;exact(I rfl).1 (.tw,"?") (by unfold fM;rw[ec];dsimp only;rw[if_pos o]) _ _ (ae C _) #[p,rfl,af] (λ_ z=>V.ref.inj z▸C)
   .have o:n∉g:=λz=>c (by show nh (.int n) (g.map V.int)=Yd;rw[X];calc decide_eq_true z);let fin:=(I rfl).2 (g++[n]) (by unfold fM;rw[ec];dsimp only;rw[if_neg o]) _ (m.DU (g++[n])) (λb u n1 n2 n3 n4 n5 e=>by rw[ay n4];calc e);rw[i4]at fin;ext;calc fin
meta def sr(kl:Kl):Yi (Yg×Yg×Nat):=(tl kl).map λx=>(x.1,x.2.1,x.2.2.length)
def jY (kl:Kl):(sr kl).map (·.1)=jg kl:=by
 unfold sr;rw[Pz,<-pS];rfl
def D4 (l:Kl)(k:Yg×Yi (Yg×Yi Kk)):sr (l++[k])=sr l++k.2.map λt=>(t.1,k.1,t.2.length):=by
 unfold sr;rw[sS,i4,Pz];rfl
theorem xD :∀{l:Yi (Yg×Yg×Nat)}{kvs:Yi (Key×V)},Paired (JO H) l kvs->(cZ kvs (Sum.inr x)).isSome=decide (x∈l.map (·.1))
 |_,_,.nil=>rfl
 |k::r,_,.cons ⟨l,e,_⟩ t=>by
  subst e
  by_cases h:k.1=x
  .rw[fJ (show(Sum.inr k.1:Key)=Sum.inr x by rw[h]),OQ,decide_eq_true (by rw[h];calc Qe)];rfl
  .rw[fK (λz=>h (PZ z)),xD t,OQ];let:(x∈k.1::r.map (·.1))↔x∈r.map (·.1):=by rw[L0];exact or_iff_right (λz=>h z.symm)
   calc(decide_eq_decide.mpr this).symm
def JR (p:Paired (JO H) l kvs)(h:x∉l.map (·.1)):∀g∈kvs,g.1≠Sum.inr x:=λg d z=>by
 let(n,m):=Po d;let(y,j,q,e,_):=Paired.getL p m;rw[e]at z;calc h (by rw[<-PZ z];calc O6 (xn j))
def JS (p:Paired (Mr S H) l kvs)(h:x∉l.map (·.1)):∀g∈kvs,g.1≠Sum.inr x:=λg d z=>by
 let(n,m):=Po d;let(y,j,q,e,_):=Paired.getL p m;rw[e]at z;calc h (by rw[<-PZ z];calc O6 (xn j))
meta def yV(K:bN):Sp:=λm H Q _=>∃(j:Hp) (S:mY) (v:V) (g:Kl) (d:Yh),m=[.ref d,v]/\eL j S [] [] [] [] [] H/\S.d=d/\Rp K H (.t (g.map jo)) v/\xY g /\
 (∀f,cK [] [] g=Yb f->∀l e,sU j S 0 e->iC S H e->nu e (Yb f) l->Q l e) /\
 (cK [] [] g=Yc->∀kv e,eL j {S with kv:=kv} g (sr g) [] [] [] e->iC S H e->Q .eR e)
structure Nn(H0:Hp) (S:mY) (kl:Kl) (i:Nat) (H:Hp) (kv:Yi (Key×V)) (H2:Hp):Prop where
 k:eL H0 {S with kv:=kv} (kl.take i) (sr (kl.take i)) [] [] [] H2
 t:iC S H H2
 e:cK [] [] kl=cK ((kl.take i).map (·.1)) (jg (kl.take i)) (kl.drop i)
 d1:cJ [] ((kl.take i).map (·.1))=Yc
 d2:cJ [] (jg (kl.take i))=Yc
structure Ov(H0:Hp) (S:mY) (kn:Kl) (tg:Yi (Yg×Yg×Nat)) (kd:Yg×Yi (Yg×Yi Kk)) (j:Nat) (H:Hp) (H2:Hp):Prop where
 k:eL H0 S kn (tg++(kd.2.take j).map λt=>(t.1,kd.1,t.2.length)) [] [] [] H2
 t:iC S H H2
 e:gj (kn.map (·.1)) (tg.map (·.1)) kd.2=gj (kn.map (·.1)) (tg.map (·.1)++(kd.2.take j).map (·.1)) (kd.2.drop j)
 d:cJ [] (tg.map (·.1)++(kd.2.take j).map (·.1))=Yc
def aT :Nm W3 (ak eV):=by decide
def eG :Lm W3 (ak eV):=by decide
def dj :aY W3 XW (ak eV):=by ac_rfl
def Cc (F:jn K "_law_kinds_fault" "_law_kinds_fault" eV f fd)(bn:Za "_law_kind_fault" 2 Xi (qE K) gF ffd)(ag:mg "len"=Yc):Zt gz 3 f fd XW (yV K):=by
 refine F.ok dj (λvs H Q E h=>?_) (λcdv A outer s H vs Q E hr h=>?_)
 .have(_,_,_,_,_,rfl,_):=h;rfl
 let(H0,S,v,kl,d,rfl,sc,rfl,r,hB,kf,ko):=h;refine#[_,(Z5 (Zj O8 (cG (va aT 1)) (Zb (2) (Zf (ga dj.nd eG 2) (Zs (ga dj.nd eG 3)))) (Z5 (Z8 (Zg (Af (gJ hr)) (va aT 2) (Zi (va aT 0)) (by rfl')) (Zd (Zp (Zq (Z1 aD (Zc (va aT 2))))))) (Z5 (Zj O8 (cG (va aT 3)) (Zb (2) (Zf (ga dj.nd eG 4) (Zs (ga dj.nd eG 5)))) (Z5 (Z8 (Zg (Af (gJ hr)) (va aT 4) (Zi (va aT 0)) (by rfl')) (Zd (Zp (Zq (Z1 aD (Zc (va aT 4))))))) (Z5 (@qj _ _ _ _ _ _ _ _ _ (gJ hr) (Zi (va aT 0)) (va aT 4) (Zk (Z1 (va aT 2) (Z1 (Z2 aM ag OS (Zc (va aT 5))) aA))) (by rfl)) (Zd (Zj O8 (cG (va aT 5)) (ga dj.nd eG 6) (Z5 (Z4 dj.nd eG 7 (Z0 bn (Z1 (va aT 0) (di (va aT 6) (Zc nA))))) (Zd (Z8 (Zn sL (va aT 7) gw) (Zd (cS (va aT 7))))))))))) (Zd (@qj _ _ _ _ _ _ _ _ _ (gJ hr) (Zi (va aT 0)) (va aT 2) (Ze (ak eV) W3 Xm [] (cG (va aT 3)) (λ_ _ _ _=>(Zb (2) (Zf (Zx Xm 0) (Zs (Zx Xm 1))))) (λ_ _ _ _=>(Zw Xm 0))) (by rfl)))))) (cA (cS gw))),?_]
 right
 let(a,us,rfl,sq,rs):=r.aS;let ba:=rs.length;rw[bM]at ba;ext;refine eY (K:=K) (xs:=us) (λi B H2=>(∃y2 y3 y4 y5 y6 y7,B=[Yb (.ref S.d),Yb (.ref a),y2,y3,y4,y5,y6,y7])/\∃kv,Nn H0 S kl i H kv H2) #[#[_,_,_,_,_,_,rfl],S.kv,sc,iC.refl _ _,rfl,rfl,rfl] ?_ ?_ ?_
 .rintro i B H2 hi ⟨_,kv,o⟩;exact sq.kt (sc.vj o.t)
 .rintro i xv B H2 hxv ⟨⟨_,_,_,_,_,_,rfl⟩,kv,o⟩;let(t,R,rx):=rs.get' hxv;rw[vv]at R;let(kd,ac,rfl):=ri.mp R;let bj:=(bH.mp ac).1;let W:kl.take (i+1)=kl.take i++[kd]:=by rw[i3 bj,(bH.mp ac).2]
  let(bs,bk):=hB.2 kd (xn ac);let Y:=o.e;rw[uB ac,lR o.d1]at Y;let ab:=sc.vj o.t;let(ka,k1,k2,rfl,bf,q1,q2):=(show Rp K H (.t [.s kd.1,.t (kd.2.map qA)]) xv from rx).t2;obtain rfl:=q1.aL;let bo:=bf.kt ab;let(aw,J,rfl,av,al):=q2.aS;let bc:=al.length;rw[bM]at bc;let b0:cF H2 S.d (.str "kinds") (Yb (.ref S.dk)):=fj o.k.sd (nY _);let b2:cF H2 S.dk (.str kd.1) (cZ kv (Sum.inr kd.1)):=cF.k (k:=Sum.inr kd.1) o.k.hk;let aj:(cZ kv (Sum.inr kd.1)).isSome=decide (kd.1∈(kl.take i).map (·.1)):=AX o.k.ke;generalize hah:(kl.take i).map (·.1)=ah at Y aj;ext;refine bP (λc=>?_) (λc=>?_)
  .have hm:kd.1∈ah:=by rw[aj]at c;exact of_decide_eq_true c
   rw[if_pos hm]at Y;ext p hp;let s3:=ae hp (.Y [.str "twice",.str kd.1]);exact kf _ Y _ _ (sU.ext #[sc.n,o.k.sm,o.k.sd,(o.k.w (n:=0) (i5 _)).hd] s3) (o.t.Z s3) #[p,rfl,af]
  let hm:kd.1∉ah:=λz=>c (by rw[aj];calc decide_eq_true z);rw[if_neg hm]at Y
  let O:cK [] [] kl=match gj ah (jg (kl.take i)) kd.2 with
    |some f=>Yb f
    |none=>cK (ah++[kd.1]) (jg (kl.take i)++kd.2.map (·.1)) (kl.drop (i+1)):=Y
  let as:=av.kt ab;ext;refine eY (K:=K) (xs:=J) (λj B I=>(∃y4 y5 y6 y7,B=[Yb (.ref S.d),Yb (.ref a),Yb (.str kd.1),Yb (.ref aw),y4,y5,y6,y7])/\Ov H0 {S with kv:=kv} (kl.take i) (sr (kl.take i)) kd j H2 I) #[#[_,_,_,_,rfl],?_,iC.refl _ _,?_,?_] ?_ ?_ ?_
  .rw[Rv,Qn,O0];exact o.k
  .rw[Rv,Qn,O0];rfl
  .rw[Rv,Qn,O0,jY];exact o.d2
  .rintro j B I hj ⟨_,y⟩;exact as.kt (o.k.vj y.t)
  .rintro j yv B I hyv ⟨⟨_,_,_,_,rfl⟩,y⟩;let(t,R,ry):=al.get' hyv;rw[vv]at R;let(g,D,rfl):=ri.mp R;let an:=(bH.mp D).1;let X:kd.2.take (j+1)=kd.2.take j++[g]:=by rw[i3 an,(bH.mp D).2]
   let br:=bk g (xn D);let e3:=y.e;rw[vY D,lR y.d]at e3;let L:=ab.trans (o.k.vj y.t);let(ga,w1,w2,rfl,ao,p1,p2):=(show Rp K H (.t [.s g.1,.t (g.2.map mX)]) yv from ry).t2;obtain rfl:=p1.aL;let(ia,M,rfl,bg,a2):=p2.aS;let az:=a2.length;rw[bM]at az;let a4:=ao.kt L;let a0:=bg.kt L;let bv:cF I S.d (.str "tags") (Yb (.ref S.dt)):=fj y.k.sd (mJ _);let(Z,am,aa):=y.k.ht;let bp:I S.dt=Yb (.dK Z):=am;let b1:cF I S.dt (.str g.1) (cZ Z (Sum.inr g.1)):=cF.k (k:=Sum.inr g.1) am;let aq:(sr (kl.take i)++(kd.2.take j).map λt=>(t.1,kd.1,t.2.length)).map (·.1)=(sr (kl.take i)).map (·.1)++(kd.2.take j).map (·.1):=by rw[i4,Pz];rfl
   let ai:(cZ Z (Sum.inr g.1)).isSome=decide (g.1∈(sr (kl.take i)).map (·.1)++(kd.2.take j).map (·.1)):=by rw[xD aa,aq]
   let w3:∀{C:Hp},aR I C->sU H0 S 0 C:=λ{C} G=>sU.ext #[sc.n,y.k.sm,y.k.sd,(y.k.w (n:=0) (i5 _)).hd] G;let ax:iC S H I:=o.t.trans y.t;rw[jY]at e3 ai aq;rw[hah]at e3;ext;refine bP (λc=>?_) (λc=>?_)
   .have T:g.1∈jg (kl.take i)++(kd.2.take j).map (·.1):=by rw[ai]at c;exact of_decide_eq_true c
    rw[if_pos T]at e3;rw[e3]at O;ext p hp;let G:=ae hp (.Y [.str "twice",.str g.1]);exact kf _ O _ _ (w3 G) (ax.Z G) #[p,rfl,af]
   let T:g.1∉jg (kl.take i)++(kd.2.take j).map (·.1):=λz=>c (by rw[ai];calc decide_eq_true z);rw[if_neg T]at e3
   let N:gj ah (jg (kl.take i)) kd.2=match fR (iF ah) g.2 with
    |some n=>Yb (.nn,n)
    |none=>gj ah (jg (kl.take i)++(kd.2.take j).map (·.1)++[g.1]) (kd.2.drop (j+1)):=e3
   ext p4 bi;let G:=ae bi (.J [.str kd.1,.int M.length]);let h4:upd I p4 (.J [.str kd.1,.int M.length]) p4=Yb (.J [.str kd.1,.int M.length]):=af;generalize upd I p4 (.J [.str kd.1,.int M.length])=C at G h4|-;rw[az]at h4;let k4:=y.k.ext G;let a5:Paired (JO C) (sr (kl.take i)++(kd.2.take j).map λt=>(t.1,kd.1,t.2.length)) Z:=Paired.imp' (λk e ⟨l,e1,Y⟩=>#[l,e1,G _ _ Y]) aa;let a3:C S.dt=Yb (.dK Z):=G _ _ am;let a7:∀kv∈Z,kv.1≠Sum.inr g.1:=JR aa (by rw[aq];calc T);let bt:cF C S.d (.str "tags") (Yb (.ref S.dt)):=fj k4.sd (mJ _)
   let bb:Z.length<lj:=by
    let e1:=aa.length;let e5:=qB (kl:=kl.take i) #[OX (Vv _ _) hB.1,λx hx=>hB.2 x (Pn hx)];rw[mu,bM,x9,<-bM (f:=(·.1)),jY]at e1;exact aV ()
   let dp:oO C S.dt (.str g.1) (.ref p4) (upd C S.dt (.dK (Z++[(Sum.inr g.1,.ref p4)]))):=by
    let:=oO.k (k:=Sum.inr g.1) (v:=.ref p4) a3 bb;rw[mG a7]at this;exact this
   let k5:=k4.M3 (x:=(g.1,kd.1,g.2.length)) a3 a5 h4;let t5:iC S I (upd C S.dt (.dK (Z++[(Sum.inr g.1,.ref p4)]))):=λb u n1 n2 n3 n4 n5 e=>by rw[ay n2];exact G _ _ e
   let ad:=a0.kt (y.k.vj t5);ext;generalize upd C S.dt (.dK (Z++[(Sum.inr g.1,.ref p4)]))=H5 at k5 t5 ad|-;let a1:=(a2.kt L).kt (y.k.vj t5);refine eY (K:=K) (xs:=M) (λm B H6=>(∃y6 y7,B=[Yb (.ref S.d),Yb (.ref a),Yb (.str kd.1),Yb (.ref aw),Yb (.str g.1),Yb (.ref ia),y6,y7])/\aR H5 H6/\fR (iF ah) g.2=fR (iF ah) (g.2.drop m)) #[#[_,_,rfl],aR.refl _,rfl] ?_ ?_ ?_
   .rintro m B H6 hm6 ⟨_,s6,_⟩;exact ad.Z s6
   .rintro m zv B H6 hzv ⟨⟨_,_,rfl⟩,s6,e6⟩;let(t,R,rz):=a1.get' hzv;rw[vv]at R;let(q,hq,rfl):=ri.mp R;rw[uA hq]at e6;let k6:=k5.ext s6;let bq:=rz.Z s6;let l0:([]:Yi Int).length<=100:=ON _;ext
    rotate_left
    .exact λz=>nomatch z
    intro _ v7 H7 s7 U;rw[hah]at U
    cases ek:iF ah q with
    |none =>
     rw[ek]at U e6;obtain rfl:v7=.eR:=U;ext
     .exact s6.trans s7
     .exact e6
    |some n =>
     rw[ek]at U e6;let(p7,rfl,bh):=U;rw[e6]at N;rw[N]at O;let k7:=k6.ext s7;let fin:=kf _ O (.ref p7) H7 #[sc.n,k7.sm,k7.sd,(k7.w (n:=0) (i5 _)).hd] ((ax.trans t5).Z (s6.trans s7)) #[p7,rfl,bh];ext;exact fin
   .rintro B H6 ⟨⟨_,_,rfl⟩,s6,e6⟩;rw[show M.length=g.2.length by omega,Pa]at e6;rw[e6]at N;let bl:gj ah (jg (kl.take i)) kd.2=gj ah (jg (kl.take i)++(kd.2.take j).map (·.1)++[g.1]) (kd.2.drop (j+1)):=N;refine#[#[_,_,_,_,rfl],?_,y.t.trans (iC.Z t5 s6),?_,?_]
    .rw[X,i4,<-PC];exact k5.ext s6
    .rw[X,i4,jY,hah,<-PC];exact bl
    .rw[X,i4,jY,<-PC];let:=lR (x:=g.1) y.d;rw[jY,if_neg T]at this;exact this
  .rintro B I ⟨⟨_,_,_,_,rfl⟩,y⟩;let e3:=y.e;rw[show J.length=kd.2.length by omega,OO,Pa,jY,hah]at e3;let N:gj ah (jg (kl.take i)) kd.2=Yc:=e3;rw[N]at O;let d3:=y.d;rw[show J.length=kd.2.length by omega,OO,jY]at d3;let k3:=y.k;rw[show J.length=kd.2.length by omega,OO]at k3;let L:=ab.trans (o.k.vj y.t);let ar:=av.kt L;let bx:cF I S.d (.str "kinds") (Yb (.ref S.dk)):=fj k3.sd (nY _);ext;refine gc (K:=K) (xs:=J) (λj B vs C=>(∃y1 y2,B=[y1,y2])/\C=I/\vs=(kd.2.take j).map λt=>V.str t.1) #[#[_,_,rfl],rfl,rfl] ?_ (small ()) ?_ ?_ ?_
   .rintro j B vs C hj ⟨_,_,rfl⟩;rw[bM,x9];omega
   .rintro j B vs C hj ⟨_,rfl,_⟩;exact ar
   .rintro j yv B vs C hyv ⟨⟨_,_,rfl⟩,rfl,rfl⟩;let(t,R,ry):=al.get' hyv;rw[vv]at R;let(g,D,rfl):=ri.mp R;let an:=(bH.mp D).1;let X:kd.2.take (j+1)=kd.2.take j++[g]:=by rw[i3 an,(bH.mp D).2]
    let(ga,w1,w2,rfl,ao,p1,p2):=(show Rp K H (.t [.s g.1,.t (g.2.map mX)]) yv from ry).t2;obtain rfl:=p1.aL;let a4:=ao.kt L;ext;rw[X,i4];rfl
   .rintro B vs C ⟨_,rfl,rfl⟩ l hl;rw[show J.length=kd.2.length by omega,OO];let G:=ae hl (.Y (kd.2.map λt=>V.str t.1));let h4:upd C l (.Y (kd.2.map λt=>V.str t.1)) l=Yb (.Y (kd.2.map λt=>V.str t.1)):=af;let a9:l≠S.lg:=(au k3.hg hl).symm;let a8:l≠S.lo:=(au k3.ho hl).symm;generalize upd C l (.Y (kd.2.map λt=>V.str t.1))=H5 at G h4|-;let k5:=k3.ext G;let bw:cF H5 S.d (.str "kinds") (Yb (.ref S.dk)):=fj k5.sd (nY _);let a6:∀e∈kv,e.1≠Sum.inr kd.1:=JS o.k.ke (by rw[hah];calc hm)
    let be:kv.length<lj:=by
     let e1:=o.k.ke.length;let bm:(kl.take i).length=kv.length:=e1;rw[x9]at bm;let:=hB.1;exact aV ()
    let dp:oO H5 S.dk (.str kd.1) (.ref l) (upd H5 S.dk (.dK (kv++[(Sum.inr kd.1,.ref l)]))):=by
     let:=oO.k (k:=Sum.inr kd.1) (v:=.ref l) k5.hk be;rw[mG a6]at this;exact this
    let k6:=k5.M4 (k:=kd) h4 a9 a8
    let fin:Nn H0 S kl (i+1) H (kv++[(Sum.inr kd.1,.ref l)]) (upd H5 S.dk (.dK (kv++[(Sum.inr kd.1,.ref l)]))):=by
     refine#[?_,λb u n1 n2 n3 n4 n5 e=>?_,?_,?_,?_]
     .rw[W,D4];exact k6
     .rw[ay n1];exact G _ _ (y.t b u n1 n2 n3 n4 n5 (o.t b u n1 n2 n3 n4 n5 e))
     .have ap:jg (kl.take (i+1))=jg (kl.take i)++kd.2.map (·.1):=by rw[W];unfold jg;rw[Pk];simp
      rw[ap,W,i4,hah];exact O
     .rw[W,i4,hah];let:=lR (x:=kd.1) o.d1;rw[hah,if_neg hm]at this;exact this
     .have ap:jg (kl.take (i+1))=jg (kl.take i)++kd.2.map (·.1):=by rw[W];unfold jg;rw[Pk];simp
      rw[ap];exact d3
    ext;exact fin
 .rintro B H2 ⟨_,kv,o⟩;let Y:=o.e;rw[show us.length=kl.length by omega,Pa]at Y;let k2:=o.k;rw[show us.length=kl.length by omega,OO]at k2;let fin:=ko Y kv H2 k2 o.t;ext;calc fin
meta def yW(K:bN)(C u y cW:Yh):Sp:=λr H Q E=>∃(l:Hp) (v:V) (o:Yh) (a:qC) (j:Kl) (q:Yi (Yg×Nat)) (p g:Yi Int) (e:Yi (Yg×Kk)),r=[v,.ref o]/\Rp K H (.t (e.map DP)) v/\ic C l o a j q p g H/\e.length<=20/\g.length+e.length<=90 /\
 (∀f,cV (j.map (·.1)) [] g e=.error f->TF u y cW E l f)/\(∀d,cV (j.map (·.1)) [] g e=.ok d->∀m,ic C l o a j q p d m->kH a H m->d.length<=g.length+e.length->Q .eR m)
structure Np(C:Yh) (H0:Hp) (o:Yh) (a:qC) (kl:Kl) (ds:Yi (Yg×Nat)) (gs os os':Yi Int) (ps:Yi (Yg×Kk)) (i:Nat) (l1:Yh) (H H2:Hp):Prop where
 k:ic C H0 o a kl ds gs os' H2
 t:kH a H H2
 h:H2 l1=Yb (.Y ((ps.take i).map λp=>V.str p.1))
 e:cV (kl.map (·.1)) [] os ps=cV (kl.map (·.1)) ((ps.take i).map (·.1)) os' (ps.drop i)
 d:cJ [] ((ps.take i).map (·.1))=Yc
 l:os'.length<=os.length+i
def GI :∀{kl:Kl}{kvs:Yi (Key×V)},Paired (Mq a H) kl kvs->(cZ kvs (Sum.inr x)).isSome=decide (x∈kl.map (·.1)):=by
 intro kl kvs p
 induction p with
 |nil=>rfl
 |@cons k _ r _ he t ih =>
  let(l,e,_):=he;subst e
  by_cases h:k.1=x
  .rw[fJ (show(Sum.inr k.1:Key)=Sum.inr x by rw[h]),OQ,decide_eq_true (by rw[h];calc Qe)];rfl
  .rw[fK (λz=>h (PZ z)),ih,OQ];let:(x∈k.1::r.map (·.1))↔x∈r.map (·.1):=by rw[L0];exact or_iff_right (λz=>h z.symm)
   calc(decide_eq_decide.mpr this).symm
def bW :Nm XA (ak iy):=by decide
def ji :Lm XA (ak iy):=by decide
def ie :aY XA ["params","known"] (ak iy):=by ac_rfl
def Cd (F:jn K "look_params" "look_params" iy f fd)(N:KO K C)(LO:Zu "look_once" 3 X8 (rC K cT) gO ofd)(L:Zu "look_gap" 3 XY (DO cT) gG gfd)(IM:Za "innermost" 1 ["kind"] (nV K) gI ifd)(g:Zv "NoName" "name" cN fN dN):Zt (yK P w) 4 f fd ["params","known"] (yW K C cT cN cW):=by
 refine F.Gy ie (λvs H Q E h=>?_) (λcdv A outer s H vs Q E hr h=>?_)
 .have(_,_,_,_,_,_,_,_,_,rfl,_):=h;rfl
 let(H0,v,o,a,O,ds,gs,os,G,rfl,r,X,hp,aq,hE,k):=h;refine#[_,(Z5 (sa ie.nd ji 2 (dH aA)) (Zd (Zj (jb rfl rfl rfl) (cG (va bW 0)) (Zb (2) (Zf (ga ie.nd ji 3) (Zs (ga ie.nd ji 4)))) (Z5 (Zo (Z7 (va bW 2) (Zc (va bW 3)))) (Z5 (Zo (@eN _ _ _ _ _ _ _ _ _ _ _ _ _ _ _ _ LO.ok (hr.mono ()) (by left) LO.at' LO.kp LO.bd .nil jK (Zc (va bW 2)) (by decide) (by rfl) (by rfl))) (Z5 (Z4 ie.nd ji 5 (Z0 IM (Zc (va bW 4)))) (Z5 (Z8 (PW.pt (@ir _ _ _ _ _ _ _ (Zg bO (Z6 nB (va bW 5)) aD (bz _)) (@fQ _ _ _ _ (Zg (j7 (gJ hr)) (Z6 aI (va bW 5)) (kg (va bW 1) rfl) (by rfl'))))) (Zd (@gZ _ _ _ _ _ rfl (@je _ _ _ _ _ _ _ _ _ _ _ _ _ _ _ _ _ g.k g.ok (hr.mono ()) (by left) g.m g.bd .nil lF (Z1 (Z6 aI (va bW 5)) aA) (by decide) (by rfl) (by rfl))))) (Zd (Z8 (Zg bO (Z6 nB (va bW 5)) aD (bz _)) (Zd (Zo (@eN _ _ _ _ _ _ _ _ _ _ _ _ _ _ _ _ L.ok (hr.mono ()) (by left) L.at' L.kp L.bd .nil jK (Z1 (Z6 aI (va bW 5)) (Z1 (kg (va bW 1) rfl) aA)) (by decide) (by rfl) (by rfl))))))))))))),?_]
 right
 try dsimp only[qw,qx]
 let hc:=N.c;let n1:=N.kinds;let n6:=N.opens;let(pa,us,rfl,sq,rs):=r.aS;let ag:=rs.length;rw[bM]at ag;ext;calc nw λl1 H1 s1 h1 W=>?_;let am:=sq.Z s1;ext;refine eY (K:=K) (xs:=us) (λi σ I=>(∃y3 y4 y5,σ=[Yb (.ref pa),Yb (.ref o),Yb (.ref l1),y3,y4,y5])/\∃q,Np C H0 o a O ds gs os q G i l1 H I) #[#[_,_,_,rfl],os,X.ext s1,kH.of s1,h1,rfl,rfl,i5 _] ?_ ?_ ?_
 .rintro i σ I hi ⟨_,q,u⟩;exact sq.kt (X.vj u.t)
 .rintro i xv σ I hxv ⟨⟨_,_,_,rfl⟩,q,u⟩;let(t,ht,rx):=rs.get' hxv;rw[vv]at ht;let(p,S,rfl):=ri.mp ht;let aj:=(bH.mp S).1;let aa:G.take (i+1)=G.take i++[p]:=by rw[i3 aj,(bH.mp S).2]
  let B:=u.e;rw[se S]at B;let d2:=lR (x:=p.1) u.d;let k2:=X.vj u.t;let(qa,v1,v2,rfl,ae,q1,q2):=(show Rp K H (.t [.s p.1,mX p.2]) xv from rx).t2;obtain rfl:=q1.aL;let al:=ae.kt k2;let h2:=u.h;let ah:((G.take i).map λp=>V.str p.1).length<lj:=aV (by rw[bM,x9];omega);generalize hnm:(G.take i).map (·.1)=nm at B d2;let ac:((G.take i).map λp=>V.str p.1)=nm.map V.str:=by rw[<-hnm,Pz];rfl
  rw[ac]at h2 ah;let ap:nm.length<=20:=by rw[<-hnm,bM,x9];omega
  let k3:=u.k.other X W (.Y (nm.map V.str++[.str p.1]));let t3:kH a H (upd I l1 (.Y (nm.map V.str++[.str p.1]))):=u.t.Gh W _;let h3:upd I l1 (.Y (nm.map V.str++[.str p.1])) l1=Yb (.Y ((nm++[p.1]).map V.str)):=by rw[af];simp
  let ad:nq K Ye (upd I l1 (.Y (nm.map V.str++[.str p.1]))) l1 ((nm++[p.1]).map V.str):=bA.of h3;let l3:(nm++[p.1]).length<=500:=by rw[mu];show _+1<=_;omega
  let oE:∀x,cJ [] (nm++[p.1])=Yb x->Told E (upd I l1 (.Y (nm.map V.str++[.str p.1]))) cT "name" (.str x):=λx Z=>by
   rw[d2]at Z
   by_cases c:p.1∈nm
   .rw[if_pos c]at Z B
    cases Z
    exact(hE _ B).Z k3.sm
   .rw[if_neg c]at Z;cases Z
  ext;generalize upd I l1 (.Y (nm.map V.str++[.str p.1]))=H3 at k3 t3 h3 ad oE|-;intro T y s4;let c:p.1∉nm:=λc=>by rw[d2,if_pos c]at T;cases T
  rw[if_neg c]at B;let J:=k3.ext s4;let t4:=t3.Z s4;let h4:=s4 _ _ h3;let r4:=q2.kt (X.vj t4);ext Y M;let ak:((G.take (i+1)).map λp=>V.str p.1)=(nm++[p.1]).map V.str:=by rw[aa,i4,ac,i4];rfl
  let ab:(G.take (i+1)).map (·.1)=nm++[p.1]:=by rw[aa,i4,hnm];rfl
  let fin:∀D H5,fM (O.map (·.1)) q p.2=.ok D->D.length<=q.length+1->ic C H0 o a O ds gs D H5->kH a y H5->H5 l1=Yb (.Y ((nm++[p.1]).map V.str))->Np C H0 o a O ds gs os D G (i+1) l1 H H5:=λD H5 eo lo k5 t5 h5=>by
   calc#[k5,t4.trans t5,by rw[ak];calc h5,?_,by rw[ab];exact T,by let:=u.l;omega];rw[eo]at B;rw[ab];exact B
  let ar:=J.ins;let gk:=uE a;let go:=Ac a
  cases ec:p.2.core with
  |row j=>calc absurd ec (p.2.sR j)
  |num =>
   rw[ec]at M;let f5:=fin q y (by unfold fM;rw[ec]) (Pc _) J (kH.refl _ _) h4;let R:∀{Q:VK},Q (.str "n") y->Io K Y (.int 0) y Q:=λh=>core0 M h;ext;calc R ?_;ext;calc R ?_;ext;calc f5
  |kd x =>
   rw[ec]at M;let R:∀{Q:VK},Q (.str "kind") y->Io K Y (.int 0) y Q:=λh=>core0 M h;let(ka,w1,w2,rfl,ai,g1,g2):=(show Rp K y (.t [.s "kind",.s x]) Y from M).t2;obtain rfl:=g1.aL;obtain rfl:=g2.aL;let a1:dZ [V.str "kind",.str x] 1=Yb (.str x):=aF (j:=1) rfl;let dg:cF y a.dK (.str x) (cZ a.kv (Sum.inr x)):=cF.k (k:=Sum.inr x) J.kk;let vk:(cZ a.kv (Sum.inr x)).isSome=decide (x∈O.map (·.1)):=GI J.ke;ext;calc R ?_;ext;refine bP (λc3=>?_) (λc3=>?_)
   .have U:x∉O.map (·.1):=λz=>by
     rw[vk,decide_eq_true z]at c3
     cases c3
    let tt:=(hE (.nn,x) (by rw[B];unfold fM;rw[ec];dsimp only;rw[if_neg U])).Z J.sm;ext;exact gi g.c tt
   .have U:x∈O.map (·.1):=by
     by_cases z:x∈O.map (·.1)
     .exact z
     .exact absurd (by rw[vk,decide_eq_false z];rfl) c3
    let f5:=fin q y (by unfold fM;rw[ec];dsimp only;rw[if_pos U]) (Pc _) J (kH.refl _ _) h4;ext;calc R ?_;ext;calc f5
  |op n =>
   rw[ec]at M;let R:∀{Q:VK},Q (.str "open") y->Io K Y (.int 0) y Q:=λh=>core0 M h;let(ka,w1,w2,rfl,ai,g1,g2):=(show Rp K y (.t [.s "open",.i n]) Y from M).t2;obtain rfl:=g1.aL;obtain rfl:=g2.jS;let a1:dZ [V.str "open",.int n] 1=Yb (.int n):=aF (j:=1) rfl;let an:=J.oo;let ao:q.length<=900:=by let:=u.l;omega
   let tw:n∈q->Told E y cT "name" (.str "?"):=λU=>(hE (.tw,"?") (by rw[B];unfold fM;rw[ec];dsimp only;rw[if_pos U])).Z J.sm;ext;calc R ?_;ext;calc R ?_;ext U;let f5:=fin (q++[n]) _ (by unfold fM;rw[ec];dsimp only;rw[if_neg U]) (by rw[mu];calc i5 _) (J.DU (q++[n])) ((kH.refl a y).DU _) (by rw[ay (au X.oo W).symm];calc h4);exact#[#[_,_,_,rfl],_,f5]
 .rintro σ I ⟨_,q,u⟩;let B:=u.e;rw[show us.length=G.length by omega,Pa]at B;calc k q B I u.k u.t (by let:=u.l;omega)
meta def xE(K:bN)(j cW:Yh):Sp:=λg H Q E=>∃(t:Yg) (b d:Yh) (e:Yi V) (c:Option Nat),g=[.str t,.ref b,.ref d]/\bY K H b e/\cF H d (.str t) (c.map λ(n:Nat)=>V.int (n:Int)) /\
 (c=Yc->Told E H j "name" (.str t))/\(∀n,c=Yb n->e.length≠n->Told E H cW "name" (.str t))/\(∀n,c=Yb n->e.length=n->Q .eR H)
def fk :Nm Xy (ak jX):=by decide
def vy :aY Xy Xy (ak jX):=by ac_rfl
def D5 (F:jn K "look_count" "look_count" jX f u)(j:Zv "NoName" "name" cN fN dN)(g:Zv "WrongCount" "name" cW fW dW)(l:mg "len"=Yc):Zt (yK P w) 3 f u Xy (xE K cN cW):=by
 refine F.Gy vy (λy H Q E h=>?_) (λcdv A outer s H y Q E hr h=>?_)
 .have(_,_,_,_,_,rfl,_):=h;rfl
 let(t,b,d,r,c,rfl,G,v,D,B,k):=h;refine#[_,(Z5 (Z8 (ou (j7 (gJ hr)) (va fk 0) (va fk 2) (by rfl')) (Zd (@gZ _ _ _ _ _ rfl (@je _ _ _ _ _ _ _ _ _ _ _ _ _ _ _ _ _ j.k j.ok (hr.mono ()) (by left) j.m j.bd .nil lF (Zc (va fk 0)) (by decide) (by rfl) (by rfl))))) (Zd (Z8 (Zg qc (Z2 aM l OS (Zc (va fk 1))) (jV (gJ hr) (va fk 2) (va fk 0) (λ_ _=>rfl)) (bz _)) (Zd (@gZ _ _ _ _ _ rfl (@je _ _ _ _ _ _ _ _ _ _ _ _ _ _ _ _ _ g.k g.ok (hr.mono ()) (by left) g.m g.bd .nil lF (Zc (va fk 0)) (by decide) (by rfl) (by rfl))))))),?_]
 right
 try dsimp only[qw,qx]
 cases c with
 |none =>
  let o:=D rfl;let p:cF H d (.str t) Yc:=v;ext;calc gi j.c o
 |some n =>
  let p:cF H d (.str t) (Yb (.int n)):=v;ext;refine bP (λc=>?_) (λc=>?_)
  .have o:=B n rfl (λz=>by rw[z]at c;simp at c);ext;exact gi g.c o
  .have e:r.length=n:=by
    by_cases z:r.length=n
    .exact z
    .exact absurd (by simpa using λq=>z (by exact_mod_cast q)) c
   ext;calc k n rfl e
meta def AY(K:bN)(C t u cW:Yh):Sp:=λm H Q E=>∃(j:Hp) (b o:Yh) (a:qC) (e:Kl) (r:Yi (Yg×Nat)) (q p:Yi Int) (d:Yi (Yg×Yi Yg)) (ks:Yi T) (g:Yi V),m=[.ref b,.ref o]/\bY K H b g/\bR K H (O9 jE d ks) g/\d.length=ks.length/\d.length<=20/\(∀x∈d,x.2.length<=20) /\
 ic C j o a e r q p H/\xY e/\(jg e).Nodup/\(∀f,fz e d=Yb f->TF t u cW E j f)/\(fz e d=Yc->∀l,aR H l->Q .eR l)
def GJ (h:∀x∈a,x.dep<=d):T.nI a<=d:=by
 induction a with
 |nil=>calc ON _
 |cons x r ih =>
  let j:=h x (.head _);let g:=ih λy e=>h y (.tail _ e);unfold T.nI;omega
def Ce (xs:Yi Yg):T.nI (xs.map T.s)<=149:=GJ λx d=>by
 let(y,_,rfl):=O2.mp d;calc Ni
def wg {d:Type}{p:d->Bool}{l:List d}{x:d}(h:l[i]?=Yb x):(l.drop i).find? p=if p x=Yd then Yb x else(l.drop (i+1)).find? p:=by
 let e:=(bH.mp h).1;let g:l.drop i=x::l.drop (i+1):=by rw[O5 e,(bH.mp h).2]
 rw[g,PD]
 cases p x<;>rfl
theorem uK {d g:Type}{p:d->Option g}{l:List d}{i:Nat}{x:d}(h:l[i]?=Yb x):(l.drop i).findSome? p=match p x with
  |some y=>Yb y
  |none=>(l.drop (i+1)).findSome? p:=by
 let e:=(bH.mp h).1;let j:l.drop i=x::l.drop (i+1):=by rw[O5 e,(bH.mp h).2]
 rw[j,List.findSome?_cons]
 cases p x<;>rfl
def jZ {i:Nat}(h:(O9 jE arms ks)[i]?=Yb t):∃x k,arms[i]?=Yb x/\t=.t [.s x.1,.t (x.2.map .s),k]:=by
 rw[RM]at h
 cases e1:arms[i]? with
 |none=>rw[e1]at h;cases h
 |some x =>
  cases e2:ks[i]? with
  |none=>rw[e1,e2]at h;cases h
  |some k =>
   rw[e1,e2]at h;calc#[x,k,rfl,(OL h).symm]
theorem D6 :∀{kl:Kl}{kvs:Yi (Key×V)}{kd:Yg×Yi (Yg×Yi Kk)},Paired (Mq a H) kl kvs->Ad kl n=Yb kd->∃l,cZ kvs (Sum.inr n)=Yb (.ref l)/\H l=Yb (.Y (kd.2.map λt=>.str t.1))
 |_,_,_,.nil,h=>nomatch h
 |k::r,_,kd,.cons ⟨l,e,hl,_⟩ t,h=>by
  subst e;unfold Ad at h;rw[PD]at h
  by_cases c:k.1=n
  .rw[decide_eq_true c]at h
   cases h
   exact#[l,fJ (show(Sum.inr k.1:Key)=Sum.inr n by rw[c]),hl]
  .rw[decide_eq_false c]at h;let(l2,g,d):=D6 t h;calc#[l2,by rw[fK (λz=>c (PZ z))];calc g,d]
def ID (h:jR kl t=Yb y):∃kd,Ad kl y.2.1=Yb kd/\kd∈kl/\y.1=t:=by
 let d:=Qg h;let l:y.1=t:=by simpa using List.find?_some h
 unfold tl at d;let(k,j,g):=QD.mp d;let(z,_,rfl):=O2.mp g
 cases e:Ad kl k.1 with
 |none =>
  let:=Ra.mp e k j;simp at this
 |some kd=>calc#[kd,rfl,Qg e,l]
def bT :Nm Xq (ak iN):=by decide
def fU :Lm Xq (ak iN):=by decide
def eZ :aY Xq ["arms","known"] (ak iN):=by ac_rfl
def GK (F:jn K "look_arms" "look_arms" iN f fd)(N:KO K C)(LO:Zu "look_once" 3 X8 (rC K cT) gO ofd)(S:Zu "look_count" 3 Xy (xE K cN cW) gC cfd)(e:Zv "NoName" "name" cN fN dN)(g:Zv "WrongCount" "name" cW fW dW)(r:mg "sorted"=Yc):Zt (yK P w) 4 f fd ["arms","known"] (AY K C cT cN cW):=by
 refine F.Gy eZ (λZ H Q E h=>?_) (λcdv A outer s H Z Q E hr h=>?_)
 .have(_,_,_,_,_,_,_,_,_,_,_,rfl,_):=h;rfl
 let(H0,b,o,a,l,ds,gs,os,d,ks,L,rfl,sq,rs,hl,la,ln,J,hB,bn,hE,k):=h;refine#[_,(Z5 (Z8 (@zw _ _ _ _ (yg (va bT 0) (λ_=>rfl))) (Zd (@gZ _ _ _ _ _ rfl (je e.k e.ok (hr.mono ()) (by left) e.m e.bd .nil lF (Zc aD))))) (Z5 (Zj (jb rfl rfl rfl) (cG (va bT 0)) (Zb (3) (Zf (ga eZ.nd fU 2) (Zf (ga eZ.nd fU 3) (Zs (ga eZ.nd fU 4))))) (Zd (Z8 (Zg (j7 (gJ hr)) (va bT 2) (kg (va bT 1) rfl) (by rfl')) (Zd (@gZ _ _ _ _ _ rfl (@je _ _ _ _ _ _ _ _ _ _ _ _ _ _ _ _ _ e.k e.ok (hr.mono ()) (by left) e.m e.bd .nil lF (Zc (va bT 2)) (by decide) (by rfl) (by rfl))))))) (Z5 (Z4 eZ.nd fU 5 (@jV _ _ _ _ _ _ (gJ hr) (kg (va bT 1) rfl) (Zh aI (Z6 aI (va bT 0)) aB) (λ_ _=>rfl))) (Z5 (Z8 (Zg (Jw hr.Dk) (Z2 uG r UI (Z1 (Ze (ak iN) Xq Xn [] (cG (va bT 0)) (λ_ _ _ _=>(Zb (3) (Zf (Zx Xn 0) (Zf (Zx Xn 1) (Zs (Zx Xn 2)))))) (λ_ _ _ _=>(Zw Xn 0))) aA)) (Z2 uG r UI (Z1 (@jV _ _ _ _ _ _ (gJ hr) (kg (va bT 1) rfl) (va bT 5) (λ_ _=>rfl)) aA)) (bz _)) (Zd (@gZ _ _ _ _ _ rfl (je g.k g.ok (hr.mono ()) (by left) g.m g.bd .nil lF (Zc aD))))) (Zd (Zj (jb rfl rfl rfl) (cG (va bT 0)) (Zb (3) (Zf (ga eZ.nd fU 2) (Zf (ga eZ.nd fU 3) (Zs (ga eZ.nd fU 4))))) (Z5 (Zo (@eN _ _ _ _ _ _ _ _ _ _ _ _ _ _ _ _ S.ok (hr.mono ()) (by left) S.at' S.kp S.bd .nil jK (Z1 (va bT 2) (Z1 (va bT 3) (Z1 (kg (va bT 1) rfl) aA))) (by decide) (by rfl) (by rfl))) (Zd (Zo (@eN _ _ _ _ _ _ _ _ _ _ _ _ _ _ _ _ LO.ok (hr.mono ()) (by left) LO.at' LO.kp LO.bd .nil jK (Zc (va bT 3)) (by decide) (by rfl) (by rfl))))))))))),?_]
 right
 try dsimp only[qw,qx]
 let hc:=N.c;let n1:=N.kinds;let n2:=N.ktag;let n3:=N.mtag;let g1:=uE a;let g2:=DV a;let g3:=vZ a;let aw:=J.ins;let u:=rs.length;rw[PV,<-hl,RB]at u
 cases ea:d with
 |nil =>
  subst ea;let tt:=(hE (.nn,"match") rfl).Z J.sm;obtain rfl:L=[]:=QH.mp u;ext;calc gi e.c tt
 |cons a0 ar =>
  let em:(!L.isEmpty)=Yd:=by
   cases L with
   |nil=>rw[ea]at u;cases u
   |cons _ _=>rfl
  let e0:fz l d=match d.find? (λb=>decide ((jR l b.1).isSome=Ye))with
    |some b=>Yb (.nn,b.1)
    |none=>if(d.map (·.1)).isPerm ((((jR l a0.1).bind λy=>Ad l y.2.1).map λk=>k.2.map (·.1)).getD [])=Yd then d.findSome? (jy l)else Yb (.wr,"match"):=by subst ea;rfl
  let h0:d[0]?=Yb a0:=by rw[ea];rfl
  clear ea;calc jF ?_;intro N1 N2 c1 c2;ext;rw[em];ext;clear c1
  let a1:∀t,cF H a.dT (.str t) ((jR l t).map λx=>V.str x.2.1):=λt=>by
   let:=cF.k (k:=Sum.inr t) J.kt;rw[qD (λx:Yg×Yg×Yi Kk=>x.1) (λx=>V.str x.2.1)]at this;exact this
  refine eY (K:=K) (xs:=L) (λi v X=>(∃y2 y3 y4 y5,v=[Yb (.ref b),Yb (.ref o),y2,y3,y4,y5])/\X=H/\d.find? (λb=>decide ((jR l b.1).isSome=Ye))=(d.drop i).find? (λb=>decide ((jR l b.1).isSome=Ye))) #[#[_,_,_,_,rfl],rfl,rfl] ?_ ?_ ?_
  .rintro i v X hi ⟨_,rfl,_⟩;exact sq
  .rintro i xv v X hxv ⟨⟨_,_,_,_,rfl⟩,rfl,R⟩;let(t,ht,rx):=rs.get' hxv;let(x,kk,hx,rfl):=jZ ht;let(qa,v1,v2,v3,rfl,a3,q1,q2,q3):=rx.t3;obtain rfl:=q1.aL;rw[wg hx]at R;let dg:=a1 x.1
   cases et:jR l x.1 with
   |none =>
    rw[et]at dg R;let bg:cF X a.dT (.str x.1) Yc:=dg;let e3:d.find? (λb=>decide ((jR l b.1).isSome=Ye))=Yb x:=R;rw[e3]at e0;let tt:=(hE _ e0).Z J.sm;ext;calc gi e.c tt
   |some y =>
    rw[et]at dg R;let bg:cF X a.dT (.str x.1) (Yb (.str y.2.1)):=dg;ext;exact R
  rintro v X ⟨⟨_,_,_,_,rfl⟩,rfl,R⟩;rw[u,Pa]at R;rw[R]at e0;let hz:0<d.length:=(bH.mp h0).1
  obtain⟨y,hy⟩:∃y,jR l a0.1=Yb y:=by
   let hm:=Ra.mp R a0 (xn h0)
   cases et:jR l a0.1 with
   |some y=>calc#[y,rfl]
   |none=>rw[et]at hm;simp at hm
  let(kd,av,a8,_):=ID hy;let(lk,vk,au):=D6 J.ke av;rw[hy]at e0
  let p:fz l d=if(d.map (·.1)).isPerm (kd.2.map (·.1))=Yd then d.findSome? (jy l)else Yb (.wr,"match"):=by
   rw[e0];show(if(d.map (·.1)).isPerm (((Ad l y.2.1).map λk=>k.2.map (·.1)).getD [])=Yd then _ else _)=_;rw[av];rfl
  let bq:cF X a.dK (.str y.2.1) (Yb (.ref lk)):=by
   let:=cF.k (k:=Sum.inr y.2.1) J.kk;rw[vk]at this;exact this
  let bs:cF X a.dT (.str a0.1) (Yb (.str y.2.1)):=by let:=a1 a0.1;rw[hy]at this;exact this
  obtain⟨u0,ap⟩:∃u0,L[0]?=Yb u0:=#[L[0],by simp[u,hz]];let(t,ht,rx):=rs.get' ap;let(x,kk,hx,rfl):=jZ ht;obtain rfl:a0=x:=OL (h0.symm.trans hx);let(qa,v1,v2,v3,rfl,a3,q1,q2,q3):=rx.t3;obtain rfl:=q1.aL;let bx:dZ L 0=Yb (.ref qa):=aF (j:=0) ap;let bw:dZ [V.str a0.1,v2,v3] 0=Yb (.str a0.1):=aF (j:=0) rfl;ext;clear c2;refine gc (K:=K) (xs:=L) (λj v Z W=>(∃y1 y2 y3,v=[y1,y2,y3])/\W=X/\Z=(d.take j).map λx=>V.str x.1) #[#[_,_,_,rfl],rfl,rfl] ?_ (small ()) ?_ ?_ ?_
  .rintro j v Z W hj ⟨_,_,rfl⟩;rw[bM,x9];omega
  .rintro j v Z W hj ⟨_,rfl,_⟩;exact sq
  .rintro j yv v Z W hyv ⟨⟨_,_,_,rfl⟩,rfl,rfl⟩;let(t,ht,ry):=rs.get' hyv;let(x,kj,an,rfl):=jZ ht;let a9:=(bH.mp an).1;let bb:d.take (j+1)=d.take j++[x]:=by rw[i3 a9,(bH.mp an).2]
   let(ga,w1,w2,w3,rfl,az,p1,p2,p3):=ry.t3;obtain rfl:=p1.aL;ext;rw[bb,i4];rfl
  rintro v Z W ⟨_,rfl,rfl⟩ l3 hl3;rw[u,OO];let be:(d.map λx=>V.str x.1)=(d.map (·.1)).map V.str:=by rw[Pz];rfl
  rw[be];let s4:=ae hl3 (.Y ((d.map (·.1)).map V.str));let h4:bA K (upd W l3 (.Y ((d.map (·.1)).map V.str))) l3 ((d.map (·.1)).map V.str):=bA.of af;generalize upd W l3 (.Y ((d.map (·.1)).map V.str))=H4 at s4 h4|-;let lm:(d.map (·.1)).length<64:=by rw[bM];omega
  ext G l5 ad al a7;let s5:=ae a7 (.Y (G.map V.str));let h5:bA K (upd H4 l5 (.Y (G.map V.str))) l5 (G.map V.str):=bA.of af;generalize upd H4 l5 (.Y (G.map V.str))=H5 at s5 h5|-;let O:=s4.trans s5;let bp:=O _ _ aw
  let a2:cF H5 a.dK (.str y.2.1) (Yb (.ref lk)):=by
   let:=cF.k (k:=Sum.inr y.2.1) (O _ _ J.kk);rw[vk]at this;exact this
  let bc:(kd.2.map λt=>V.str t.1)=(kd.2.map (·.1)).map V.str:=by rw[Pz];rfl
  rw[bc]at au;let as:bA K H5 lk ((kd.2.map (·.1)).map V.str):=bA.of (O _ _ au);let bm:(kd.2.map (·.1)).length<64:=by rw[bM];let:=(hB.2 kd a8).1;omega
  ext M l6 ac aj a6;let s6:=ae a6 (.Y (M.map V.str));let h6:bA K (upd H5 l6 (.Y (M.map V.str))) l6 (M.map V.str):=bA.of af;generalize upd H5 l6 (.Y (M.map V.str))=H6 at s6 h6|-;let ab:=O.trans s6;let ax:bA K H6 l5 (G.map V.str):=s6.seq h5
  let ah:G=M↔(d.map (·.1)).isPerm (kd.2.map (·.1))=Yd:=by
   rw[Tu];constructor
   .intro z;subst z;exact ad.symm.trans ac
   .intro z;exact yU (ad.trans (z.trans ac.symm)) al aj
  let D:G.map T.s=M.map T.s↔G=M:=#[λz=>List.map_inj_right (λ_ _ q=>T.s.inj q)|>.mp z,λz=>by rw[z]]
  calc#[l5,l6,G.map T.s,M.map T.s,_,_,rfl,rfl,ax,bR.strs _,h6,bR.strs _,Ce _,_,rfl,?_];refine bP (λc=>?_) (λc=>?_)
  .have np:¬(d.map (·.1)).isPerm (kd.2.map (·.1))=Yd:=λz=>by
    rw[decide_eq_true (D.mpr (ah.mpr z))]at c
    cases c
   rw[if_neg np]at p;let tt:=(hE _ p).Z (J.sm.trans ab);ext;exact gi g.c tt
  let np:(d.map (·.1)).isPerm (kd.2.map (·.1))=Yd:=by
   by_cases z:G.map T.s=M.map T.s
   .exact ah.mp (D.mp z)
   .exact absurd (by rw[decide_eq_false z];rfl) c
  rw[if_pos np]at p;let bj:=sq.Z ab
  let bf:∀t H',aR W H'->cF H' a.dM (.str t) (((jR l t).map λx=>x.2.2.length).map λ(n:Nat)=>V.int (n:Int)):=λt H' s'=>by
   let:=cF.k (k:=Sum.inr t) (s' _ _ J.km);rw[qD (λx:Yg×Yg×Yi Kk=>x.1) (λx=>V.int x.2.2.length)]at this;rw[Vx];exact this
  clear ah D ac ad al aj ax h6 h5 as a2 h4;ext;refine eY (K:=K) (xs:=L) (λi v U=>(∃y2 y3 y4 y5,v=[Yb (.ref b),Yb (.ref o),y2,y3,y4,y5])/\aR W U/\d.findSome? (jy l)=(d.drop i).findSome? (jy l)) #[#[_,_,_,_,rfl],ab,rfl] ?_ ?_ ?_
  .rintro i v U hi ⟨_,I,_⟩;exact sq.Z I
  .rintro i xv v U hxv ⟨⟨_,_,_,_,rfl⟩,I,B⟩;let(t,ht,ry):=rs.get' hxv;let(x,kj,ao,rfl):=jZ ht;let(ga,w1,w2,w3,rfl,az,p1,p2,p3):=ry.t3;obtain rfl:=p1.aL;let(na,bk,rfl,a4,a5):=p2.aS;obtain rfl:=a5.lK;rw[uK ao]at B;let bh:=az.Z I;let am:=a4.Z I;let bo:=I _ _ aw;let br:=bf x.1 U I;let aa:=J.sm.trans I;let bl:=ln x (xn ao)
   let bv:(jR l x.1).map (λx=>x.2.2.length)=Yc->Told E U cN "name" (.str x.1):=λz=>by
    let Y:jy l x=Yb (.nn,x.1):=by
     unfold jy;rw[RD.mp z]
    rw[Y]at B;rw[B]at p;exact(hE _ p).Z aa
   let bt:∀n,(jR l x.1).map (λx=>x.2.2.length)=Yb n->(x.2.map V.str).length≠n->Told E U cW "name" (.str x.1):=λn z hn=>by
    let(y',ag,rfl):=ri.mp z
    let Y:jy l x=Yb (.wr,x.1):=by
     unfold jy;rw[ag];dsimp only;rw[if_neg (λq=>hn (by rw[bM];calc q))]
    rw[Y]at B;rw[B]at p;exact(hE _ p).Z aa
   ext n hn aq;let(y',ag,rfl):=ri.mp hn
   let Y:jy l x=(cJ [] x.2).map λz=>(.tw,z):=by
    unfold jy;rw[ag];dsimp only;rw[if_pos (by rw[bM]at aq;calc aq)]
   let bi:nq K Yd U na (x.2.map V.str):=am;let l5:x.2.length<=500:=()
   let oE:∀z,cJ [] x.2=Yb z->Told E U cT "name" (.str z):=λz hz=>by
    rw[hz]at Y;let ai:jy l x=Yb (.tw,z):=Y;rw[ai]at B;rw[B]at p;exact(hE _ p).Z aa
   ext ba H8 s8;rw[ba]at Y;let ai:jy l x=Yc:=Y;rw[ai]at B;exact#[#[_,_,_,_,rfl],I.trans s8,B]
  .rintro v U ⟨_,I,B⟩;rw[u,Pa]at B;rw[B]at p;calc k p _ I
theorem Ag :∀{l:Yi (Yg×Yg×Nat)}{kvs:Yi (Key×V)}{z:Yg×Yg×Nat},Paired (JO H) l kvs->l.find? (λx=>decide (x.1=t))=Yb z->∃q,cZ kvs (Sum.inr t)=Yb (.ref q)/\H q=Yb (.J [.str z.2.1,.int z.2.2])
 |_,_,_,.nil,h=>nomatch h
 |k::r,_,z,.cons ⟨l,e,hl⟩ p,h=>by
  subst e;rw[PD]at h
  by_cases c:k.1=t
  .rw[decide_eq_true c]at h
   cases h
   exact#[l,fJ (show(Sum.inr k.1:Key)=Sum.inr t by rw[c]),hl]
  .rw[decide_eq_false c]at h;let(l2,g,d):=Ag p h;calc#[l2,by rw[fK (λz=>c (PZ z))];calc g,d]
theorem D7 :∀{kl:Kl}{kvs:Yi (Key×V)}{kd:Yg×Yi (Yg×Yi Kk)},Paired (Mr S H) kl kvs->Ad kl n=Yb kd->∃l,cZ kvs (Sum.inr n)=Yb (.ref l)/\H l=Yb (.Y (kd.2.map λt=>.str t.1))
 |_,_,_,.nil,h=>nomatch h
 |k::r,_,kd,.cons ⟨l,e,hl,_⟩ t,h=>by
  subst e;unfold Ad at h;rw[PD]at h
  by_cases c:k.1=n
  .rw[decide_eq_true c]at h
   cases h
   exact#[l,fJ (show(Sum.inr k.1:Key)=Sum.inr n by rw[c]),hl]
  .rw[decide_eq_false c]at h;let(l2,g,d):=D7 t h;calc#[l2,by rw[fK (λz=>c (PZ z))];calc g,d]
def qF (kl:Kl)(t:Yg):(sr kl).find? (λx=>decide (x.1=t))=(jR kl t).map λx=>(x.1,x.2.1,x.2.2.length):=by
 unfold sr jR;rw[List.find?_map];rfl
def D8 (h:(jg kl).Nodup)(d:kd∈kl):(kd.2.map (·.1)).Nodup:=by
 let(l1,l2,rfl):=V3 d;unfold jg at h;rw[Pk,Qt]at h;calc(Qc.mp (Qc.mp h).2.1).1
theorem AZ :∀(e told:Yi Yg),e.Nodup->e.length=told.length->(∀t∈e,t∈told)->told.Perm e
 | [],told,_,hl,_=>by
  obtain rfl:told=[]:=QH.mp hl.symm;calc .refl _
 |t::r,told,hn,hl,hs=>by
  let(a,b,rfl):=V3 (hs t (.head _));let d:=Qz.mp hn
  let j:=AZ r (a++b) d.2 (by rw[OT,mu,OT]at hl;rw[mu];omega) λx g=>by
   let:=hs x (.tail _ g);rw[IF,L0]at this;rw[IF];rcases this with h|rfl|h
   .exact .inl h
   .exact absurd g d.1
   .exact .inr h
  calc List.perm_middle.trans (j.cons t)
def Cf {told:Yi Yg}(hn:d.Nodup):told.isPerm d=Yd↔told.length=d.length/\∀t∈d,t∈told:=by
 rw[Tu];constructor
 .intro p;exact#[p.length_eq,λt e=>p.mem_iff.mpr e]
 .rintro⟨j,g⟩;calc AZ d told hn j.symm g
structure M5(H7:Hp) (xs:Yi Yg) (j:Nat) (vs:Yi V) (H8:Hp):Prop where
 s:aR H7 H8
 l:vs.length<=j
 e:(vs=[]/\cJ [] xs=cJ (xs.take j) (xs.drop j))\/∃z r,vs=.str z::r/\cJ [] xs=Yb z
meta def A0(K:bN):Sp:=λo H Q _=>∃(t:Hp) (S:mY) (b d:Yh) (g:Kl) (r:Yi (Yg×Nat)) (q p:Yi Int) (e:Yi (Yg×Yi Yg)) (ks:Yi T) (m:Yi V),o=[.ref d,.ref b]/\eL t S g (sr g) r q p H/\S.d=d/\bY K H b m/\bR K H (O9 jE e ks) m/\e.length=ks.length/\e.length<=20/\(∀x∈e,x.2.length<=20)/\xY g/\(jg g).Nodup /\
 ∀l j,aR H j->nu j (fz g e) l->Q l j
def aU :Nm WS (ak dQ):=by decide
def cI :Lm WS (ak dQ):=by decide
def cu :aY WS X0 (ak dQ):=by ac_rfl
def D9 (F:jn K "_law_arms_fault" "_law_arms_fault" dQ f fd)(m:mg "len"=Yc)(ad:mg "all"=Yc)(z_range:mg "range"=Yc):Zt gz 3 f fd X0 (A0 K):=by
 refine F.ok cu (λv H Q E h=>?_) (λcdv A outer s H v Q E hr h=>?_)
 .have(_,_,_,_,_,_,_,_,_,_,_,rfl,_):=h;rfl
 let(H0,S,b,d,u,ds,gs,os,g,ks,R,rfl,sc,rfl,sq,rs,hl,la,ln,hB,bg,k):=h;refine#[_,(Z5 (Z8 (Zg bO (Z2 aM m OS (Zc (va aU 1))) aB (bz _)) (Zd (Zp (Zq (di aD (Zc aD)))))) (Z5 (Zj O8 (cG (va aU 1)) (Zb (3) (Zf (ga cu.nd cI 2) (Zf (ga cu.nd cI 3) (Zs (ga cu.nd cI 4))))) (Zd (Z8 (Zg (j7 (gJ hr)) (va aU 2) (Zi (va aU 0)) (by rfl')) (Zd (Zp (Zq (Z1 aD (Zc (va aU 2))))))))) (Z5 (Z4 cu.nd cI 5 (@jV _ _ _ _ _ _ (gJ hr) (Zi (va aU 0)) (Zh aI (@jV _ _ _ _ _ _ (gJ hr) (Zi (va aU 0)) (Zh aI (Z6 aI (va aU 1)) aB) (λ_ _=>rfl)) aB) (λ_ _=>rfl))) (Z5 (Z4 cu.nd cI 6 (Ze (ak dQ) WS WZ [] (cG (va aU 1)) (λ_ _ _ _=>(Zb (3) (Zf (Zx WZ 0) (Zf (Zx WZ 1) (Zs (Zx WZ 2)))))) (λ_ _ _ _=>(Zw WZ 0)))) (Z5 (Z8 (PW.pt (@pX _ _ _ _ _ _ _ (Zg qc (Z2 aM m OS (Zc (va aU 6))) (Z2 aM m OS (Zc (va aU 5))) (bz _)) (@pA _ _ _ _ (@zw _ _ _ _ (@tJ _ _ _ (Z2 (Dg rfl) ad PyProof.Rows.boot_all (Z1 (Ze (ak dQ) WS ["_law_t"] [6] (jT (va aU 5)) (λ_ _ _ _=>(Zx XX 0)) (λ_ _ _ _=>(jA (tZ K rfl) (Zw XX 0) (Zw XX 1) (by rfl')))) aA)) (by intro _;rfl)))))) (Zd (Zp (Zq (di aD (Zc aD)))))) (Z5 (Zj O8 (cG (va aU 1)) (Zb (3) (Zf (ga cu.nd cI 2) (Zf (ga cu.nd cI 3) (Zs (ga cu.nd cI 4))))) (Z5 (Z8 (Zg qc (Z2 aM m OS (Zc (va aU 3))) (Zh aI (@jV _ _ _ _ _ _ (gJ hr) (Zi (va aU 0)) (va aU 2) (λ_ _=>rfl)) aB) (bz _)) (Zd (Zp (Zq (Z1 aD (Zc (va aU 2))))))) (Z5 (@nL _ _ _ _ _ _ _ _ _ _ _ _ _ _ _ (ak dQ) WS ["_law_k"] [3] rfl rfl rfl (by decide) (Zr (Z1 (Z2 aM m OS (Zc (va aU 3))) aA)) (λ_ _ _ _=>(Zx Xo 0)) (λ_ _ _ _=>(@yx _ _ _ (Zg (tZ K rfl) (jD (qq K rfl) (Zw Xo 1) (Zw Xo 0) (λ_ _=>rfl)) (@b6 _ _ _ _ _ _ _ _ _ _ (FQ K rfl) (Zw Xo 1) cQ (bZ (Zw Xo 0))) (by rfl')))) (λ_ _ _ _=>(jD (qq K rfl) (Zw Xo 1) (Zw Xo 0) (λ_ _=>rfl))) (ga cu.nd cI 7) (by kernel_rfl) (by intro _;rfl)) (Zd (Z8 (Zg rM (Z2 aM m OS (Zc (va aU 7))) aB (bz _)) (Zd (Zp (Zq (Z1 aD (Z1 (Z6 aZ (va aU 7)) aA)))))))))) (cA (cS gw)))))))),?_]
 right
 let G:=rs.length;rw[PV,<-hl,RB]at G;let gt:=fj sc.sd (mJ S);let gk:=fj sc.sd (nY S);let(tv,ht,pt):=sc.ht;ext
 cases ea:g with
 |nil =>
  subst ea;obtain rfl:R=[]:=QH.mp G;ext p Y;calc k _ _ (ae Y _) #[p,rfl,af]
 |cons M ar =>
  let hz:0<R.length:=by rw[G,ea];exact Nat.succ_pos _
  let e0:fz u g=match g.find? (λb=>decide ((jR u b.1).isSome=Ye))with
    |some b=>Yb (.nn,b.1)
    |none=>if(g.map (·.1)).isPerm ((((jR u M.1).bind λy=>Ad u y.2.1).map λk=>k.2.map (·.1)).getD [])=Yd then g.findSome? (jy u)else Yb (.wr,"match"):=by subst ea;rfl
  let h0:g[0]?=Yb M:=by rw[ea];rfl
  clear ea
  let nz:¬decide (V.int (R.length:Int)=V.int 0)=Yd:=λz=>by
   let z':=V.int.inj (of_decide_eq_true z);let:(R.length:Int)=0:=z';omega
  calc bP (λc=>absurd c nz) (λc=>?_);let ao:∀t H',aR H H'->cF H' S.dt (.str t) (cZ tv (Sum.inr t)):=λt H' s'=>cF.k (k:=Sum.inr t) (s' _ _ ht)
  let vT:∀t,(cZ tv (Sum.inr t)).isSome=(jR u t).isSome:=λt=>by
   rw[xD pt,jY,<-pS];unfold jR
   by_cases c:t∈(tl u).map (·.1)
   .rw[decide_eq_true c];let(x,hx,e):=O2.mp c
    cases q:(tl u).find? λx=>decide (x.1=t)with
    |some y=>rfl
    |none =>
     let:=Ra.mp q x hx;simp[e]at this
   .rw[decide_eq_false c]
    cases q:(tl u).find? λx=>decide (x.1=t)with
    |none=>rfl
    |some y =>
     let h1:y.1=t:=by simpa using List.find?_some q
     exact absurd (by rw[<-h1];calc O6 (Qg q)) c
  ext;refine eY (K:=K) (xs:=R) (λi o X=>(∃y2 y3 y4 y5 y6 y7,o=[Yb (.ref S.d),Yb (.ref b),y2,y3,y4,y5,y6,y7])/\X=H/\g.find? (λb=>decide ((jR u b.1).isSome=Ye))=(g.drop i).find? (λb=>decide ((jR u b.1).isSome=Ye))) #[#[_,_,_,_,_,_,rfl],rfl,rfl] ?_ ?_ ?_
  .rintro i o X hi ⟨_,rfl,_⟩;exact sq
  .rintro i xv o X hxv ⟨⟨_,_,_,_,_,_,rfl⟩,rfl,W⟩;let(t,D,rx):=rs.get' hxv;let(x,kk,hx,rfl):=jZ D;let(qa,v1,v2,v3,rfl,a8,q1,q2,q3):=rx.t3;obtain rfl:=q1.aL;rw[wg hx]at W;let dg:=ao x.1 X (aR.refl _);let vx:=vT x.1
   cases et:jR u x.1 with
   |none =>
    rw[et]at vx W;let e3:g.find? (λb=>decide ((jR u b.1).isSome=Ye))=Yb x:=W;rw[e3]at e0;ext;calc bP (λc=>?_) (λc=>absurd (by rw[vx];rfl) c);ext p Y;calc k _ _ (ae Y _) (by rw[e0];calc#[p,rfl,af])
   |some y =>
    rw[et]at vx W;ext;refine bP (λc=>?_) (λc=>?_)
    .rw[vx]at c;cases c
    ext;exact W
  rintro o X ⟨⟨_,_,_,_,_,_,rfl⟩,rfl,W⟩;rw[G,Pa]at W;rw[W]at e0
  obtain⟨y,hy⟩:∃y,jR u M.1=Yb y:=by
   let Z:=Ra.mp W M (xn h0)
   cases et:jR u M.1 with
   |some y=>calc#[y,rfl]
   |none=>rw[et]at Z;simp at Z
  let a6:∀x∈g,∃y,jR u x.1=Yb y:=λx hx=>by
   let Z:=Ra.mp W x hx
   cases et:jR u x.1 with
   |some y=>calc#[y,rfl]
   |none=>rw[et]at Z;simp at Z
  let(kd,a3,a2,_):=ID hy;let(lk,vk,aa):=D7 sc.ke a3;let(tq,vq,be):=Ag (z:=(y.1,y.2.1,y.2.2.length)) pt (by rw[qF,hy];rfl);rw[hy]at e0
  let B:fz u g=if(g.map (·.1)).isPerm (kd.2.map (·.1))=Yd then g.findSome? (jy u)else Yb (.wr,"match"):=by
   rw[e0];show(if(g.map (·.1)).isPerm (((Ad u y.2.1).map λk=>k.2.map (·.1)).getD [])=Yd then _ else _)=_;rw[a3];rfl
  let bt:cF X S.dk (.str y.2.1) (Yb (.ref lk)):=by
   let:=cF.k (k:=Sum.inr y.2.1) sc.hk;rw[vk]at this;exact this
  let bw:cF X S.dt (.str M.1) (Yb (.ref tq)):=by let:=ao M.1 X (aR.refl _);rw[vq]at this;exact this
  let bo:bY K X tq [.str y.2.1,.int y.2.2.length]:=bY.of be;obtain⟨u0,aw⟩:∃u0,R[0]?=Yb u0:=#[R[0],by simp[hz]];let(t,D,rx):=rs.get' aw;let(x,kk,hx,rfl):=jZ D;obtain rfl:M=x:=OL (h0.symm.trans hx);let(qa,v1,v2,v3,rfl,a8,q1,q2,q3):=rx.t3;obtain rfl:=q1.aL;let b2:dZ R 0=Yb (.ref qa):=aF (j:=0) aw;let b1:dZ [V.str M.1,v2,v3] 0=Yb (.str M.1):=aF (j:=0) rfl;let b0:dZ [V.str y.2.1,.int y.2.2.length] 0=Yb (.str y.2.1):=aF (j:=0) rfl;ext;refine gc (K:=K) (xs:=R) (λj o v H3=>(∃y1 y2 y3,o=[y1,y2,y3])/\H3=X/\v=(g.take j).map λx=>V.str x.1) #[#[_,_,_,rfl],rfl,rfl] ?_ (small ()) ?_ ?_ ?_
  .rintro j o v H3 hj ⟨_,_,rfl⟩;rw[bM,x9];omega
  .rintro j o v H3 hj ⟨_,rfl,_⟩;exact sq
  .rintro j yv o v H3 hyv ⟨⟨_,_,_,rfl⟩,rfl,rfl⟩;let(t,D,ry):=rs.get' hyv;let(x,kj,L,rfl):=jZ D;let al:=(bH.mp L).1;let am:g.take (j+1)=g.take j++[x]:=by rw[i3 al,(bH.mp L).2]
   let(ga,w1,w2,w3,rfl,a4,p1,p2,p3):=ry.t3;obtain rfl:=p1.aL;ext;rw[am,i4];rfl
  rintro o v H3 ⟨_,rfl,rfl⟩ l3 hl3;rw[G,OO];let bi:(g.map λx=>V.str x.1)=(g.map (·.1)).map V.str:=by rw[Pz];rfl
  rw[bi];let s4:=ae hl3 (.Y ((g.map (·.1)).map V.str));let h4:bA K (upd H3 l3 (.Y ((g.map (·.1)).map V.str))) l3 ((g.map (·.1)).map V.str):=bA.of af;generalize upd H3 l3 (.Y ((g.map (·.1)).map V.str))=H4 at s4 h4|-;generalize htold:g.map (·.1)=told at h4 B;let bh:(kd.2.map λt=>V.str t.1)=(kd.2.map (·.1)).map V.str:=by rw[Pz];rfl
  rw[bh]at aa;let a1:=D8 bg a2;let bc:(kd.2.map (·.1)).length<=10:=by rw[bM];exact(hB.2 kd a2).1
  generalize htag:kd.2.map (·.1)=tags at aa a1 B bc;let ab:bA K H4 lk (tags.map V.str):=bA.of (s4 _ _ aa);let pp:=Cf (told:=told) a1;ext
  let C:¬told.isPerm tags=Yd->∀J,aR H3 J->∀p,J p=Yc->Q (.ref p) (upd J p (.Y [.str "wrong",.str "match"])):=λz J s5 p Y=>by
   rw[if_neg z]at B;exact k _ _ (s5.trans (ae Y _)) (by rw[B];calc#[p,rfl,af])
  refine bP (λc=>?_) (λc=>?_)
  .have z:¬told.isPerm tags=Yd:=λz=>by
    let e:=(pp.mp z).1;rw[bM,bM,e,decide_eq_true rfl]at c
    cases c
   let wr:=C z H4 s4;ext;exact wr
  let a5:told.length=tags.length:=by
   by_cases z:told.length=tags.length
   .exact z
   .refine absurd ?_ c;rw[bM,bM,decide_eq_false (λq=>z (by let q':=V.int.inj q;exact_mod_cast q'))];rfl
  let flt:=iP told;ext;refine jw (K:=K) (xs:=tags.map V.str) (λj o v J=>(∃y1,o=[y1,Yb (.ref l3)])/\J=H4/\v=(tags.take j).map λt=>V.bl (decide (t∈told))) #[#[_,rfl],rfl,rfl] ?_ (small (by rw[bM];omega)) ?_ ?_ ?_
  .rintro j o v J hj ⟨_,_,rfl⟩;rw[bM,x9];omega
  .rintro j o v J hj ⟨_,rfl,_⟩;exact ab
  .rintro j yv o v J hyv ⟨⟨_,rfl⟩,rfl,rfl⟩;rw[vv]at hyv;let(t,az,rfl):=ri.mp hyv;let al:=(bH.mp az).1;let am:tags.take (j+1)=tags.take j++[t]:=by rw[i3 al,(bH.mp az).2]
   let iv:=kG (x:=t) (xs:=told);ext;rw[am,i4,iv];rfl
  rintro o v J ⟨_,rfl,rfl⟩ l6 hl6;rw[bM,OO];let bj:(tags.map λt=>V.bl (decide (t∈told)))=(tags.map λt=>decide (t∈told)).map V.bl:=by rw[Pz];rfl
  rw[bj];let s6:=ae hl6 (.Y ((tags.map λt=>decide (t∈told)).map V.bl));let h6:bA K (upd J l6 (.Y ((tags.map λt=>decide (t∈told)).map V.bl))) l6 ((tags.map λt=>decide (t∈told)).map V.bl):=bA.of af;generalize upd J l6 (.Y ((tags.map λt=>decide (t∈told)).map V.bl))=H6 at s6 h6|-;let ag:=s4.trans s6
  let ac:((tags.map λt=>decide (t∈told)).all id)=decide (∀t∈tags,t∈told):=by
   rw[List.all_map]
   by_cases z:∀t∈tags,t∈told
   .rw[decide_eq_true z,Pj];intro t ht;exact decide_eq_true (z t ht)
   .rw[decide_eq_false z,<-Bool.not_eq_true,Pj];exact λq=>z λt ht=>of_decide_eq_true (q t ht)
  ext;rw[ac];refine bP (λc=>?_) (λc=>?_)
  .have z:¬told.isPerm tags=Yd:=λz=>by
    rw[decide_eq_true (pp.mp z).2]at c
    cases c
   let wr:=C z H6 ag;ext;exact wr
  let np:told.isPerm tags=Yd:=pp.mpr #[a5,by
   by_cases z:∀t∈tags,t∈told
   .exact z
   .exact absurd (by rw[decide_eq_false z];rfl) c]
  rw[if_pos np]at B;let bp:=sq.Z ag;clear ac h6 h4 ab aa C pp;ext;refine eY (K:=K) (xs:=R) (λi o N=>(∃y2 y3 y4 y5 y6 y7,o=[Yb (.ref S.d),Yb (.ref b),y2,y3,y4,y5,y6,y7])/\aR H3 N/\g.findSome? (jy u)=(g.drop i).findSome? (jy u)) #[#[_,_,_,_,_,_,rfl],ag,rfl] ?_ ?_ ?_
  .rintro i o N hi ⟨_,I,_⟩;exact sq.Z I
  .rintro i xv o N hxv ⟨⟨_,_,_,_,_,_,rfl⟩,I,U⟩;let(t,D,ry):=rs.get' hxv;let(x,kj,ai,rfl):=jZ D;let(ga,w1,w2,w3,rfl,a4,p1,p2,p3):=ry.t3;obtain rfl:=p1.aL;let(na,bq,rfl,ba,bb):=p2.aS;obtain rfl:=bb.lK;rw[uK ai]at U;let bn:=a4.Z I;let au:=ba.Z I;let bs:=fj (I _ _ sc.sd) (mJ S);let br:=ln x (xn ai);let(O,ah):=a6 x (xn ai);let(ap,a7,ax):=Ag (z:=(O.1,O.2.1,O.2.2.length)) pt (by rw[qF,ah];rfl);let bv:cF N S.dt (.str x.1) (Yb (.ref ap)):=by let:=ao x.1 N I;rw[a7]at this;exact this
   let bk:bY K N ap [.str O.2.1,.int O.2.2.length]:=bY.of (I _ _ ax);let bx:dZ [V.str O.2.1,.int O.2.2.length] 1=Yb (.int O.2.2.length):=aF (j:=1) rfl;ext;refine bP (λc=>?_) (λc=>?_)
   .have ef:jy u x=Yb (.wr,x.1):=by
     unfold jy;rw[ah];dsimp only;rw[if_neg (λq=>by rw[bM,q,decide_eq_true rfl]at c;cases c)]
    rw[ef]at U;rw[U]at B;ext p Y;exact k _ _ (I.trans (ae Y _)) (by rw[B];calc#[p,rfl,af])
   let ex:x.2.length=O.2.2.length:=by
    by_cases z:x.2.length=O.2.2.length
    .exact z
    .refine absurd ?_ c;rw[bM,decide_eq_false (λq=>z (by let q':=V.int.inj q;exact_mod_cast q'))];rfl
   let ef:jy u x=(cJ [] x.2).map λz=>(.tw,z):=by
    unfold jy;rw[ah];dsimp only;rw[if_pos ex]
   let av:(x.2.map V.str).length=x.2.length:=bM _;let en:(((x.2.map V.str).length:Nat):Int).toNat=x.2.length:=by rw[av];exact Qa _
   ext;rw[en];refine mw (n:=x.2.length) (λj o v H8=>(∃y1,o=[y1,Yb (.ref na)])/\M5 N x.2 j v H8) #[#[_,rfl],aR.refl _,i5 _,.inl #[rfl,rfl]] ?_ (small ()) ?_ ?_
   .rintro j o v H8 hj ⟨_,T⟩;exact T.l
   .rintro j o v H8 hj ⟨⟨_,rfl⟩,T⟩;let s8:=T.s;let as:=au.Z s8;let L:x.2[j]?=Yb x.2[j]:=by simp[hj]
    let aj:dZ (x.2.map V.str) (j:Int)=Yb (.str x.2[j]):=aF (by rw[vv,L];rfl);let b3:dZ (x.2.map V.str) ((0:Int)+(j:Int))=Yb (.str x.2[j]):=by rw[SO];exact aj
    let ec:iE (x.2.map V.str) Yc (Yb ((0:Int)+(j:Int)))=(x.2.take j).map V.str:=by rw[SO,gr,QY]
    let nw:¬(HT.iw (x.2.map V.str).length 0 Yc=0/\HT.iw (x.2.map V.str).length (x.2.map V.str).length (Yb ((0:Int)+(j:Int)))=(x.2.map V.str).length):=λz=>by
     let:=z.2;rw[SO,HT.kR,av]at this;omega
    let fl:=iP (x.2.take j);let iv:=kG (x:=x.2[j]) (xs:=x.2.take j);let ds:=yI L;ext p9 bf;rw[ec];let s9:=ae bf (.J ((x.2.take j).map V.str));let h9:bY K (upd H8 p9 (.J ((x.2.take j).map V.str))) p9 ((x.2.take j).map V.str):=bY.of af;generalize upd H8 p9 (.J ((x.2.take j).map V.str))=H9 at s9 h9|-;let bm:=as.Z s9;ext;refine bP (λc=>?_) (λc=>?_)
    .have Z:x.2[j]∈x.2.take j:=by
      let c':nh (.str x.2[j]) ((x.2.take j).map V.str)=Yd:=c;rw[iv]at c';exact of_decide_eq_true c'
     rw[if_pos Z]at ds
     let fin:M5 N x.2 (j+1) (v++[.str x.2[j]]) H9:=by
      calc#[s8.trans s9,by rw[mu];calc Q0 T.l,.inr ?_];rcases T.e with⟨rfl,e⟩|⟨z,r,rfl,e⟩
      .exact#[_,[],rfl,by rw[e];calc ds]
      .exact#[z,_,rfl,e]
     ext;exact fin
    .have Z:x.2[j]∉x.2.take j:=λz=>c (by show nh (.str x.2[j]) ((x.2.take j).map V.str)=Yd;rw[iv];calc decide_eq_true z);rw[if_neg Z]at ds
     let fin:M5 N x.2 (j+1) v H9:=by
      calc#[s8.trans s9,Uw T.l,?_];rcases T.e with⟨rfl,e⟩|h
      .exact .inl #[rfl,by rw[e];calc ds]
      .exact .inr h
     ext;exact fin
   .rintro o v H8 ⟨_,T⟩ l8 hl8;let s9:=ae hl8 (.Y v);let h9:bA K (upd H8 l8 (.Y v)) l8 v:=bA.of af;generalize upd H8 l8 (.Y v)=H9 at s9 h9|-;let aq:=T.s.trans s9;rcases T.e with⟨rfl,e⟩|⟨z,r,rfl,e⟩
    .rw[Pa]at e;let e':cJ [] x.2=Yc:=e;rw[e']at ef;let an:jy u x=Yc:=ef;rw[an]at U;ext
     .exact I.trans aq
     .exact U
    .rw[e]at ef;let an:jy u x=Yb (.tw,z):=ef;rw[an]at U;rw[U]at B;let a9:decide ((0:Int)<(((V.str z::r).length:Nat):Int))=Yd:=decide_eq_true (by rw[OT];omega);let M:dZ (V.str z::r) 0=Yb (.str z):=aF (j:=0) rfl;ext;calc bP (λ_=>?_) (λc=>absurd a9 c);ext p Y;exact k _ _ ((I.trans aq).trans (ae Y _)) (by rw[B];calc#[p,rfl,af])
  .rintro o N ⟨_,I,U⟩;rw[G,Pa]at U;rw[U]at B;let fin:=k .eR N I (by rw[B];rfl);ext;calc fin
meta def uL(h:Hd):Prop:=∀d,h=.mat d->d.length<=20/\∀x∈d,x.2.length<=20
meta def A1(K:bN)(C y z cW:Yh):Sp:=λu H Q E=>∃(m:Hp) (v q:V) (o:Yh) (a:qC) (d:Kl) (l:Yi (Yg×Nat)) (j r:Yi Int) (h:Hd) (ks:Yi Tm) (g:Yi Yg),u=[v,q,.ref o]/\Rp K H (enc (.mk h ks)) v/\cM h ks.length=Yd/\uL h/\ks.length<=900/\Rp K H (.t (g.map .s)) q/\g.length<=900 /\
 ic C m o a d l j r H/\xY d/\(jg d).Nodup/\j.length<=900/\(∀f,eK d l j g h ks.length=.error f->TF y z cW E m f)/\(∀e,eK d l j g h ks.length=.ok e->∀p,ic C m o a d l e r p->kH a H p->Q .eR p)
def bh :Nm XR (ak jI):=by decide
def xF :Lm XR (ak jI):=by decide
def qG :aY XR X4 (ak jI):=by ac_rfl
def Ea (F:jn K "look_term" "look_term" jI f fd)(N:KO K C)(LO:Zu "look_once" 3 X8 (rC K cT) gO ofd)(J:Zu "look_count" 3 Xy (xE K cN cW) gC cfd)(X:Zu "look_arms" 4 ["arms","known"] (AY K C cT cN cW) gA afd)(W:Zu "look_gap" 3 XY (DO cT) gG gfd)(p:Zv "NoName" "name" cN fN dN):Zt (yK P w) 5 f fd X4 (A1 K C cT cN cW):=by
 refine F.Gy qG (λvs H Q E h=>?_) (λcdv A outer s H vs Q E hr h=>?_)
 .have(_,_,_,_,_,_,_,_,_,_,_,_,rfl,_):=h;rfl
 let(H0,v,vn,o,a,O,ds,B,os,hd,ks,ns,rfl,r,ar,al,lk,rn,ln,u,hB,au,lg,Z,k):=h;refine#[_,(Z5 (Z4 qG.nd xF 3 (Z6 aI (va bh 0))) (Z5 (Z8 (PW.pt (@ir _ _ _ _ _ _ _ (Zn bO (va bh 3) aD) (@fQ _ _ _ _ (Zg lZ (Z6 aI (va bh 0)) (va bh 1) (by rfl'))))) (Zd (@gZ _ _ _ _ _ rfl (@je _ _ _ _ _ _ _ _ _ _ _ _ _ _ _ _ _ p.k p.ok (hr.mono ()) (by left) p.m p.bd .nil lF (Z1 (Z6 aI (va bh 0)) aA) (by decide) (by rfl) (by rfl))))) (Z5 (Z8 (Zn bO (va bh 3) aD) (Zd (Zo (@eN _ _ _ _ _ _ _ _ _ _ _ _ _ _ _ _ J.ok (hr.mono ()) (by left) J.at' J.kp J.bd .nil jK (Z1 (Z6 aI (va bh 0)) (Z1 (Z6 aI (va bh 0)) (Z1 (kg (va bh 2) rfl) aA))) (by decide) (by rfl) (by rfl))))) (Z5 (Z8 (Zn bO (va bh 3) aD) (Zd (Zo (@eN _ _ _ _ _ _ _ _ _ _ _ _ _ _ _ _ J.ok (hr.mono ()) (by left) J.at' J.kp J.bd .nil jK (Z1 (Z6 aI (va bh 0)) (Z1 (Z6 aI (va bh 0)) (Z1 (kg (va bh 2) rfl) aA))) (by decide) (by rfl) (by rfl))))) (Z5 (Z8 (Zn bO (va bh 3) aD) (Zd (Zo (@eN _ _ _ _ _ _ _ _ _ _ _ _ _ _ _ _ X.ok (hr.mono ()) (by left) X.at' X.kp X.bd .nil jK (Z1 (Z6 aI (va bh 0)) (Zc (va bh 2))) (by decide) (by rfl) (by rfl))))) (Z5 (Z8 (Zn bO (va bh 3) aD) (Zd (Zo (@eN _ _ _ _ _ _ _ _ _ _ _ _ _ _ _ _ LO.ok (hr.mono ()) (by left) LO.at' LO.kp LO.bd .nil jK (Z1 (Zk (Z1 (Z6 aI (va bh 0)) (Z1 (Z6 aI (va bh 0)) aA))) aA) (by decide) (by rfl) (by rfl))))) (Zd (Z8 (Zn bO (va bh 3) aD) (Zd (Zo (@eN _ _ _ _ _ _ _ _ _ _ _ _ _ _ _ _ W.ok (hr.mono ()) (by left) W.at' W.kp W.bd .nil jK (Z1 (Z6 aI (va bh 0)) (Z1 (kg (va bh 2) rfl) aA)) (by decide) (by rfl) (by rfl)))))))))))),?_]
 right
 try dsimp only[qw,qx]
 let hc:=N.c;let n3:=N.mtag;let n4:=N.mdef;let n5:=N.gaps;let g3:=vZ a;let g4:=yS a;let g5:=B9 a;let av:=u.ins;let(na,ao,rfl,ap,ah):=rn.aS;obtain rfl:=ah.lK;let fl:=iP ns;rw[bI]at r
 cases hd with
 |num n =>
  let(ta,D,rfl,g,e):=(show Rp K H (.t (.s "num"::[.i n])) v from r).aS;let(L,G,rfl,l,_):=e.inv;obtain rfl:=l.aL;let U:dZ (V.str "num"::G) 0=Yb (.str "num"):=aF (j:=0) rfl;let fin:=k B rfl H u (kH.refl _ _);ext;calc fin
 |name x =>
  let(ta,L,Y,rfl,g,l,T):=(show Rp K H (.t [.s "name",.s x]) v from r).t2;obtain rfl:=l.aL;obtain rfl:=T.aL;let iv:=kG (x:=x) (xs:=ns);ext;refine bP (λc=>?_) (λc=>?_)
  .have hm:x∉ns:=λz=>by
    let ag:(!nh (.str x) (ns.map V.str))=Yd:=c;rw[iv,decide_eq_true z]at ag
    cases ag
   let tt:=(Z (.nn,x) (if_neg hm)).Z u.sm;ext;exact gi p.c tt
  .have hm:x∈ns:=by
    by_cases z:x∈ns
    .exact z
    .refine absurd ?_ c;show(!nh (.str x) (ns.map V.str))=Yd;rw[iv,decide_eq_false z];rfl
   let fin:=k B (if_pos hm) H u (kH.refl _ _);ext;calc fin
 |gap n =>
  let(ta,L,Y,rfl,g,l,T):=(show Rp K H (.t [.s "gap",.i n]) v from r).t2;obtain rfl:=l.aL;obtain rfl:=T.jS;let gg:=u.gg;let tw:n∈B->Told E H cT "name" (.str "?"):=λhm=>(Z (.tw,"?") (if_pos hm)).Z u.sm;ext hm;calc k (B++[n]) (if_neg hm) _ (u.setG _) ((kH.refl a H).setG _)
 |op z =>
  let(ta,D,rfl,g,e):=(show Rp K H (.t (.s "op"::.s z::ks.map enc)) v from r).aS;let(L,G,rfl,l,_):=e.inv;obtain rfl:=l.aL;let U:dZ (V.str "op"::G) 0=Yb (.str "op"):=aF (j:=0) rfl;let fin:=k B rfl H u (kH.refl _ _);ext;calc fin
 |row =>
  let(ta,D,rfl,g,e):=(show Rp K H (.t (.s "row"::[.t (ks.map enc)])) v from r).aS;let(L,G,rfl,l,_):=e.inv;obtain rfl:=l.aL;let U:dZ (V.str "row"::G) 0=Yb (.str "row"):=aF (j:=0) rfl;let fin:=k B rfl H u (kH.refl _ _);ext;calc fin
 |more =>
  let(ta,D,rfl,g,e):=(show Rp K H (.t (.s "more"::ks.map enc)) v from r).aS;let(L,G,rfl,l,_):=e.inv;obtain rfl:=l.aL;let U:dZ (V.str "more"::G) 0=Yb (.str "more"):=aF (j:=0) rfl;let fin:=k B rfl H u (kH.refl _ _);ext;calc fin
 |first =>
  let(ta,D,rfl,g,e):=(show Rp K H (.t (.s "first"::ks.map enc)) v from r).aS;let(L,G,rfl,l,_):=e.inv;obtain rfl:=l.aL;let U:dZ (V.str "first"::G) 0=Yb (.str "first"):=aF (j:=0) rfl;let fin:=k B rfl H u (kH.refl _ _);ext;calc fin
 |others =>
  let(ta,D,rfl,g,e):=(show Rp K H (.t (.s "others"::ks.map enc)) v from r).aS;let(L,G,rfl,l,_):=e.inv;obtain rfl:=l.aL;let U:dZ (V.str "others"::G) 0=Yb (.str "others"):=aF (j:=0) rfl;let fin:=k B rfl H u (kH.refl _ _);ext;calc fin
 |long =>
  let(ta,D,rfl,g,e):=(show Rp K H (.t (.s "long"::ks.map enc)) v from r).aS;let(L,G,rfl,l,_):=e.inv;obtain rfl:=l.aL;let U:dZ (V.str "long"::G) 0=Yb (.str "long"):=aF (j:=0) rfl;let fin:=k B rfl H u (kH.refl _ _);ext;calc fin
 |tag t =>
  let(ta,L,Y,w3,rfl,g,l,T,p3):=(show Rp K H (.t [.s "tag",.s t,.t (ks.map enc)]) v from r).t3;obtain rfl:=l.aL;obtain rfl:=T.aL;let(ua,M,rfl,ab,S):=p3.aS;let lu:=S.length;rw[bM]at lu
  let dg:cF H a.dM (.str t) (((jR O t).map λ(y:Yg×Yg×Yi Kk)=>y.2.2.length).map λ(n:Nat)=>V.int (n:Int)):=by
   let:=cF.k (k:=Sum.inr t) u.km;rw[qD (λx:Yg×Yg×Yi Kk=>x.1) (λ(y:Yg×Yg×Yi Kk)=>V.int (y.2.2.length:Nat))]at this;rw[Vx];exact this
  let ak:(jR O t).map (λ(y:Yg×Yg×Yi Kk)=>y.2.2.length)=Yc->Told E H cN "name" (.str t):=λz=>by
   calc(Z (.nn,t) ?_).Z u.sm;let z':=RD.mp z
   show(match jR O t with
    |none=>Except.error (Er.nn,t)
    |some y=>if ks.length=y.2.2.length then Except.ok B else .error (.wr,t))=_
   rw[z']
  let aj:∀n,(jR O t).map (λ(y:Yg×Yg×Yi Kk)=>y.2.2.length)=Yb n->M.length≠n->Told E H cW "name" (.str t):=λn z R=>by
   let(y,hy,rfl):=ri.mp z;refine(Z (.wr,t) ?_).Z u.sm
   show(match jR O t with
    |none=>Except.error (Er.nn,t)
    |some y=>if ks.length=y.2.2.length then Except.ok B else .error (.wr,t))=_
   rw[hy];exact if_neg (λq=>R (by rw[lu];calc q))
  let fin:∀n,(jR O t).map (λ(y:Yg×Yg×Yi Kk)=>y.2.2.length)=Yb n->M.length=n->Q .eR H:=λn z R=>by
   let(y,hy,rfl):=ri.mp z;refine k B ?_ H u (kH.refl _ _)
   show(match jR O t with
    |none=>Except.error (Er.nn,t)
    |some y=>if ks.length=y.2.2.length then Except.ok B else .error (.wr,t))=_
   rw[hy];exact if_pos (by rw[<-lu];calc R)
  ext n z R;let I:=fin n z R;ext;calc I
 |call t =>
  let(ta,L,Y,w3,rfl,g,l,T,p3):=(show Rp K H (.t [.s "call",.s t,.t (ks.map enc)]) v from r).t3;obtain rfl:=l.aL;obtain rfl:=T.aL;let(ua,M,rfl,ab,S):=p3.aS;let lu:=S.length;rw[bM]at lu
  let dg:cF H a.dD (.str t) (((ds.find? (λd=>decide (d.1=t))).map λ(y:Yg×Nat)=>y.2).map λ(n:Nat)=>V.int (n:Int)):=by
   let:=cF.k (k:=Sum.inr t) u.dd;rw[qD (λx:Yg×Nat=>x.1) (λ(y:Yg×Nat)=>V.int (y.2:Nat))]at this;rw[Vx];exact this
  let ak:(ds.find? (λd=>decide (d.1=t))).map (λ(y:Yg×Nat)=>y.2)=Yc->Told E H cN "name" (.str t):=λz=>by
   calc(Z (.nn,t) ?_).Z u.sm;let z':=RD.mp z
   show(match ds.find? (λd=>decide (d.1=t))with
    |none=>Except.error (Er.nn,t)
    |some y=>if ks.length=y.2 then Except.ok B else .error (.wr,t))=_
   rw[z']
  let aj:∀n,(ds.find? (λd=>decide (d.1=t))).map (λ(y:Yg×Nat)=>y.2)=Yb n->M.length≠n->Told E H cW "name" (.str t):=λn z R=>by
   let(y,hy,rfl):=ri.mp z;refine(Z (.wr,t) ?_).Z u.sm
   show(match ds.find? (λd=>decide (d.1=t))with
    |none=>Except.error (Er.nn,t)
    |some y=>if ks.length=y.2 then Except.ok B else .error (.wr,t))=_
   rw[hy];exact if_neg (λq=>R (by rw[lu];calc q))
  let fin:∀n,(ds.find? (λd=>decide (d.1=t))).map (λ(y:Yg×Nat)=>y.2)=Yb n->M.length=n->Q .eR H:=λn z R=>by
   let(y,hy,rfl):=ri.mp z;refine k B ?_ H u (kH.refl _ _)
   show(match ds.find? (λd=>decide (d.1=t))with
    |none=>Except.error (Er.nn,t)
    |some y=>if ks.length=y.2 then Except.ok B else .error (.wr,t))=_
   rw[hy];exact if_pos (by rw[<-lu];calc R)
  ext n z R;let I:=fin n z R;ext;calc I
 |mat arms =>
  obtain⟨k0,kr,rfl⟩:∃k0 kr,ks=k0::kr:=by
   cases ks with
   |nil=>simp[cM]at ar
   |cons x y=>exact#[x,y,rfl]
  let aq:arms.length=(kr.map enc).length:=by
   rw[bM];let:(k0::kr).length=arms.length+1:=by simpa[cM]using ar
   rw[OT]at this;omega
  let(ta,L,Y,w3,rfl,g,l,T,p3):=(show Rp K H (.t [.s "match",enc k0,.t (O9 jE arms (kr.map enc))]) v from r).t3;obtain rfl:=l.aL;let(ua,M,rfl,ab,S):=p3.aS;let(la,lx):=al arms rfl
  let aE:∀f,fz O arms=Yb f->TF cT cN cW E H0 f:=λf hf=>Z f (by
   show(match fz O arms with
    |some f=>Except.error f
    |none=>Except.ok B)=_
   rw[hf])
  let fin:fz O arms=Yc->∀H',aR H H'->Q .eR H':=λhf H' s'=>k B (by
   show(match fz O arms with
    |some f=>Except.error f
    |none=>Except.ok B)=_
   rw[hf]) H' (u.ext s') (kH.of s')
  ext hf H2 s2;let I:=fin hf H2 s2;let an:=g.Z s2;ext;calc I
 |ife =>
  let(ta,D,rfl,g,e):=(show Rp K H (.t (.s "if"::ks.map enc)) v from r).aS;let(L,G,rfl,l,_):=e.inv;obtain rfl:=l.aL;let U:dZ (V.str "if"::G) 0=Yb (.str "if"):=aF (j:=0) rfl;let fin:=k B rfl H u (kH.refl _ _);ext;calc fin
 |lt z =>
  let(ta,D,rfl,g,e):=(show Rp K H (.t (.s "let"::.s z::ks.map enc)) v from r).aS;let(L,G,rfl,l,_):=e.inv;obtain rfl:=l.aL;let U:dZ (V.str "let"::G) 0=Yb (.str "let"):=aF (j:=0) rfl;let fin:=k B rfl H u (kH.refl _ _);ext;calc fin
 |fold x y =>
  let(ta,D,rfl,g,e):=(show Rp K H (.t [.s "fold",(ks.map enc).getD 0 .n,.s x,.s y,(ks.map enc).getD 1 .n,(ks.map enc).getD 2 .n]) v from r).aS;let(L,q1,rfl,l,t1):=e.inv;let(Y,q2,rfl,T,t2):=t1.inv;let(w3,q3,rfl,p3,t3):=t2.inv;let(w4,q4,rfl,p4,t4):=t3.inv;obtain rfl:=l.aL;obtain rfl:=p3.aL;obtain rfl:=p4.aL;let U:dZ (V.str "fold"::Y::.str x::.str y::q4) 0=Yb (.str "fold"):=aF (j:=0) rfl;let a2:dZ (V.str "fold"::Y::.str x::.str y::q4) 2=Yb (.str x):=aF (j:=2) rfl;let a3:dZ (V.str "fold"::Y::.str x::.str y::q4) 3=Yb (.str y):=aF (j:=3) rfl
  let ac:cJ [] [x,y]=if y=x then Yb y else Yc:=by
   show(if x∈([]:Yi Yg)then _ else if y∈([x]:Yi Yg)then Yb y else Yc)=_;rw[if_neg O3]
   by_cases c:y=x
   .rw[if_pos c,if_pos (by rw[c];calc List.mem_singleton_self x)]
   .rw[if_neg c,if_neg (λz=>c (tF.mp z))]
  ext;calc nw λp5 H5 s5 ae as=>?_;let h5:nq K Yd H5 p5 (([x,y]:Yi Yg).map V.str):=bY.of ae;let l5:([x,y]:Yi Yg).length<=500:=by show 2<=500;omega
  let oE:∀z,cJ [] [x,y]=Yb z->Told E H5 cT "name" (.str z):=λz hz=>by
   rw[ac]at hz
   by_cases c:y=x
   .rw[if_pos c]at hz
    cases hz
    calc(Z (.tw,y) ?_).Z (u.sm.trans s5);show(if x=y then Except.error (Er.tw,x)else _)=_;rw[if_pos c.symm,c]
   .rw[if_neg c]at hz;cases hz
  ext ad H6 s6;let ai:¬x=y:=λc=>by rw[ac,if_pos c.symm]at ad;cases ad
  let aa:=s5.trans s6;let am:=g.Z aa;let fin:=k B (if_neg ai) H6 (u.ext aa) (kH.of aa);ext;calc fin
theorem xG :∀{l:Yi (Yg×Nat)}{kvs:Yi (Key×V)},Paired (Ms H) l kvs->(cZ kvs (Sum.inr x)).isSome=decide (x∈l.map (·.1))
 |_,_,.nil=>rfl
 |k::r,_,.cons ⟨l,e,_⟩ t=>by
  subst e
  by_cases h:k.1=x
  .rw[fJ (show(Sum.inr k.1:Key)=Sum.inr x by rw[h]),OQ,decide_eq_true (by rw[h];calc Qe)];rfl
  .rw[fK (λz=>h (PZ z)),xG t,OQ];let:(x∈k.1::r.map (·.1))↔x∈r.map (·.1):=by rw[L0];exact or_iff_right (λz=>h z.symm)
   calc(decide_eq_decide.mpr this).symm
theorem Eb :∀{l:Yi (Yg×Nat)}{kvs:Yi (Key×V)},Paired (Ms H) l kvs->(l.find? (λx=>decide (x.1=t))=Yc/\cZ kvs (Sum.inr t)=Yc)\/∃z q,l.find? (λx=>decide (x.1=t))=Yb z/\cZ kvs (Sum.inr t)=Yb (.ref q)/\H q=Yb (.J [.str z.1,.int z.2])
 |_,_,.nil=>.inl #[rfl,rfl]
 |k::r,_,.cons ⟨l,e,hl⟩ p=>by
  subst e;rw[PD]
  by_cases c:k.1=t
  .rw[decide_eq_true c];exact .inr #[k,l,rfl,fJ (show(Sum.inr k.1:Key)=Sum.inr t by rw[c]),hl]
  .rw[decide_eq_false c,fK (λz=>c (PZ z))];calc Eb p
theorem A2 :∀{l:Yi (Yg×Yg×Nat)}{kvs:Yi (Key×V)},Paired (JO H) l kvs->(l.find? (λx=>decide (x.1=t))=Yc/\cZ kvs (Sum.inr t)=Yc)\/∃z q,l.find? (λx=>decide (x.1=t))=Yb z/\cZ kvs (Sum.inr t)=Yb (.ref q)/\H q=Yb (.J [.str z.2.1,.int z.2.2])
 |_,_,.nil=>.inl #[rfl,rfl]
 |k::r,_,.cons ⟨l,e,hl⟩ p=>by
  subst e;rw[PD]
  by_cases c:k.1=t
  .rw[decide_eq_true c];exact .inr #[k,l,rfl,fJ (show(Sum.inr k.1:Key)=Sum.inr t by rw[c]),hl]
  .rw[decide_eq_false c,fK (λz=>c (PZ z))];calc A2 p
meta def uM(K:bN):Sp:=λu H Q _=>∃(t:Hp) (S:mY) (v:V) (d r:Yh) (e:Kl) (o:Yi (Yg×Nat)) (m q:Yi Int) (h:Hd) (ks:Yi Tm) (l:Yi Yg),u=[.ref d,v,.ref r]/\eL t S e (sr e) o m q H/\S.d=d/\Rp K H (enc (.mk h ks)) v/\cM h ks.length=Yd/\uL h/\ks.length<=900/\H r=Yb (.Y (l.map V.str))/\l.length<=900/\m.length<=900/\xY e/\(jg e).Nodup /\
 (∀f,eK e o m l h ks.length=.error f->∀p g,aR H g->nu g (Yb f) p->Q p g)/\(∀j,eK e o m l h ks.length=.ok j->∀g,eL t S e (sr e) o j q g->iC S H g->Q .eR g)
def aH :Nm Xp (ak fL):=by decide
def kW :Lm Xp (ak fL):=by decide
def jk :aY Xp WW (ak fL):=by ac_rfl
def Cg (F:jn K "_law_itself_fault" "_law_itself_fault" fL f fd)(ap:Za "_law_arms_fault" 3 X0 (A0 K) gA afd)(aa:mg "len"=Yc)(ab:mg "int"=Yc):Zt gz 4 f fd WW (uM K):=by
 refine F.ok jk (λvs H Q E h=>?_) (λcdv A outer s H vs Q E hr h=>?_)
 .have(_,_,_,_,_,_,_,_,_,_,_,_,rfl,_):=h;rfl
 let(H0,S,v,d,la,W,ds,m,os,hd,ks,ns,rfl,C,rfl,r,ar,ao,lk,an,ln,lg,hB,ax,kf,L):=h;refine#[_,(Z5 (Z4 jk.nd kW 3 (Z6 aI (va aH 1))) (Z5 (Z8 (PW.pt (@ir _ _ _ _ _ _ _ (Zn bO (va aH 3) aD) (@fQ _ _ _ _ (Zg lZ (Z6 aI (va aH 1)) (va aH 2) (by rfl'))))) (Zd (Zp (Zq (Z1 aD (Z1 (Z6 aI (va aH 1)) aA)))))) (Z5 (Z8 (Zn bO (va aH 3) aD) (Z5 (Z8 (Zg eB (Z6 aI (va aH 1)) (Zi (va aH 0)) (by rfl')) (Zd (Zp (Zq (di aD (Zc aD)))))) (Zd (Zo (Z7 (Zi (va aH 0)) (Z1 (Z6 aI (va aH 1)) aA)))))) (Z5 (Z8 (PW.pt (@pX _ _ _ _ _ _ _ (Zn bO (va aH 3) aD) (@pA _ _ _ _ (Zn bO (va aH 3) aD)))) (Z5 (Z4 jk.nd kW 4 (@jV _ _ _ _ _ _ (gJ hr) (va aH 0) (Zh aZ (Zq (di aD (Zc aD))) (Z9 iM ab P8 (Z1 (jA bO (va aH 3) aD (bz _)) aA))) (λ_ _=>rfl))) (Z5 (Z8 (Zg (j7 (gJ hr)) (Z6 aI (va aH 1)) (va aH 4) (by rfl')) (Zd (Zp (Zq (Z1 aD (Z1 (Z6 aI (va aH 1)) aA)))))) (Zd (Z8 (Zg qc (Zh aI (@jV _ _ _ _ _ _ (gJ hr) (va aH 4) (Z6 aI (va aH 1)) (λ_ _=>rfl)) aB) (Z2 aM aa OS (Z1 (Z6 aI (va aH 1)) aA)) (bz _)) (Zd (Zp (Zq (Z1 aD (Z1 (Z6 aI (va aH 1)) aA)))))))))) (Z5 (Z8 (Zn bO (va aH 3) aD) (Zd (Zp (Z0 ap (Z1 (va aH 0) (Z1 (Z6 aI (va aH 1)) aA)))))) (Z5 (Z8 (PW.pt (@ir _ _ _ _ _ _ _ (Zn bO (va aH 3) aD) (@fQ _ _ _ _ (Zg bO (Z6 aI (va aH 1)) (Z6 aI (va aH 1)) (bz _))))) (Zd (Zp (Zq (Z1 aD (Z1 (Z6 aI (va aH 1)) aA)))))) (cA (cS gw)))))))),?_]
 right
 let gt:=fj C.sd (mJ S);let gd:=fj C.sd (mK S);let gg:=fj C.sd (GH S);let fl:=iP ns;let as:bA K H la (ns.map V.str):=bA.of an;rw[bI]at r
 cases hd with
 |num n =>
  let(ta,G,rfl,l,g):=(show Rp K H (.t (.s "num"::[.i n])) v from r).aS;let(R,J,rfl,o,_):=g.inv;obtain rfl:=o.aL;let a0:dZ (V.str "num"::J) 0=Yb (.str "num"):=aF (j:=0) rfl;let fin:=L m rfl H C (iC.refl _ _);ext;calc fin
 |name x =>
  let(ta,R,w2,rfl,l,o,Z):=(show Rp K H (.t [.s "name",.s x]) v from r).t2;obtain rfl:=o.aL;obtain rfl:=Z.aL;let iv:=kG (x:=x) (xs:=ns);ext;refine bP (λc=>?_) (λc=>?_)
  .have hm:x∉ns:=λz=>by
    let al:(!nh (.str x) (ns.map V.str))=Yd:=c;rw[iv,decide_eq_true z]at al
    cases al
   ext p hp;exact kf (.nn,x) (if_neg hm) _ _ (ae hp _) #[p,rfl,af]
  .have hm:x∈ns:=by
    by_cases z:x∈ns
    .exact z
    .refine absurd ?_ c;show(!nh (.str x) (ns.map V.str))=Yd;rw[iv,decide_eq_false z];rfl
   let fin:=L m (if_pos hm) H C (iC.refl _ _);ext;calc fin
 |gap n =>
  let(ta,R,w2,rfl,l,o,Z):=(show Rp K H (.t [.s "gap",.i n]) v from r).t2;obtain rfl:=o.aL;obtain rfl:=Z.jS;let hg:=C.hg;let au:bA K H S.lg (m.map V.int):=bA.of C.hg;let az:=rg m;let iv:=uw (n:=n) (ns:=m);let ll:(m.map V.int).length<lj:=aV (by rw[bM];omega);ext;refine bP (λc=>?_) (λc=>?_)
  .have hm:n∈m:=by
    let c':nh (.int n) (m.map V.int)=Yd:=c;rw[iv]at c';exact of_decide_eq_true c'
   ext p hp;exact kf (.tw,"?") (if_pos hm) _ _ (ae hp _) #[p,rfl,af]
  .have hm:n∉m:=λz=>c (by show nh (.int n) (m.map V.int)=Yd;rw[iv];calc decide_eq_true z);let fin:=L (m++[n]) (if_neg hm) _ (C.setG (m++[n])) (λb u n1 n2 n3 n4 n5 e=>by rw[ay n5];calc e);rw[i4]at fin;ext;calc fin
 |op z =>
  let(ta,G,rfl,l,g):=(show Rp K H (.t (.s "op"::.s z::ks.map enc)) v from r).aS;let(R,J,rfl,o,_):=g.inv;obtain rfl:=o.aL;let a0:dZ (V.str "op"::J) 0=Yb (.str "op"):=aF (j:=0) rfl;let fin:=L m rfl H C (iC.refl _ _);ext;calc fin
 |row =>
  let(ta,G,rfl,l,g):=(show Rp K H (.t (.s "row"::[.t (ks.map enc)])) v from r).aS;let(R,J,rfl,o,_):=g.inv;obtain rfl:=o.aL;let a0:dZ (V.str "row"::J) 0=Yb (.str "row"):=aF (j:=0) rfl;let fin:=L m rfl H C (iC.refl _ _);ext;calc fin
 |more =>
  let(ta,G,rfl,l,g):=(show Rp K H (.t (.s "more"::ks.map enc)) v from r).aS;let(R,J,rfl,o,_):=g.inv;obtain rfl:=o.aL;let a0:dZ (V.str "more"::J) 0=Yb (.str "more"):=aF (j:=0) rfl;let fin:=L m rfl H C (iC.refl _ _);ext;calc fin
 |first =>
  let(ta,G,rfl,l,g):=(show Rp K H (.t (.s "first"::ks.map enc)) v from r).aS;let(R,J,rfl,o,_):=g.inv;obtain rfl:=o.aL;let a0:dZ (V.str "first"::J) 0=Yb (.str "first"):=aF (j:=0) rfl;let fin:=L m rfl H C (iC.refl _ _);ext;calc fin
 |others =>
  let(ta,G,rfl,l,g):=(show Rp K H (.t (.s "others"::ks.map enc)) v from r).aS;let(R,J,rfl,o,_):=g.inv;obtain rfl:=o.aL;let a0:dZ (V.str "others"::J) 0=Yb (.str "others"):=aF (j:=0) rfl;let fin:=L m rfl H C (iC.refl _ _);ext;calc fin
 |long =>
  let(ta,G,rfl,l,g):=(show Rp K H (.t (.s "long"::ks.map enc)) v from r).aS;let(R,J,rfl,o,_):=g.inv;obtain rfl:=o.aL;let a0:dZ (V.str "long"::J) 0=Yb (.str "long"):=aF (j:=0) rfl;let fin:=L m rfl H C (iC.refl _ _);ext;calc fin
 |tag t =>
  let(ta,R,w2,w3,rfl,l,o,Z,p3):=(show Rp K H (.t [.s "tag",.s t,.t (ks.map enc)]) v from r).t3;obtain rfl:=o.aL;obtain rfl:=Z.aL;let(ua,aj,rfl,X,Y):=p3.aS;let lu:=Y.length;rw[bM]at lu;let(tv,M,ac):=C.ht;let dg:cF H S.dt (.str t) (cZ tv (Sum.inr t)):=cF.k (k:=Sum.inr t) M
  let core:((jR W t)=Yc/\cZ tv (Sum.inr t)=Yc)\/∃y q nm,(jR W t)=Yb y/\cZ tv (Sum.inr t)=Yb (.ref q)/\H q=Yb (.J [.str nm,.int ((y.2.2.length:Nat):Int)]):=by
   rcases A2 (t:=t) ac with⟨e1,e2⟩|⟨z,q,e1,e2,e3⟩
   .rw[qF]at e1;exact .inl #[RD.mp e1,e2]
   .rw[qF]at e1;let(y,hy,rfl):=ri.mp e1;exact .inr #[y,q,_,hy,e2,e3]
  let T:eK W ds m ns (.tag t) ks.length=(match jR W t with
    |none=>Except.error (Er.nn,t)
    |some y=>if ks.length=y.2.2.length then Except.ok m else .error (.wr,t)):=rfl
  rcases core with⟨e1,e2⟩|⟨y,q,nm,e1,e2,e3⟩
  .rw[e1]at T;rw[e2]at dg;ext;calc nw λp6 O B D ag=>?_;let h6:bA K O p6 [.str "tags",.str "defs"]:=bA.of D;let ah:=fj (S:=S) (B _ _ C.sd) (mJ S)
   let ai:cF O S.dt (.str t) Yc:=by
    let:=cF.k (k:=Sum.inr t) (B _ _ M);rw[e2]at this;exact this
   let U:=l.Z B;let e6:decide (V.str "tag"=V.str "call")=Ye:=by decide
   let a6:dZ [V.str "tags",.str "defs"] (if(Ye=Yd)then(1:Int)else 0)=Yb (.str "tags"):=aF (j:=0) rfl;ext;rw[e6];calc .inr #[_,rfl,?_];ext p7 N;exact kf (.nn,t) T _ _ (B.trans (ae N _)) #[p7,rfl,af]
  .rw[e1]at T;let I:eK W ds m ns (.tag t) ks.length=(if ks.length=y.2.2.length then Except.ok m else .error (.wr,t)):=T;ext;calc nw λp6 O B D ag=>?_;let h6:bA K O p6 [.str "tags",.str "defs"]:=bA.of D;let ah:=fj (S:=S) (B _ _ C.sd) (mJ S)
   let ai:cF O S.dt (.str t) (Yb (.ref q)):=by
    let:=cF.k (k:=Sum.inr t) (B _ _ M);rw[e2]at this;exact this
   let U:=l.Z B;let ak:=X.Z B;let am:bY K O q [.str nm,.int ((y.2.2.length:Nat):Int)]:=bY.of (B _ _ e3);let aq:dZ [V.str nm,.int ((y.2.2.length:Nat):Int)] 1=Yb (.int ((y.2.2.length:Nat):Int)):=aF (j:=1) rfl;let e6:decide (V.str "tag"=V.str "call")=Ye:=by decide
   let a6:dZ [V.str "tags",.str "defs"] (if(Ye=Yd)then(1:Int)else 0)=Yb (.str "tags"):=aF (j:=0) rfl;ext;rw[e6];calc .inr #[_,rfl,?_];ext;refine bP (λc=>?_) (λc=>?_)
   .have hn:¬ks.length=y.2.2.length:=λz=>by rw[lu,z,decide_eq_true rfl]at c;cases c
    rw[if_neg hn]at I;ext p7 N;exact kf (.wr,t) I _ _ (B.trans (ae N _)) #[p7,rfl,af]
   .have hn:ks.length=y.2.2.length:=by
     by_cases z:ks.length=y.2.2.length
     .exact z
     .refine absurd ?_ c;rw[lu,decide_eq_false (λq=>z (by let q':=V.int.inj q;exact_mod_cast q'.symm))];rfl
    rw[if_pos hn]at I;let fin:=L m I O (C.ext B) (iC.of B);ext;calc fin
 |call t =>
  let(ta,R,w2,w3,rfl,l,o,Z,p3):=(show Rp K H (.t [.s "call",.s t,.t (ks.map enc)]) v from r).t3;obtain rfl:=o.aL;obtain rfl:=Z.aL;let(ua,aj,rfl,X,Y):=p3.aS;let lu:=Y.length;rw[bM]at lu;let(tv,M,ac):=C.hd;let dg:cF H S.dd (.str t) (cZ tv (Sum.inr t)):=cF.k (k:=Sum.inr t) M
  let core:((ds.find? (λd=>decide (d.1=t)))=Yc/\cZ tv (Sum.inr t)=Yc)\/∃y q nm,(ds.find? (λd=>decide (d.1=t)))=Yb y/\cZ tv (Sum.inr t)=Yb (.ref q)/\H q=Yb (.J [.str nm,.int ((y.2:Nat):Int)]):=by
   rcases Eb (t:=t) ac with⟨e1,e2⟩|⟨z,q,e1,e2,e3⟩
   .exact .inl #[e1,e2]
   .exact .inr #[z,q,_,e1,e2,e3]
  let T:eK W ds m ns (.call t) ks.length=(match ds.find? (λd=>decide (d.1=t))with
    |none=>Except.error (Er.nn,t)
    |some y=>if ks.length=y.2 then Except.ok m else .error (.wr,t)):=rfl
  rcases core with⟨e1,e2⟩|⟨y,q,nm,e1,e2,e3⟩
  .rw[e1]at T;rw[e2]at dg;ext;calc nw λp6 O B D ag=>?_;let h6:bA K O p6 [.str "tags",.str "defs"]:=bA.of D;let ah:=fj (S:=S) (B _ _ C.sd) (mK S)
   let ai:cF O S.dd (.str t) Yc:=by
    let:=cF.k (k:=Sum.inr t) (B _ _ M);rw[e2]at this;exact this
   let U:=l.Z B;let e6:decide (V.str "call"=V.str "call")=Yd:=by decide
   let a6:dZ [V.str "tags",.str "defs"] (if(Yd=Yd)then(1:Int)else 0)=Yb (.str "defs"):=aF (j:=1) rfl;ext;rw[e6];calc .inr #[_,rfl,?_];ext p7 N;exact kf (.nn,t) T _ _ (B.trans (ae N _)) #[p7,rfl,af]
  .rw[e1]at T;let I:eK W ds m ns (.call t) ks.length=(if ks.length=y.2 then Except.ok m else .error (.wr,t)):=T;ext;calc nw λp6 O B D ag=>?_;let h6:bA K O p6 [.str "tags",.str "defs"]:=bA.of D;let ah:=fj (S:=S) (B _ _ C.sd) (mK S)
   let ai:cF O S.dd (.str t) (Yb (.ref q)):=by
    let:=cF.k (k:=Sum.inr t) (B _ _ M);rw[e2]at this;exact this
   let U:=l.Z B;let ak:=X.Z B;let am:bY K O q [.str nm,.int ((y.2:Nat):Int)]:=bY.of (B _ _ e3);let aq:dZ [V.str nm,.int ((y.2:Nat):Int)] 1=Yb (.int ((y.2:Nat):Int)):=aF (j:=1) rfl;let e6:decide (V.str "call"=V.str "call")=Yd:=by decide
   let a6:dZ [V.str "tags",.str "defs"] (if(Yd=Yd)then(1:Int)else 0)=Yb (.str "defs"):=aF (j:=1) rfl;ext;rw[e6];calc .inr #[_,rfl,?_];ext;refine bP (λc=>?_) (λc=>?_)
   .have hn:¬ks.length=y.2:=λz=>by rw[lu,z,decide_eq_true rfl]at c;cases c
    rw[if_neg hn]at I;ext p7 N;exact kf (.wr,t) I _ _ (B.trans (ae N _)) #[p7,rfl,af]
   .have hn:ks.length=y.2:=by
     by_cases z:ks.length=y.2
     .exact z
     .refine absurd ?_ c;rw[lu,decide_eq_false (λq=>z (by let q':=V.int.inj q;exact_mod_cast q'.symm))];rfl
    rw[if_pos hn]at I;let fin:=L m I O (C.ext B) (iC.of B);ext;calc fin
 |mat arms =>
  obtain⟨k0,kr,rfl⟩:∃k0 kr,ks=k0::kr:=by
   cases ks with
   |nil=>simp[cM]at ar
   |cons x y=>exact#[x,y,rfl]
  let av:arms.length=(kr.map enc).length:=by
   rw[bM];let:(k0::kr).length=arms.length+1:=by simpa[cM]using ar
   rw[OT]at this;omega
  let(ta,R,w2,w3,rfl,l,o,Z,p3):=(show Rp K H (.t [.s "match",enc k0,.t (O9 jE arms (kr.map enc))]) v from r).t3;obtain rfl:=o.aL;let(ua,aj,rfl,X,Y):=p3.aS;let(aw,lx):=ao arms rfl
  let fin:∀v' H',aR H H'->nu H' (fz W arms) v'->Q v' H':=λv' H' s' ft=>by
   let T:eK W ds m ns (.mat arms) (k0::kr).length=(match fz W arms with
    |some f=>Except.error f
    |none=>Except.ok m):=rfl
   cases ef:fz W arms with
   |some f =>
    rw[ef]at T ft;calc kf f T v' H' s' ft
   |none =>
    rw[ef]at T ft;obtain rfl:v'=.eR:=ft;exact L m T H' (C.ext s') (iC.of s')
  ext;calc fin
 |ife =>
  let(ta,G,rfl,l,g):=(show Rp K H (.t (.s "if"::ks.map enc)) v from r).aS;let(R,J,rfl,o,_):=g.inv;obtain rfl:=o.aL;let a0:dZ (V.str "if"::J) 0=Yb (.str "if"):=aF (j:=0) rfl;let fin:=L m rfl H C (iC.refl _ _);ext;calc fin
 |lt z =>
  let(ta,G,rfl,l,g):=(show Rp K H (.t (.s "let"::.s z::ks.map enc)) v from r).aS;let(R,J,rfl,o,_):=g.inv;obtain rfl:=o.aL;let a0:dZ (V.str "let"::J) 0=Yb (.str "let"):=aF (j:=0) rfl;let fin:=L m rfl H C (iC.refl _ _);ext;calc fin
 |fold x y =>
  let(ta,G,rfl,l,g):=(show Rp K H (.t [.s "fold",(ks.map enc).getD 0 .n,.s x,.s y,(ks.map enc).getD 1 .n,(ks.map enc).getD 2 .n]) v from r).aS;let(R,q1,rfl,o,t1):=g.inv;let(w2,q2,rfl,Z,t2):=t1.inv;let(w3,q3,rfl,p3,t3):=t2.inv;let(w4,q4,rfl,p4,t4):=t3.inv;obtain rfl:=o.aL;obtain rfl:=p3.aL;obtain rfl:=p4.aL;let a0:dZ (V.str "fold"::w2::.str x::.str y::q4) 0=Yb (.str "fold"):=aF (j:=0) rfl;let a2:dZ (V.str "fold"::w2::.str x::.str y::q4) 2=Yb (.str x):=aF (j:=2) rfl;let a3:dZ (V.str "fold"::w2::.str x::.str y::q4) 3=Yb (.str y):=aF (j:=3) rfl;ext;refine bP (λc=>?_) (λc=>?_)
  .have ad:x=y:=V.str.inj (of_decide_eq_true c);ext p hp;exact kf (.tw,x) (if_pos ad) _ _ (ae hp _) #[p,rfl,af]
  .have ad:¬x=y:=λz=>c (decide_eq_true (by rw[z]));let fin:=L m (if_neg ad) H C (iC.refl _ _);ext;calc fin
meta def placesOf:Yi (Yg×Yi Nat):=[("num",[]),("name",[]),("gap",[]),("op",[2,3]),("more",[1,2]),("first",[1]),("others",[1]),("long",[1]),("if",[1,2,3])]
meta def uN:Yi (Yg×V):=[("row",.int 1),("tag",.int 2),("call",.int 2)]
structure LI(K:bN) (w:OR) (mg:Yg->Option eF) (dP dM:Yh) (pl:Yi (Yg×V)):Prop where
 mP:mg "PLACES"=Yb (.ref dP)
 mM:mg "PLACE_OF_MANY"=Yb (.ref dM)
 kP:KD K w dP pl
 kM:KD K w dM uN
 at_:∀f ps,(f,ps)∈placesOf->∃a,pl.lookup f=Yb (.ref a)/\∀H,bY K H a (ps.map λ(j:Nat)=>V.int (j:Int))
meta def wj(K:bN):Sp:=λj H Q _=>∃(v:V) (d:Tm),j=[v]/\Rp K H (enc d) v/\Wf d/\d.ks.length<=900 /\
 ∀(p:Yh) (e:Hp) (g:Yi V),aR H e->e p=Yb (.Y g)->bR K e ((right d).map ud) g->Q (.ref p) e
theorem wm :∀ks:Yi Tm,((L1 ks.length ([]:Yi Yg)).zip ks).map ud=(ks.map enc).map λk=>.t [.t [],k]
 | []=>rfl
 |k::r=>by rw[OT,Qi,RE,OQ,OQ,OQ,wm r];rfl
def su (e:bnd h ks.length=L1 ks.length []):(right (.mk h ks)).map ud=(ks.map enc).map λk=>.t [.t [],k]:=by
 unfold right;show((bnd h ks.length).zip ks).map ud=_;rw[e];calc wm ks
theorem yX :∀(arms:Yi (Yg×Yi Yg)) (kr:Yi Tm),arms.length=kr.length->((arms.map (·.2)).zip kr).map ud=O9 (λ(a:Yg×Yi Yg) k=>T.t [.t (a.2.map .s),k]) arms (kr.map enc)
 | [],kr,h=>rfl
 |x::r,[],h=>rfl
 |x::r,y::q,h=>by rw[OQ,RE,OQ,OQ,Vc,yX r q (by simpa using h)];rfl
def KP (v:d)(q:List d):dZ (v::q) 0=Yb v:=aF (j:=0) rfl
theorem l1 {d:Type}:∀{xs:List d},xs.length=1->∃a,xs=[a]
 | [a],_=>#[a,rfl]
theorem l2 {d:Type}:∀{xs:List d},xs.length=2->∃a b,xs=[a,b]
 | [a,b],_=>#[a,b,rfl]
theorem l3 {d:Type}:∀{xs:List d},xs.length=3->∃a b c,xs=[a,b,c]
 | [a,b,c],_=>#[a,b,c,rfl]
def GL (h:a≠b):decide (V.str a=V.str b)=Ye:=decide_eq_false λz=>h (V.str.inj z)
def Ec :∀p∈placesOf,p.1≠"match"/\p.1≠"let"/\p.1≠"fold"/\(QE p.1 uN).isSome=Ye:=by decide
def Ci (d:(e,ps)∈placesOf):ps.length<=1000:=(show ∀p∈placesOf,p.2.length<=1000 by decide) _ d
def GN :∀p∈([("row",1),("tag",2),("call",2)]:Yi (Yg×Nat)),p.1≠"match"/\p.1≠"let"/\p.1≠"fold"/\uN.lookup p.1=Yb (.int (p.2:Int)):=by decide
meta def JT(hd:Hd)(ks:Yi Tm):Prop:=∃(d:Yg) (r:Yi T) (e:Yi Nat),(d,e)∈placesOf/\ni hd (ks.map enc)=.t (.s d::r)/\e.map (λ(j:Nat)=>(T.s d::r)[j]?)=(ks.map enc).map Yb/\bnd hd ks.length=L1 ks.length []
meta def LJ(hd:Hd)(ks:Yi Tm):Prop:=∃(d:Yg) (r:Yi T) (j:Nat),(d,j)∈([("row",1),("tag",2),("call",2)]:Yi (Yg×Nat))/\ni hd (ks.map enc)=.t (.s d::r)/\(T.s d::r)[j]?=Yb (.t (ks.map enc))/\bnd hd ks.length=L1 ks.length []
def GO (d : cM hd ks.length = Yd): JT hd ks ∨ LJ hd ks ∨ (∃ arms, hd = .mat arms) ∨ (∃ x, hd = .lt x) ∨ ∃ x y, hd = .fold x y := by
  cases hd
  case num n => obtain rfl : ks = [] := by simpa [cM] using d
                exact .inl #["num", [.i n], [], by decide, rfl, rfl, rfl]
  case name x => obtain rfl : ks = [] := by simpa [cM] using d
                 exact .inl #["name", [.s x], [], by decide, rfl, rfl, rfl]
  case gap n => obtain rfl : ks = [] := by simpa [cM] using d
                exact .inl #["gap", [.i n], [], by decide, rfl, rfl, rfl]
  case op s => let(a, b, rfl) := l2 (show ks.length = 2 by simpa [cM] using d)
               exact .inl #["op", [.s s, enc a, enc b], [2, 3], by decide, rfl, rfl, rfl]
  case more => let(a, b, rfl) := l2 (show ks.length = 2 by simpa [cM] using d)
               exact .inl #["more", [enc a, enc b], [1, 2], by decide, rfl, rfl, rfl]
  case first => let(a, rfl) := l1 (show ks.length = 1 by simpa [cM] using d)
                exact .inl #["first", [enc a], [1], by decide, rfl, rfl, rfl]
  case others => let(a, rfl) := l1 (show ks.length = 1 by simpa [cM] using d)
                 exact .inl #["others", [enc a], [1], by decide, rfl, rfl, rfl]
  case long => let(a, rfl) := l1 (show ks.length = 1 by simpa [cM] using d)
               exact .inl #["long", [enc a], [1], by decide, rfl, rfl, rfl]
  case ife => let(a, b, c, rfl) := l3 (show ks.length = 3 by simpa [cM] using d)
              exact .inl #["if", [enc a, enc b, enc c], [1, 2, 3], by decide, rfl, rfl, rfl]
  case row => exact .inr (.inl #["row", [.t (ks.map enc)], 1, by decide, rfl, rfl, rfl])
  case tag t => exact .inr (.inl #["tag", [.s t, .t (ks.map enc)], 2, by decide, rfl, rfl, rfl])
  case call t => exact .inr (.inl #["call", [.s t, .t (ks.map enc)], 2, by decide, rfl, rfl, rfl])
  case mat arms => exact .inr (.inr (.inl #[_, rfl]))
  case lt x => exact .inr (.inr (.inr (.inl #[_, rfl])))
  case fold x y => calc .inr (.inr (.inr (.inr #[_, _, rfl])))
def wq :aY ["term","form"] ["term"] (ak jx):=by ac_rfl
def yY (F:jn K "right_in" "right_in" jx f fd)(TB:LI K w mg dP dM pl):Zt gz 1 f fd ["term"] (wj K):=by
 refine F.ok wq (λvs H Q E h=>?_) (λcdv A outer s H vs Q E hr h=>?_)
 .have(v,tm,rfl,_):=h;rfl
 let(v,tm,rfl,I,wf,ag,k):=h
 refine#[_,(eI (lX (i:=1) wq.nd rfl (Or.inl rfl) (Z6 aI (pv 0)))
  (eI (pY (Zn bO (pv 1) aD) (cA (cS (bU iW (dH (bJ (eJ (bJ (eJ aA) (bJ (Z6 aI (pv 0)) aA))) aA)) (lJ (ak jx) ["term","form"] Xn [] rfl rfl rfl (by decide) (cG (Z6 aI (pv 0))) (λ_ _ _ _=>(AJ (n:=3) K rfl rfl (pZ (lW (i:=0) (show(Xn:Yi Yg).Nodup by decide) rfl (Or.inl rfl)) (pZ (lW (i:=1) (show(Xn:Yi Yg).Nodup by decide) rfl (Or.inl rfl)) (Zs (lW (i:=2) (show(Xn:Yi Yg).Nodup by decide) rfl (Or.inl rfl))))))) (λ_ _ _ _=>fZ) (λ_ _ _ _=>(eJ (bJ (pv 1) (bJ (pv 2) aA)))))))) kO)
  (eI (pY (Zn bO (pv 1) aD) (cA (cS (dH (bJ (eJ (bJ (eJ aA) (bJ (Z6 aI (pv 0)) aA))) (bJ (eJ (bJ (eJ (bJ (Z6 aI (pv 0)) aA)) (bJ (Z6 aI (pv 0)) aA))) aA))))) kO)
  (eI (pY (Zn bO (pv 1) aD) (cA (cS (dH (bJ (eJ (bJ (eJ aA) (bJ (Z6 aI (pv 0)) aA))) (bJ (eJ (bJ (eJ aA) (bJ (Z6 aI (pv 0)) aA))) (bJ (eJ (bJ (eJ (bJ (Z6 aI (pv 0)) (bJ (Z6 aI (pv 0)) aA))) (bJ (Z6 aI (pv 0)) aA))) aA)))))) kO)
  (eI (pY (ou FU (pv 1) (iB (v:=.ref dM) (by rfl) TB.mM rfl) (by rfl')) (cA (cS (lJ (ak jx) ["term","form"] ["inner"] [] rfl rfl rfl (by decide) (cG (jD aI (pv 0) (AL (iB (v:=.ref dM) (by rfl) TB.mM rfl) (pv 1) (λ_ _=>rfl)) (λ_ _=>rfl))) (λ_ _ _ _=>(lW (i:=0) (show(["inner"]:Yi Yg).Nodup by decide) rfl (Or.inl rfl))) (λ_ _ _ _=>fZ) (λ_ _ _ _=>(eJ (bJ (eJ aA) (bJ (pv 0) aA))))))) kO)
  (cA (cS (lJ (ak jx) ["term","form"] ["place"] [0] rfl rfl rfl (by decide) (cG (AL (iB (v:=.ref dP) (by rfl) TB.mP rfl) (pv 1) (λ_ _=>rfl))) (λ_ _ _ _=>(lW (i:=0) (show(["place","term"]:Yi Yg).Nodup by decide) rfl (Or.inl rfl))) (λ_ _ _ _=>fZ) (λ_ _ _ _=>(eJ (bJ (eJ aA) (bJ (jD (qq K rfl) (pv 1) (pv 0) (λ_ _=>rfl)) aA)))))))))))),?_]
 right
 let kM:=TB.kM;let kP:=TB.kP;calc uo ?_;intro N1 N2 N3 N4 N5 c1 c2 c3 c4 c5
 cases wf with
 |mk ar wk =>
 rename_i hd ks
 rw[bI]at I;let M:ks.length<=900:=ag;let nE:(ks.map enc).length=ks.length:=bM _;rcases GO ar with⟨fm,r,ps,hm,he,hp,hb⟩|⟨fm,r,j,hm,he,hj,hb⟩|⟨arms,rfl⟩|⟨x,rfl⟩|⟨x,y,rfl⟩
 .rw[he]at I;let(a,vs,rfl,D,d):=I.aS;let(v0,q0,rfl,S,B):=d.inv;obtain rfl:=S.aL;let(pa,lk,ad):=TB.at_ fm ps hm;let an:=ad H;ext
  .exact KP _ _
  ext;let(n1,n2,n3,n4):=Ec (fm,ps) hm;calc Dl (GL n1) ?_;ext;calc Dl (GL n2) ?_;ext;calc Dl (GL n3) ?_;ext;calc Dl n4 ?_;ext;calc yC (ks:=ks.map enc) D d (ad H) (Ci hm) hp λp H' ws z h1 r1=>k p H' ws z h1 ?_;rw[su hb];exact r1
 .rw[he]at I;let(a,vs,rfl,D,d):=I.aS;let(u,hu,ru):=d.get hj;let(b,us,rfl,R,Y):=ru.aS;let(v0,q0,rfl,S,B):=d.inv;obtain rfl:=S.aL;let(n1,n2,n3,n4):=GN (fm,j) hm;let ao:QE fm uN=Yb (.int (j:Int)):=n4;let ap:=aF hu;ext
  .exact KP _ _
  ext;calc Dl (GL n1) ?_;ext;calc Dl (GL n2) ?_;ext;calc Dl (GL n3) ?_;ext;calc Ng (by rw[n4];rfl) ?_;ext;calc BN (ks:=ks.map enc) R Y () λp H' ws z h1 r1=>k p H' ws z h1 ?_;rw[su hb];exact r1
 .skip
  let O:ks.length=arms.length+1:=by simpa[cM]using ar
  match ks,O with
  |k0::kr,O =>
  let ah:arms.length=kr.length:=by simpa using O.symm
  unfold ni at I;let(a,vs,rfl,D,d):=I.aS;let(v0,q0,rfl,S,B):=d.inv;obtain rfl:=S.aL;let(v1,q1,rfl,e1,L):=B.inv;let(v2,q2,rfl,e2,J):=L.inv;obtain rfl:=J.ik;let(b,us,rfl,R,Y):=e2.aS;ext p1 q;let z:=ae q (.J []);calc#[_,rfl,a,_,1,_,rfl,rfl,D.Z z,rfl,(by show 2<=lj;decide),λV o=>?_];let W:=z.trans (ae o (.J [.ref p1,v1]));calc#[(by show 1<=lj;decide),λX m=>?_];let G:=W.trans (ae m (.Y [.ref V]));calc#[_,rfl,a,_,2,_,rfl,rfl,D.Z G,rfl,b,rfl,#[_,R.Z G],?_];calc BO (arms:=arms) (ks:=kr.map enc) (by rw[bM];calc ah) (R.Z G) (by calc Y.Z G) (by rw[bM];let:=M;simp at this;omega) λp H' ws N h4 r4=>?_;let z3:H' X=Yb (.Y [.ref V]):=N _ _ af;refine#[X,p,_,_,rfl,rfl,z3,h4,?_,λp5 g=>?_]
  .have l:=r4.length;rw[PV,bM]at l;rw[l];exact small (by let:=M;simp at this;show 1+_<=1000;omega)
  let U:=N.trans (ae g (.Y ([.ref V]++ws)));refine k p5 _ _ (G.trans U) af ?_
  let e:(right (.mk (.mat arms) (k0::kr))).map ud=T.t [.t [],enc k0]::O9 (λ(a:Yg×Yi Yg) k=>T.t [.t (a.2.map .s),k]) arms (kr.map enc):=by
   unfold right;show((([]:Yi Yg)::arms.map (·.2)).zip (k0::kr)).map ud=_;rw[RE,OQ];rw[yX arms kr ah];rfl
  rw[e];calc .cons ?_ (r4.Z (ae g _));refine Rp.Z ((ae m _).trans U) (Rp.new o (.cons (Rp.new q .nil) (.one (e1.Z z))))
 .skip
  let O:ks.length=2:=by simpa[cM]using ar
  match ks,O with
  | [k0,k1],O =>
  unfold ni at I;let(a,vs,rfl,D,d):=I.aS;let(v0,q0,rfl,S,B):=d.inv;obtain rfl:=S.aL;let(v1,q1,rfl,e1,L):=B.inv;let(v2,q2,rfl,e2,J):=bR.inv L;let(v3,q3,rfl,e3,Z):=bR.inv J;obtain rfl:=Z.ik;ext p1 q;let z:=ae q (.J []);calc#[_,rfl,a,_,2,_,rfl,rfl,D.Z z,rfl,(by show 2<=lj;decide),λV o=>?_];let W:=z.trans (ae o (.J [.ref p1,v2]));calc#[_,rfl,a,_,1,_,rfl,rfl,D.Z W,rfl,(by show 1<=lj;decide),λX m=>?_];let G:=W.trans (ae m (.J [v1]));calc#[_,rfl,a,_,3,_,rfl,rfl,D.Z G,rfl,(by show 2<=lj;decide),λp4 C=>?_];let N:=G.trans (ae C (.J [.ref X,v3]));calc#[(by show 2<=lj;decide),λp5 g=>?_];let U:=N.trans (ae g (.Y [.ref V,.ref p4]));calc k p5 _ _ U af ?_;calc .cons (Rp.Z ((ae m _).trans ((ae C _).trans (ae g _))) (Rp.new o (.cons (Rp.new q .nil) (.one (e2.Z z))))) (.one ?_);exact Rp.Z (ae g _) (Rp.new C (.cons (Rp.new m (.one (e1.Z W))) (.one (e3.Z G))))
 .skip
  let O:ks.length=3:=by simpa[cM]using ar
  match ks,O with
  | [k0,k1,k2],O =>
  unfold ni at I;let(a,vs,rfl,D,d):=I.aS;let(v0,q0,rfl,S,B):=d.inv;obtain rfl:=S.aL;let(v1,q1,rfl,e1,L):=B.inv;let(v2,q2,rfl,e2,J):=L.inv;let(v3,q3,rfl,e3,Z):=J.inv;let(v4,q4,rfl,e4,am):=Z.inv;let(v5,q5,rfl,e5,al):=am.inv;obtain rfl:=al.ik;ext p1 q;let z:=ae q (.J []);calc#[_,rfl,a,_,1,_,rfl,rfl,D.Z z,rfl,(by show 2<=lj;decide),λV o=>?_];let W:=z.trans (ae o (.J [.ref p1,v1]));calc#[ON _,λX m=>?_];let G:=W.trans (ae m (.J []));calc#[_,rfl,a,_,4,_,rfl,rfl,D.Z G,rfl,(by show 2<=lj;decide),λp4 C=>?_];let N:=G.trans (ae C (.J [.ref X,v4]));calc#[_,rfl,a,_,2,_,rfl,rfl,D.Z N,rfl,_,rfl,a,_,3,_,rfl,rfl,D.Z N,rfl,(by show 2<=lj;decide),λp5 g=>?_];let U:=N.trans (ae g (.J [v2,v3]));calc#[_,rfl,a,_,5,_,rfl,rfl,D.Z U,rfl,(by show 2<=lj;decide),λp6 ab=>?_];let s6:=U.trans (ae ab (.J [.ref p5,v5]));calc#[(by show 3<=lj;decide),λp7 aa=>?_];let s7:=s6.trans (ae aa (.Y [.ref V,.ref p4,.ref p6]));calc k p7 _ _ s7 af ?_;let ai:=(ae ab (.J [.ref p5,v5])).trans (ae aa (.Y [.ref V,.ref p4,.ref p6]));let ac:=(ae g (.J [v2,v3])).trans ai;let aj:=(ae m (.J [])).trans ((ae C (.J [.ref X,v4])).trans ac);calc .cons (Rp.Z aj (Rp.new o (.cons (Rp.new q .nil) (.one (e1.Z z))))) (.cons (Rp.Z ac (Rp.new C (.cons (Rp.new m .nil) (.one (e4.Z G))))) (.one ?_));calc Rp.Z (ae aa _) (Rp.new ab (.cons (Rp.new g (.cons (e2.Z N) (.one (e3.Z N)))) (.one (e5.Z U))))
end G15
namespace L2
open PySem
def LK (o:PI X tg l j)(m:PI X tg l g):PI X tg l (λe H R=>j e H R\/g e H R):=λd s e H R I h=>h.elim (o d s e H R I) (m d s e H R I)
end L2
namespace G15
open PySem L2
meta def qH(ns:Yi Yg)(o:Yg):Yi Yg:=ns.filter (λn=>decide (n≠o))++[o]
meta def gm(ns d:Yi Yg):Yi Yg:=d.foldl qH ns
def Cj (ns d:Yi Yg)(o:Yg):gm ns (d++[o])=qH (gm ns d) o:=by unfold gm;rw[List.foldl_append];rfl
def Ed (ns:Yi Yg)(o:Yg):(qH ns o).length<=ns.length+1:=by
 unfold qH;rw[mu];calc Nat.add_le_add_right (S1 _ _) 1
theorem n9 :∀(d ns:Yi Yg),(gm ns d).length<=ns.length+d.length
 | [],ns=>i5 _
 |o::r,ns=>by
  let h:=n9 r (qH ns o);let e:=Ed ns o;show(gm (qH ns o) r).length<=_;rw[OT];omega
meta def Ef(K:bN):Sp:=λl H Q _=>∃(j:V) (b:Yh) (e d:Yi Yg),l=[j,.ref b]/\Rp K H (.t (e.map .s)) j/\(H b=Yb (.Y (d.map V.str))\/bY K H b (d.map V.str))/\e.length+d.length<=900 /\
 ∀(v:V) (g:Hp),aR H g->Rp K g (.t ((gm e d).map .s)) v->Q v g
def oh :Nm XN (ak oA):=by decide
def yZ :Lm XN (ak oA):=by decide
def uO :aY XN ["names","others"] (ak oA):=by ac_rfl
def Eg (F:jn K "bound" "bound" oA f fd)(r:mg "tuple"=Yc):Zt gz 1 f fd ["names","others"] (Ef K):=by
 refine F.ok uO (λvs H Q E h=>?_) (λcdv A outer s H vs Q E hr h=>?_)
 .have(_,_,_,_,rfl,_):=h;rfl
 let(W,b,u,g,rfl,Z,hb,hl,k):=h;refine#[_,(Z5 (Zj O8 (LK (jT (va oh 1)) (cG (va oh 1))) (ga uO.nd yZ 2) (Zd (Z4 uO.nd yZ 0 (Zm gU (Z9 cg r Pf (Z1 (@lJ _ _ _ _ _ _ _ _ _ _ _ (ak oA) XN ["name"] [2] rfl rfl rfl (by decide) (cG (va oh 0)) (λ_ _ _ _=>(Zx X6 0)) (λ_ _ _ _=>(@yx _ _ _ (Zn qc (Zw X6 0) (Zw X6 1)))) (λ_ _ _ _=>(Zw X6 0)) (by intro _;rfl)) aA)) (Zk (Zc (va oh 2))))))) (Zd (cS (va oh 0)))),?_]
 right
 calc kT ?_;intro N0 c0;ext
 let fin:∀e d,(∃(v:V) (m:Option V),e=[Yb v,Yb (.ref b),m]/\aR H d/\Rp K d (.t ((gm u (g.take g.length)).map .s)) v)->N0 e d:=by
  rintro e d ⟨v,m,rfl,B,G⟩;rw[OO]at G;ext;exact k v d B G
 let Y:(g.map V.str).length=g.length:=bM _
 let step:∀(i:Nat) (x:V) (e:St) (d:Hp),(g.map V.str)[i]?=Yb x->(∃(v:V) (m:Option V),e=[Yb v,Yb (.ref b),m]/\aR H d/\Rp K d (.t ((gm u (g.take i)).map .s)) v) ->
   iJ 2 x e d λM H2=>(wM (BB (vU K) (MH (λxs H Q=>∃p N,xs=[V.ref p]/\((bA K H p N/\∀(l:Yh),H l=Yc->Q (V.ref l) (upd H l (HO.J N)))\/bY K H p N/\Q (V.ref p) H)) (kh (vO [PM "name"].length [2] (Ja K (jt 0)) (iJ 0) (CU (BB Nf (jt 0) (jt 1))) (jt 0)) tO)) (u9 (kh (jt 2) tO))) (iJ 0))
    {nx:=λe d=>∃(v:V) (m:Option V),e=[Yb v,Yb (.ref b),m]/\aR H d/\Rp K d (.t ((gm u (g.take (i+1))).map .s)) v,rt:=Q,bk:=N0,ct:=λe d=>∃(v:V) (m:Option V),e=[Yb v,Yb (.ref b),m]/\aR H d/\Rp K d (.t ((gm u (g.take (i+1))).map .s)) v} M H2:=by
  rintro i x e d hi ⟨v,m,rfl,B,G⟩;rw[vv]at hi;let(o,ho,rfl):=ri.mp hi;let S:i<g.length:=(bH.mp ho).1;let eo:g[i]=o:=(bH.mp ho).2;let eb:gm u (g.take (i+1))=qH (gm u (g.take i)) o:=by rw[i3 S,eo,Cj]
  let J:=n9 (g.take i) u;rw[x9]at J;rw[eb];generalize gm u (g.take i)=L at G J|-;let(a1,C,rfl,sq,O):=G.aS;obtain rfl:=O.qp;ext;refine gc (xs:=L.map V.str) (λj e C Hd=>(∃y,e=[y,Yb (.str o)])/\Hd=d/\C=((L.take j).filter (λn=>decide (n≠o))).map V.str) #[#[_,rfl],rfl,rfl] ?_ (by rw[bM];calc O7 (aV ())) ?_ ?_ ?_
  .rintro j e C Hd hj ⟨_,_,rfl⟩;rw[bM];exact OX (S1 _ _) (by rw[x9];omega)
  .rintro j e C Hd hj ⟨_,rfl,_⟩;exact sq
  .rintro j x e C Hd hj ⟨⟨x0,rfl⟩,rfl,rfl⟩;rw[vv]at hj;let(n,hn,rfl):=ri.mp hj;let R:j<L.length:=(bH.mp hn).1;let en:L[j]=n:=(bH.mp hn).2
   let et:(L.take (j+1)).filter (λn=>decide (n≠o))=(L.take j).filter (λn=>decide (n≠o))++(if n=o then []else [n]):=by
    rw[i3 R,List.filter_append,en]
    by_cases c:n=o<;>simp[c]
   ext;refine bP (λc=>?_) (λc=>?_)
   .have U:¬n=o:=λz=>by subst z;simp at c
    ext;rw[et,if_neg U,i4];rfl
   .have U:n=o:=by simpa using c
    ext;rw[et,if_pos U,O0]
  .rintro e C Hd ⟨_,rfl,rfl⟩ p hp;rw[bM,OO]at *;let sp:=ae hp (.Y ((L.filter (λn=>decide (n≠o))).map V.str));ext;calc .inl #[bA.of af,λl hl=>?_];let X:=sp.trans (ae hl (.J ((L.filter (λn=>decide (n≠o))).map V.str)));let I:=af (H:=upd Hd p (.Y ((L.filter (λn=>decide (n≠o))).map V.str))) (a:=l) (o:=.J ((L.filter (λn=>decide (n≠o))).map V.str));generalize upd (upd Hd p (.Y ((L.filter (λn=>decide (n≠o))).map V.str))) l (.J ((L.filter (λn=>decide (n≠o))).map V.str))=H3 at X I|-;ext q hq;let D:=ae hq (.J [.str o]);let aa:=D _ _ I;let fl:(L.filter (λn=>decide (n≠o))).length<=L.length:=S1 _ _
   let hz:((L.filter (λn=>decide (n≠o))).map V.str).length+[V.str o].length<=lj:=by
    rw[bM];exact O7 (aV (by show(L.filter (λn=>decide (n≠o))).length+1<=1000;omega))
   ext p4 H4 s4 q4;calc#[_,_,rfl,B.trans (X.trans (D.trans s4)),?_];let e4:(qH L o).map T.s=((L.filter (λn=>decide (n≠o))).map T.s)++[T.s o]:=by unfold qH;rw[i4];rfl
   rw[e4];exact Rp.t q4 (by let:=bR.strs (K:=K) (H:=H4) (qH L o);unfold qH at this;rw[i4,i4]at this;calc this)
 rcases hb with hb|hb
 .refine .inl ?_;ext;calc yf (xs:=g.map V.str) (λi e d=>∃(v:V) (m:Option V),e=[Yb v,Yb (.ref b),m]/\aR H d/\Rp K d (.t ((gm u (g.take i)).map .s)) v) #[W,Yc,rfl,aR.refl _,Z] (λi e d _ h=>?_) step (by rw[Y];calc fin);let(_,_,_,B,_):=h;exact bA.of (B _ _ hb)
 .refine .inr ?_;ext;calc eY (xs:=g.map V.str) (λi e d=>∃(v:V) (m:Option V),e=[Yb v,Yb (.ref b),m]/\aR H d/\Rp K d (.t ((gm u (g.take i)).map .s)) v) #[W,Yc,rfl,aR.refl _,Z] (λi e d _ h=>?_) step (by rw[Y];calc fin);let(_,_,_,B,_):=h;calc hb.Z B
mutual
noncomputable def wu(ns:Yi Yg):Tm->Yi (Yi Yg×Tm)
 |.mk h ks=>(ns,.mk h ks)::qI ns (bnd h ks.length) ks
noncomputable def qI(ns:Yi Yg):Yi (Yi Yg)->Yi Tm->Yi (Yi Yg×Tm)
 |b::bs,k::ks=>wu (gm ns b) k++qI ns bs ks
 |_,_=>[]
end
inductive Wn:Tm->Prop
 |mk {h:Hd}{ks:Yi Tm}:cM h ks.length=Yd->(∀b∈bnd h ks.length,b.length<=5)->(∀k∈ks,Wn k)->Wn (.mk h ks)
def Wn.wf :Wn d->Wf d:=by
 refine Tm.induct (P:=λt=>Wn t->Wf t) (λh ks g w=>?_) d
 cases w with
 |mk a b c=>calc .mk a λk e=>g k e (c k e)
meta abbrev Pl:=Yi Yg×Tm
meta def JU(p:Pl):T:=.t [.t (p.1.map .s),enc p.2]
meta def IE(st:Yi Pl):Yi Pl:=st.flatMap λp=>wu p.1 p.2
meta def sy:Yi Pl->Nat
 | []=>0
 |p::r=>p.2.size+sy r
theorem jz :∀a b:Yi Pl,sy (a++b)=sy a+sy b
 | [],b=>by simp[sy]
 |x::r,b=>by rw[R0,sy,sy,jz r b];omega
theorem xH :∀a:Yi Pl,sy a.reverse=sy a
 | []=>rfl
 |x::r=>by rw[Rm,jz,xH r];simp only[sy];omega
theorem A3 :∀st:Yi Pl,st.length<=sy st
 | []=>i5 _
 |(ns,.mk h ks)::r=>by
  let:=A3 r;rw[OT,sy,Tm.eO];omega
def wA (d:Tm)(wf:Wf d):(right d).map (·.2)=d.ks:=by
 cases wf with
 |mk ar wk =>
 rename_i h ks
 show(((bnd h ks.length).zip ks).map Prod.snd)=ks;refine List.map_snd_zip ?_
 cases h<;>simp_all[bnd,cM]
def rE (d:Tm)(wf:Wf d):(right d).length=d.ks.length:=by
 let z:=congrArg Sq (wA d wf)
 rwa [bM]at z
def Wf.kids (wf:Wf d):∀k∈d.ks,Wf k:=by
 cases wf with
 |mk ar wk=>calc wk
theorem rF :∀l:Yi Tm,l.length<=Tm.sizes l
 | []=>i5 _
 |k::r=>by rw[Tm.bQ,OT];let:=Tm.size_pos k;let:=rF r;omega
def wB (d:Tm):d.ks.length<d.size:=by
 cases d with
 |mk h ks =>
  rw[Tm.eO];show ks.length<_
  let:ks.length<=Tm.sizes ks:=by
   induction ks with
   |nil=>calc i5 _
   |cons k r ih=>rw[Tm.bQ,OT];let:=Tm.size_pos k;omega
  omega
meta def sC(ns:Yi Yg)(d:Tm):Yi Pl:=(right d).map λq=>(gm ns q.1,q.2)
theorem A4 (ns:Yi Yg):∀(bs:Yi (Yi Yg)) (ks:Yi Tm),qI ns bs ks=IE ((bs.zip ks).map λq=>(gm ns q.1,q.2))
 | [],ks=>by cases ks<;>(unfold qI;rfl)
 |b::bs,[]=>by unfold qI;rfl
 |b::bs,k::ks=>by
  unfold qI;rw[RE,OQ,A4 ns bs ks];rfl
def Eh (ns:Yi Yg)(d:Tm):wu ns d=(ns,d)::IE (sC ns d):=by
 cases d with
 |mk h ks=>unfold wu;rw[A4];rfl
theorem A5 (ns:Yi Yg):∀(l:Yi (Yi Yg×Tm)),sy (l.map λq=>(gm ns q.1,q.2))=Tm.sizes (l.map (·.2))
 | []=>rfl
 |q::r=>by rw[OQ,sy,OQ,Tm.bQ,A5 ns r]
def GP (w:Wf d):sy (sC ns d)+1=d.size:=by
 unfold sC;rw[A5,wA d w]
 cases d with
 |mk h ks=>rw[Tm.eO];rfl
theorem j8 :∀{ks:Yi Tm}{k:Tm},k∈ks->k.size<=Tm.sizes ks
 |x::r,k,h=>by
  rw[Tm.bQ]
  cases h with
  |head=>omega
  |tail _ h=>let:=j8 h;omega
def A6 (w:Wn d)(h:ns.length+5*d.size<=900):∀p∈sC ns d,Wn p.2/\p.1.length+5*p.2.size<=900:=by
 intro p l;let(q,j,rfl):=O2.mp l
 cases w with
 |mk a b c =>
  rename_i hd ks
  let e:q∈(bnd hd ks.length).zip ks:=j;let r:=b _ (QL e).1;let g:=(QL e).2;let o:=n9 q.1 ns;let m:=j8 g;rw[Tm.eO]at h;calc#[c _ g,by show(gm ns q.1).length+5*q.2.size<=900;omega]
def Ck (w:Wn d):∀q∈right d,q.1.length<=5:=by
 cases w with
 |mk a b c=>calc λq e=>b _ (QL (show q∈(bnd _ _).zip _ from e)).1
meta def JV(ps:Yi (Yg×T)):T:=.t (ps.map λp=>.t [.s p.1,p.2])
meta def y9(K:bN):Sp:=λo H Q _=>∃(m l:V) (g:Yi (Yg×T)) (d:Tm),o=[m,l]/\Rp K H (JV g) m/\Rp K H (enc d) l/\Wn d/\d.size<=160/\g.length<=50 /\
 ∀(p:Yh) (e:Hp) (j:Yi V),aR H e->H p=Yc->e p=Yb (.Y j)->bR K e ((wu (gm [] (g.map (·.1))) d).map JU) j->Q (.ref p) e
meta def LL(K:bN)(H:Hp)(u t:V)(lt q:Yh)(ns:Yi Yg)(o:Tm)(m:Nat)(r:St)(e:Hp):Prop :=
 ∃(g d:Yi Pl) (j l:Yi V) (y v:Option V),r=[Yb u,Yb t,Yb (.ref lt),Yb (.ref q),y,v]/\aR H e/\e lt=Yb (.Y j)/\bR K e (g.map JU) j/\e q=Yb (.Y l)/\bR K e (d.map JU) l/\(∀p∈d,Wn p.2/\p.1.length+5*p.2.size<=900)/\g++IE d.reverse=wu ns o/\g.length+sy d=o.size/\m=sy d
def gv :Nm Xh (ak ku):=by decide
def oG :Lm Xh (ak ku):=by decide
def lS :aY Xh ["params","term"] (ak ku):=by ac_rfl
def Cm (F:jn K "places" "places" ku f fd)(bf:Za "bound" 1 ["names","others"] (Ef K) gB bfd)(RI:Za "right_in" 1 ["term"] (wj K) gR rfd):Zt gz 2 f fd ["params","term"] (y9 K):=by
 refine F.ok lS (λvs H Q E h=>?_) (λcdv A outer s H vs Q E hr h=>?_)
 .have(_,_,_,_,rfl,_):=h;rfl
 let(vp,vt,D,tm,rfl,hp,ht,wf,ce,ci,k):=h;refine#[_,(Z5 (sa lS.nd oG 2 (dH aA)) (Z5 (Z4 lS.nd oG 3 (Zq (Z1 (Zk (Z1 (Z0 bf (Z1 (eJ aA) (Z1 (Ze (ak ku) Xh X7 [] (cG (va gv 0)) (λ_ _ _ _=>(Zb (2) (Zf (Zx X7 0) (Zs (Zx X7 1))))) (λ_ _ _ _=>(Zw X7 0))) aA))) (Zc (va gv 1)))) aA))) (Z5 (@tL _ _ _ _ _ _ O8 (yg (va gv 3) (λ_=>rfl)) (Z5 (@iD _ _ _ _ _ _ (Jp Rw PySem.F.slot_list_pop PySem.F.type_list_pop Jr (va gv 3)) (Zb (2) (Zf (ga lS.nd oG 4) (Zs (ga lS.nd oG 5)))) (by rfl) (by rfl) (by rfl)) (Z5 (Zo (Z7 (va gv 2) (Z1 (Zk (Z1 (va gv 4) (Zc (va gv 5)))) aA))) (Zd (Zo (@yk _ _ _ _ _ _ _ _ _ _ _ _ Rw UJ UK vK (va gv 3) (Z1 (@BK _ _ _ _ _ _ _ _ _ _ _ (Ze (ak ku) Xh ["others","inner"] [4] (@jT _ _ _ _ (Z0 RI (Zc (va gv 5)))) (λ_ _ _ _=>(Zb (2) (Zf (Zx XF 0) (Zs (Zx XF 1))))) (λ_ _ _ _=>(Zk (Z1 (Z0 bf (Z1 (Zw XF 2) (Zc (Zw XF 0)))) (Zc (Zw XF 1)))))) cQ cQ (bZ (kQ iV aB))) aA) (by rfl) (by rfl) (by rfl) (by rfl) (by rfl))))))) (Zd (cS (va gv 2)))))),?_]
 right
 let(pa,av,rfl,bn,aw):=hp.aS;let lp:=aw.length;rw[bM]at lp;ext lt ai;let s1:=ae ai (.Y []);ext p0 az;let s2:=s1.trans (ae az (.J []));let bb:upd (upd H lt (.Y [])) p0 (.J []) lt=Yb (.Y []):=ae az _ _ _ af;let al:upd (upd H lt (.Y [])) p0 (.J []) p0=Yb (.J []):=af;generalize upd (upd H lt (.Y [])) p0 (.J [])=H2 at s2 bb al|-;let aa:=bY.Z s2 bn;let ab:=aw.Z s2;ext;refine gc (xs:=av) (λi G us Hd=>(∃x y,G=[x,y])/\Hd=H2/\us=((D.take i).map (·.1)).map V.str) #[#[_,_,rfl],rfl,rfl] ?_ (O7 (aV ())) ?_ ?_ ?_
 .rintro j G us Hd hj ⟨_,_,rfl⟩;rw[bM,bM,x9];omega
 .rintro j G us Hd hj ⟨_,rfl,_⟩;exact aa
 .rintro j x G us Hd hj ⟨⟨x0,y0,rfl⟩,rfl,rfl⟩;let(y,hy,ry):=ab.get' hj;rw[vv]at hy;let(q,hq,rfl):=ri.mp hy;let bv:j<D.length:=(bH.mp hq).1;let Z:D[j]=q:=(bH.mp hq).2;let(qa,u1,u2,rfl,as,g1,g2):=ry.t2;obtain rfl:=g1.aL;ext;rw[i3 bv,Z,i4,i4];rfl
 .rintro G us Hd ⟨_,rfl,rfl⟩ lc hlc;let ec:((D.take av.length).map (·.1)).map V.str=(D.map (·.1)).map V.str:=by rw[lp,OO]
  rw[ec];let s3:=ae hlc (.Y ((D.map (·.1)).map V.str));ext
  .exact(Rp.t (bY.of (s3 _ _ al)) .nil:Rp K _ (.t (([]:Yi Yg).map .s)) _)
  calc#[.inl af,by rw[bM,RJ];omega,λv1 H3 s4 bj=>?_];let aq:=s3.trans s4;let s5:=s2.trans aq;let ba:=aq _ _ bb;clear s3 s4 aa ab al;ext;calc nw λp1 H4 s6 a9 bs=>?_;let M:=s6 _ _ ba;let ar:=bj.Z s6;let s7:=s5.trans s6;ext v L;let T:=ae L (.Y [.ref p1]);let ag:lt≠v:=au M L
  let ac:H v=Yc:=by
   cases e:H v with
   |none=>rfl
   |some o=>rw[s7 _ _ e]at L;cases L
  ext;refine#[LL K H (.ref pa) vt lt v (gm [] (D.map (·.1))) tm,#[tm.size,[],[(gm [] (D.map (·.1)),tm)],[],[.ref p1],Yc,Yc,rfl,s7.trans T,T _ _ M,.nil,af,.one (Rp.t (bY.of (T _ _ a9)) (.cons (ar.Z T) (.one (ht.Z (s7.trans T))))),?_,?_,?_,?_],?_]
  .intro p hp;let hb:=n9 (D.map (·.1)) [];rw[bM,RJ]at hb
   cases hp with
   |head=>calc#[wf,by show(gm [] (D.map (·.1))).length+5*tm.size<=900;omega]
   |tail _ h=>cases h
  .simp[IE]
  .simp[sy]
  .simp[sy]
  clear T L ar a9 M bs s7 s6 H4;rintro m G H' ⟨dn,st,N,us,o1,o2,rfl,sm,h1,r1,h2,r2,am,e1,e2,rfl⟩;let l1:=r1.length;rw[bM]at l1;calc#[_,rfl,_,.inl #[us,bA.of h2,rfl],?_];rcases Rc st with rfl|⟨st',hd,rfl⟩
  .obtain rfl:=r2.ik;calc Dl rfl ?_;ext;let z:dn=wu (gm [] (D.map (·.1))) tm:=by simpa[IE]using e1
   exact k lt H' N sm ai h1 (by rw[<-z];calc r1)
  .rw[S2]at *;rw[i4]at r2;let(g,ul,rfl,r3,r4):=r2.split;let(u,q,rfl,ru,rq):=(show bR K H' [JU hd] ul from r4).inv;obtain rfl:=rq.ik;let(wh,O):=am hd (by simp);let(B,d):=hd
   replace wh:Wn d:=wh
   replace O:B.length+5*d.size<=900:=O
   let(C,nv,tv,rfl,bh,rn,rt):=(show Rp K H' (.t [.t (B.map .s),enc d]) u from ru).t2
   let hz:dn.length+sy st'+d.size=tm.size:=by
    rw[jz]at e2;simp only[sy]at e2;omega
   let hk:=wB d;calc Ng (by simp) ?_;calc#[λbg b3=>∃m',m' < sy (st'++[(B,d)])/\LL K H (.ref pa) vt lt v (gm [] (D.map (·.1))) tm m' bg b3,λ_ _ z=>z,?_];let bt:(g++[V.ref C])[(g++[V.ref C]).length-1]?=Yb (V.ref C):=by simp
   let b1:(g++[V.ref C]).dropLast=g:=Tj;let k3:Kt H' (upd H' v (.Y (g++[V.ref C]).dropLast)):=Kt.Y h2 _;let b0:upd H' v (.Y (g++[V.ref C]).dropLast) lt=Yb (.Y N):=by rw[ay ag];exact h1
   let bx:upd H' v (.Y (g++[V.ref C]).dropLast) v=Yb (.Y (g++[V.ref C]).dropLast):=af;let b5:=bh.kt k3;let cd:N.length<lj:=aV ();ext I Y;let k4:Kt (upd H' v (.Y (g++[V.ref C]).dropLast)) (upd (upd H' v (.Y (g++[V.ref C]).dropLast)) I (.J [nv,tv])):=Kt.Z (ae Y _);let a5:=ae Y (.J [nv,tv]) _ _ b0;let aj:=ae Y (.J [nv,tv]) _ _ bx;let a6:upd (upd H' v (.Y (g++[V.ref C]).dropLast)) I (.J [nv,tv]) I=Yb (.J [nv,tv]):=af
   let ap:aR H (upd (upd H' v (.Y (g++[V.ref C]).dropLast)) I (.J [nv,tv])):=λb o e=>by
    calc ae Y _ b o ?_;let n2:b≠v:=au e ac;rw[ay n2];exact sm b o e
   let ax:=k3.trans k4;generalize upd (upd H' v (.Y (g++[V.ref C]).dropLast)) I (.J [nv,tv])=H4 at ax a5 aj a6 ap|-;rw[b1]at aj;let k5:Kt H4 (upd H4 lt (.Y (N++[V.ref I]))):=Kt.Y a5 _;let a3:upd H4 lt (.Y (N++[V.ref I])) v=Yb (.Y g):=by rw[ay ag.symm];exact aj
   let X:=ax.trans k5;let bk:=rt.kt X;let R:=wh.wf;let cl:d.ks.length<=900:=()
   ext p6 H6 an s6 h6 r6
   let ao:aR H (upd H4 lt (.Y (N++[V.ref I]))):=λb o e=>by
    let n2:b≠lt:=au e ai;rw[ay n2];exact ap b o e
   let a4:upd H4 lt (.Y (N++[V.ref I])) lt=Yb (.Y (N++[V.ref I])):=af;generalize upd H4 lt (.Y (N++[V.ref I]))=H5 at X k5 a3 a4 ao bk s6|-;ext;let l6:=r6.length;rw[bM,rE d R]at l6;let bl:=(rn.kt X).Z s6;refine jw (K:=K) (a:=p6) (xs:=an) (λi G l Hd=>(∃x y,G=[x,y,Yb nv])/\aR H6 Hd/\bR K Hd (((right d).take i).map λq=>JU (gm B q.1,q.2)) l) #[#[_,_,rfl],aR.refl _,.nil] ?_ (O7 (aV ())) ?_ ?_ ?_
   .rintro i G l Hd hi ⟨_,_,r⟩;rw[r.length,bM,x9];omega
   .rintro i G l Hd hi ⟨_,S,_⟩;exact bA.of (S _ _ h6)
   .rintro i x G l Hd hi ⟨⟨x0,y0,rfl⟩,S,r⟩;let(y,hy,ry):=r6.get' hi;rw[vv]at hy;let(q,hq,rfl):=ri.mp hy;let a0:i<(right d).length:=(bH.mp hq).1;let Z:(right d)[i]=q:=(bH.mp hq).2;let bq:q∈right d:=by rw[<-Z];exact Pu a0
    let ch:q.1.length<=5:=Ck wh q bq;let(qa,u1,u2,rfl,as,g1,g2):=(show Rp K H6 (.t [.t (q.1.map .s),enc q.2]) x from ry).t2;let(oa,cc,rfl,bo,bp):=g1.aS;obtain rfl:=bp.qp;let b6:=bY.Z S as;let b7:=bY.Z S bo;let ca:=bl.Z S;let cg:=Tm.size_pos d;let b4:B.length+5*d.size<=900:=O;let ck:B.length+q.1.length<=900:=()
    ext v7 H7 s7 bi;ext p8 br;let T:=ae br (.J [v7,u2]);let ad:=s7.trans T;ext
    .exact S.trans ad
    rw[i3 a0,Z,i4];exact(r.Z ad).snoc (Rp.t (bY.of af) (.cons (bi.Z T) (.one ((g2.Z S).Z ad))))
   .rintro G l Hd ⟨_,S,r⟩ p9 hp9;let e9:(right d).take an.length=right d:=by rw[l6,<-rE d R,OO]
    rw[e9]at r;let s9:=ae hp9 (.Y l);let U:=s6.trans (S.trans s9);let l9:=r.length;rw[bM,rE d R]at l9;let a1:=U _ _ a3;let a2:=U _ _ a4;let bw:upd Hd p9 (.Y l) p9=Yb (.Y l):=af;let r9:=r.Z s9;generalize upd Hd p9 (.Y l)=H9 at U a1 a2 bw r9|-;ext
    .rw[yD,QT];exact small ()
    rw[yD];calc nw λcb be W b9 b8=>?_;let a7:=W _ _ a1;let a8:=W _ _ a2;let J:=U.trans W;let bm:=r9.Z W;let l3:=r3.length;rw[bM]at l3;let cf:=A3 st';let cj:g.length+l.reverse.length<=lj:=by rw[QT];exact small ()
    let ah:Kt be (upd be v (.Y (g++l.reverse))):=Kt.Y a7 _;let kA:=X.trans ((Kt.Z J).trans ah);let kz:=GP (ns:=B) R;ext
    .exact(show sy st'+sy (sC B d)<sy (st'++[(B,d)]) by rw[jz];let:sy [(B,d)]=d.size:=rfl;omega)
    refine#[dn++[(B,d)],st'++(sC B d).reverse,N++[.ref I],g++l.reverse,_,_,rfl,?_,?_,?_,af,?_,?_,?_,?_,?_]
    .intro b o e;let n2:b≠v:=au e ac;rw[ay n2];exact J b o (ao b o e)
    .rw[ay ag];exact a8
    .rw[i4];exact(r1.kt kA).snoc (Rp.t ((bY.of a6).kt (k5.trans ((Kt.Z J).trans ah))) (.cons (rn.kt kA) (.one (rt.kt kA))))
    .rw[i4,Wu];calc(r3.kt kA).append ?_;let b2:(sC B d).map JU=(right d).map λq=>JU (gm B q.1,q.2):=by unfold sC;rw[Pz];rfl
     rw[b2];exact(bm.kt ah).reverse
    .intro p hp;rcases IF.mp hp with h|h
     .exact am p (O4 _ h)
     .exact A6 wh O p (List.mem_reverse.mp h)
    .rw[VI,List.reverse_reverse];let bc:dn++IE (st'++[(B,d)]).reverse=wu (gm [] (D.map (·.1))) tm:=e1;rw[VI]at bc;rw[<-bc];simp only[IE,Pk,Rm,List.reverse_nil,QM,Qt,US,O0,PC,R0];rw[Eh];simp[IE]
    .rw[mu,jz,xH];let:[(B,d)].length=1:=rfl;omega
    .rw[jz,xH]
meta def Un(xs:Yi Yg):Prop:=∀(i j:Nat) (x:Yg),xs[i]?=Yb x->xs[j]?=Yb x->i=j
meta def lets:Yi Nat:=(PM "abcdefghijklmnopqrstuvwxyz").cps.toList
def GQ :∀i<26,∀j<26,lets[i]?=lets[j]?->i=j:=by decide
def Ei :lets.length=26:=by decide
meta def u7(e:Yi Nat)(d:Int)(i:Nat)(x:Yg):Prop:=∃c r,dZ lets ((d+7*(i:Int)) % 26)=Yb c/\x.cps.toList=e++c::r
def u7.un (hi:i<26)(y:j<26)(a:u7 g d i x)(b:u7 g d j x):i=j:=by
 let(c,r,p,t):=a;let(B,v,o,m):=b;rw[t]at m;let e:=List.append_cancel_left m;injection e with e _;subst e
 let f:∀n:Int,0<=n->n<26->dZ lets n=lets[n.toNat]?:=λn z h=>by
  let l:n.toNat<lets.length:=by rw[Ei];omega
  let u:n=((n.toNat:Nat):Int):=()
  let q:dZ lets ((n.toNat:Nat):Int)=Yb lets[n.toNat]:=aF (my l);rw[<-u]at q;rw[q,my l]
 rw[f _ () ()]at p o;let:=GQ _ () _ () (p.trans o.symm);omega
def u7.snoc (a:u7 e d i x)(y:Yg):u7 e d i (x++y):=by
 let(c,r,j,g):=a;calc#[c,r++y.cps.toList,j,?_];show(x.cps++y.cps).toList=_;rw[Tz,g];simp
def u7.Ow (m:xs.length<=26)(h:∀j x,xs[j]?=Yb x->u7 e d j x):Un xs:=λi j x l g=>by
 let:=(bH.mp l).1;let:=(bH.mp g).1;calc u7.un () () (h i x l) (h j x g)
def u7.last (I:(xs++[g,t]).length<=26)(M:0<y.length)(h:∀j x,(xs++[g,t])[j]?=Yb x->u7 l d j x):Un (xs++[g,g++y]):=by
 let H:xs.length+2<=26:=by simpa using I
 let L:u7 l d xs.length g:=h xs.length g (by simp);let v:u7 l d xs.length (g++y):=L.snoc y
 let u:g++y≠g:=λz=>by
  let:=congrArg U5 z;rw[Tc]at this;omega
 let m:∀j x,j<xs.length+1->(xs++[g,g++y])[j]?=Yb x->u7 l d j x:=λj x N e=>by
  refine h j x ?_
  by_cases c:j<xs.length
  .rw[Px c]at e|-;exact e
  .have:j=xs.length:=()
   subst this;simp at e|-;exact e
 intro i j x p o;let G:=(bH.mp p).1;let D:=(bH.mp o).1;let C:(xs++[g,g++y]).length=xs.length+2:=by simp
 rw[C]at G D
 let lst:∀k x,k=xs.length+1->(xs++[g,g++y])[k]?=Yb x->x=g++y:=λk x J e=>by
  subst J;rw[Ph ()]at e;simp at e;exact e.symm
 by_cases B:i<xs.length+1
 .by_cases r:j<xs.length+1
  .exact u7.un () () (m i x B p) (m j x r o)
  .have q:=lst j x () o;subst q;let:=u7.un () () (m i _ B p) v;subst this;exact absurd (by simpa using p) u.symm
 .by_cases r:j<xs.length+1
  .have q:=lst i x () p;subst q;let:=u7.un () () (m j _ r o) v;subst this;exact absurd (by simpa using o) u.symm
  .omega
meta def Lo(x:Yg):Prop:=∀c∈x.cps.toList,c<1000
def Lo.append (a:Lo x)(b:Lo y):Lo (x++y):=λc h=>by
 let d:c∈(x.cps++y.cps).toList:=h;rw[Tz]at d;rcases IF.mp d with h|h
 .exact a c h
 .exact b c h
def Lo.slice (a:Lo x)(l u:Option Int):Lo (QC x l u):=λc h=>by
 unfold QC at h
 split at h
 .exact a c h
 .rw[List.toList_toArray]at h;let(i,_,e):=TX.mp h;calc a c ?_;rw[Te];calc Array.mem_of_getElem? e
def A7 :∀c∈lets,c<1000:=by decide
def Lo.one (h:c∈lets):Lo ⟨#[c]⟩:=λd hd=>by
 let:d=c:=by simpa using hd
 rw[this];calc A7 c h
def Lo.q (b:Bool):Lo (Uu "q" (if b then 1 else 0)):=by
 let h:∀b:Bool,((Uu "q" (if b then 1 else 0)).cps.toList.all (· < 1000))=Yd:=by decide
 intro c d;let:=Pj.mp (h b) c d
 simpa using this
def Lo.q1 :Lo (PM "q"):=by
 let h:((PM "q").cps.toList.all (· < 1000))=Yd:=by decide
 intro c d;let:=Pj.mp h c d
 simpa using this
meta def A8:Sp:=λg H Q _=>∃(f:Yh) (m:Nat),g=[.ref f,.int m]/\1<=m/\m<=26/\dc H f /\
 ∀(r:Yh) (e:Hp) (d:Yi Yg),Ext f H e->H r=Yc->e r=Yb (.Y (d.map V.str))->d.length=m->(∀x∈d,x.length<=20/\Lo x)->Un d->Q (.ref r) e
def Ext.free (e:Ext f H d)(h:d l=Yc):H l=Yc:=by
 cases q:H l with
 |none=>rfl
 |some o =>
  by_cases n:l=f
  .subst n;let(a,b,z):=e.2;rw[h]at z;cases z
  .rw[e.1 l o n q]at h;cases h
structure LM(P:we) (w:OR) (K:bN) (mg:Yg->Option eF) (base:Heap) (C:Yh) (m:Yg) (k:Nat) (ps:Yi Yg) (sp:Sp) (f:Yh) (fd:EF):Prop where
 ok:Zt gz k f fd ps sp
 m:Meth K C m f
 bd:Binds K fd ps []
 c:Il K C
abbrev Df:=Yg×Yi (Yg×Kk)×Tm
meta def Wo(x:Yg):Prop:=x.length<=20/\Lo x
meta def HW:Hd->Prop
 |.name x=>Wo x
 |.tag t=>Wo t
 |.call f=>Wo f
 |.mat arms=>∀a∈arms,Wo a.1/\∀x∈a.2,Wo x
 |.fold x _=>Wo x
 |_=>True
inductive Ta:Tm->Prop
 |mk {h:Hd}{ks:Yi Tm}:uL h->HW h->(∀k∈ks,Ta k)->Ta (.mk h ks)
meta def LN(d:Df):Prop:=Wn d.2.2/\Ta d.2.2/\d.2.2.size<=80/\d.2.1.length<=10
meta def jq(kl:Kl):Yi (Yg×Nat)->Yi Int->Yi Int->Yi Df->Option Flt
 |_,_,_,[]=>Yc
 |ds,gs,os,d::r=>if d.1∈ds.map (·.1)then Yb (.tw,d.1)else match cV (kl.map (·.1)) [] os d.2.1 with
  |.error f=>Yb f
  |.ok os'=>match iQ kl ds gs (wu (gm [] (d.2.1.map (·.1))) d.2.2)with
   |.error f=>Yb f
   |.ok gs'=>jq kl (ds++[(d.1,d.2.1.length)]) gs' os' r
theorem wC {kl:Kl}{ds:Yi (Yg×Nat)}{gs g:Yi Int}{dl:Yi Df}{i:Nat}{d:Df}(h:dl[i]?=Yb d):jq kl ds gs g (dl.drop i)=if d.1∈ds.map (·.1)then Yb (.tw,d.1)else match cV (kl.map (·.1)) [] g d.2.1 with
  |.error f=>Yb f
  |.ok os'=>match iQ kl ds gs (wu (gm [] (d.2.1.map (·.1))) d.2.2)with
   |.error f=>Yb f
   |.ok gs'=>jq kl (ds++[(d.1,d.2.1.length)]) gs' os' (dl.drop (i+1)):=by
 let e:=(bH.mp h).1;let j:dl.drop i=d::dl.drop (i+1):=by rw[O5 e,(bH.mp h).2]
 rw[j];rfl
meta def cz(kl:Kl)(dl:Yi Df):Option Flt:=match cK [] [] kl with
 |some f=>Yb f
 |none=>jq kl [] [] [] dl
theorem Cn {kl:Kl}{ds:Yi (Yg×Nat)}{gs:Yi Int}{ps:Yi (Yi Yg×Tm)}{i:Nat}{p:Yi Yg×Tm}(h:ps[i]?=Yb p):iQ kl ds gs (ps.drop i)=match eK kl ds gs p.1 p.2.hd p.2.ks.length with
  |.error f=>.error f
  |.ok gs'=>iQ kl ds gs' (ps.drop (i+1)):=by
 let d:=(bH.mp h).1;let e:ps.drop i=p::ps.drop (i+1):=by rw[O5 d,(bH.mp h).2]
 rw[e];rfl
def za (e:eK kl ds gs ns h n=.ok j):j.length<=gs.length+1:=by
 let same:∀{g:Yi Int},(Except.ok (ε:=Flt) gs)=.ok g->g.length<=gs.length+1:=λ{g} q=>by cases q;exact Pc _
 cases h with
 |name x =>
  let e:(if x∈ns then Except.ok gs else .error (Er.nn,x))=.ok j:=e
  by_cases c:x∈ns
  .rw[if_pos c]at e;exact same e
  .rw[if_neg c]at e;cases e
 |tag t =>
  let e:(match jR kl t with
   |none=>Except.error (Er.nn,t)
   |some y=>if n=y.2.2.length then Except.ok gs else .error (.wr,t))=.ok j:=e
  cases q:jR kl t with
  |none=>rw[q]at e;cases e
  |some y =>
   rw[q]at e;let e:(if n=y.2.2.length then Except.ok gs else .error (Er.wr,t))=.ok j:=e
   by_cases c:n=y.2.2.length
   .rw[if_pos c]at e;exact same e
   .rw[if_neg c]at e;cases e
 |call t =>
  let e:(match ds.find? (λd=>decide (d.1=t))with
   |none=>Except.error (Er.nn,t)
   |some y=>if n=y.2 then Except.ok gs else .error (.wr,t))=.ok j:=e
  cases q:ds.find? (λd=>decide (d.1=t))with
  |none=>rw[q]at e;cases e
  |some y =>
   rw[q]at e;let e:(if n=y.2 then Except.ok gs else .error (Er.wr,t))=.ok j:=e
   by_cases c:n=y.2
   .rw[if_pos c]at e;exact same e
   .rw[if_neg c]at e;cases e
 |mat arms =>
  let e:(match fz kl arms with
   |some f=>Except.error f
   |none=>Except.ok gs)=.ok j:=e
  cases q:fz kl arms with
  |none=>rw[q]at e;calc same e
  |some y=>rw[q]at e;cases e
 |fold x y =>
  let e:(if x=y then .error (Er.tw,x)else Except.ok gs)=.ok j:=e
  by_cases c:x=y
  .rw[if_pos c]at e;cases e
  .rw[if_neg c]at e;calc same e
 |gap m =>
  let e:(if m∈gs then .error (Er.tw,("?":Yg))else Except.ok (gs++[m]))=.ok j:=e
  by_cases c:m∈gs
  .rw[if_pos c]at e;cases e
  .rw[if_neg c]at e
   cases e
   rw[mu];calc i5 _
 |num _=>calc same e
 |op _=>calc same e
 |row=>calc same e
 |more=>calc same e
 |first=>calc same e
 |others=>calc same e
 |long=>calc same e
 |ife=>calc same e
 |lt _=>calc same e
meta def M6(p:Yi Yg×Tm):Prop:=cM p.2.hd p.2.ks.length=Yd/\uL p.2.hd/\p.2.size<=80/\p.1.length+5*p.2.size<=900
def GR :Wn d->Ta d->d.size<=80->∀ns:Yi Yg,ns.length+5*d.size<=900->∀p∈wu ns d,M6 p:=by
 calc Tm.induct (P:=λd=>Wn d->Ta d->d.size<=80->∀ns:Yi Yg,ns.length+5*d.size<=900->∀p∈wu ns d,M6 p) (λh ks o w t g ns l p hp=>?_) d;rw[Eh]at hp;rcases L0.mp hp with rfl|hp
 .cases w with
  |mk a b c =>
   cases t with
   |mk x _ y=>exact#[a,x,g,l]
 .have(q,j,hp):=QD.mp hp;let(m,l2):=A6 w l q j;let(z,r,rfl):=O2.mp j;let e:z.2∈ks:=(QL (show z∈(bnd h ks.length).zip ks from r)).2
  cases t with
  |mk x _ y =>
   let:=j8 e;rw[Tm.eO]at g;calc o _ e m (y _ e) () _ l2 p hp
def GS (ns:Yi Yg)(d:Tm)(w:Wn d):(wu ns d).length=d.size:=by
 revert ns
 refine Tm.induct (P:=λd=>Wn d->∀ns,(wu ns d).length=d.size) (λh ks p w ns=>?_) d w
 let g:∀(bs:Yi (Yi Yg)) (l:Yi Tm),bs.length=l.length->(∀k∈l,k∈ks)->(∀k∈l,Wn k)->(qI ns bs l).length=Tm.sizes l:=by
  intro bs
  induction bs with
  |nil=>intro l e _ _;obtain rfl:l=[]:=QH.mp e.symm;unfold qI;rfl
  |cons b bs ihb =>
   intro l e o m
   cases l with
   |nil=>cases e
   |cons k l =>
    unfold qI;rw[mu,p k (o k (.head _)) (m k (.head _)),ihb l (by simpa using e) (λx j=>o x (.tail _ j)) (λx j=>m x (.tail _ j)),Tm.bQ]
 cases w with
 |mk a b c =>
  unfold wu;rw[OT,Tm.eO,g _ ks ?_ (λ_ h=>h) c]
  cases h<;>simp_all[bnd,cM]
mutual
noncomputable def sH(kl:Kl)(ds:Yi (Yg×Nat)):Yi Int->Yi Yg->Tm->Except Flt (Yi Int)
 |gs,ns,.mk h ks=>match eK kl ds gs ns h ks.length with
  |.error f=>.error f
  |.ok gs'=>jM kl ds gs' ns (bnd h ks.length) ks
noncomputable def jM(kl:Kl)(ds:Yi (Yg×Nat)):Yi Int->Yi Yg->Yi (Yi Yg)->Yi Tm->Except Flt (Yi Int)
 |gs,ns,b::bs,k::ks=>match sH kl ds gs (ns++b) k with
  |.error f=>.error f
  |.ok gs'=>jM kl ds gs' ns bs ks
 |gs,_,_,_=>.ok gs
end
theorem rG (kl:Kl)(ds:Yi (Yg×Nat))(gs:Yi Int)(ns:Yi Yg)(h:Hd)(ks:Yi Tm):sH kl ds gs ns (.mk h ks)=match eK kl ds gs ns h ks.length with
  |.error f=>.error f
  |.ok gs'=>jM kl ds gs' ns (bnd h ks.length) ks:=by unfold sH;rfl
theorem iR (kl:Kl)(ds:Yi (Yg×Nat))(gs:Yi Int)(ns b:Yi Yg)(bs:Yi (Yi Yg))(k:Tm)(ks:Yi Tm):jM kl ds gs ns (b::bs) (k::ks)=match sH kl ds gs (ns++b) k with
  |.error f=>.error f
  |.ok gs'=>jM kl ds gs' ns bs ks:=by
 conv=>lhs;unfold jM
def kI (kl:Kl)(ds:Yi (Yg×Nat))(gs:Yi Int)(ns:Yi Yg)(bs:Yi (Yi Yg)):jM kl ds gs ns bs []=.ok gs:=by
 unfold jM
 cases bs<;>rfl
theorem Ej {kl:Kl}{ds:Yi (Yg×Nat)}{gs:Yi Int}{ns:Yi Yg}{bs:Yi (Yi Yg)}{ks:Yi Tm}{i:Nat}{b:Yi Yg}{k:Tm}(e:bs[i]?=Yb b)(d:ks[i]?=Yb k):jM kl ds gs ns (bs.drop i) (ks.drop i)=match sH kl ds gs (ns++b) k with
  |.error f=>.error f
  |.ok gs'=>jM kl ds gs' ns (bs.drop (i+1)) (ks.drop (i+1)):=by
 let j:bs.drop i=b::bs.drop (i+1):=by rw[O5 (bH.mp e).1,(bH.mp e).2]
 let g:ks.drop i=k::ks.drop (i+1):=by rw[O5 (bH.mp d).1,(bH.mp d).2]
 rw[j,g,iR]
theorem zb (kl:Kl)(ds:Yi (Yg×Nat)):∀(a b:Yi (Yi Yg×Tm)) (gs:Yi Int),iQ kl ds gs (a++b)=match iQ kl ds gs a with
  |.error f=>.error f
  |.ok gs'=>iQ kl ds gs' b
 | [],b,gs=>rfl
 |p::r,b,gs=>by
  show(match eK kl ds gs p.1 p.2.hd p.2.ks.length with
   |.error f=>Except.error f
   |.ok gs'=>iQ kl ds gs' (r++b))=match(match eK kl ds gs p.1 p.2.hd p.2.ks.length with
   |.error f=>Except.error f
   |.ok gs'=>iQ kl ds gs' r)with
   |.error f=>Except.error f
   |.ok gs'=>iQ kl ds gs' b
  cases eK kl ds gs p.1 p.2.hd p.2.ks.length with
  |error f=>rfl
  |ok gs'=>calc zb kl ds r b gs'
def Ek :x∈qH ns o↔x∈ns\/x=o:=by
 unfold qH;rw[IF,Vd,tF];constructor
 .rintro(⟨h,_⟩|h)
  .exact .inl h
  .exact .inr h
 .rintro(h|h)
  .by_cases c:x=o
   .exact .inr c
   .exact .inl #[h,decide_eq_true c]
  .exact .inr h
theorem uP :∀{d ns:Yi Yg}{x:Yg},x∈gm ns d↔x∈ns\/x∈d
 | [],ns,x=>by
  show x∈ns↔_;calc#[.inl,λh=>h.elim id nofun]
 |o::r,ns,x=>by
  show x∈gm (qH ns o) r↔_;rw[uP,Ek,L0,or_assoc]
def Co (e:∀x,x∈ns↔x∈d):eK kl ds gs ns h n=eK kl ds gs d h n:=by
 cases h with
 |name x =>
  show(if x∈ns then Except.ok gs else .error (Er.nn,x))=if x∈d then Except.ok gs else .error (Er.nn,x)
  by_cases c:x∈ns
  .rw[if_pos c,if_pos ((e x).mp c)]
  .rw[if_neg c,if_neg (λz=>c ((e x).mpr z))]
 |_=>rfl
def JW (g:Tm):∀(gs:Yi Int) (ns d:Yi Yg),(∀x,x∈ns↔x∈d)->iQ kl ds gs (wu ns g)=sH kl ds gs d g:=by
 refine Tm.induct (P:=λg=>∀(gs:Yi Int) (ns d:Yi Yg),(∀x,x∈ns↔x∈d)->iQ kl ds gs (wu ns g)=sH kl ds gs d g) (λh ks o gs ns d e=>?_) g
 let j:∀(l:Yi Tm),(∀k∈l,k∈ks)->∀(bs:Yi (Yi Yg)) (gs:Yi Int),iQ kl ds gs (qI ns bs l)=jM kl ds gs d bs l:=by
  intro l
  induction l with
  |nil=>intro _ bs gs;rw[kI];cases bs<;>(unfold qI;rfl)
  |cons k r ihl =>
   intro m bs gs
   cases bs with
   |nil=>unfold qI jM;rfl
   |cons b bs =>
    unfold qI;rw[zb,iR,o k (m k (.head _)) gs (gm ns b) (d++b) (λx=>by rw[uP,IF,e x])]
    cases sH kl ds gs (d++b) k with
    |error f=>rfl
    |ok gs'=>exact ihl (λx p=>m x (.tail _ p)) bs gs'
 rw[rG];unfold wu
 show(match eK kl ds gs ns h ks.length with
   |.error f=>Except.error f
   |.ok gs'=>iQ kl ds gs' (qI ns (bnd h ks.length) ks))=_
 rw[Co e]
 cases eK kl ds gs d h ks.length with
 |error f=>rfl
 |ok gs'=>calc j ks (λ_ h=>h) _ gs'
meta def oj(S:mY)(H:Hp)(ns:Yi Yg)(bs:Yi (Yi Yg))(vs:Yi V):Prop:=vs.length=bs.length/\∀(i:Nat) (b:Yi Yg),bs[i]?=Yb b->∃a,vs[i]?=Yb (.ref a)/\(a≠S.lg/\a≠S.lo)/\H a=Yb (.Y ((ns++b).map V.str))
def GU (d:H a=Yb (.Y (ns.map V.str)))(e:a≠S.lg/\a≠S.lo):oj S H ns (L1 m []) (L1 m (.ref a)):=by
 calc#[by rw[Qk,Qk],λi b g=>?_];let j:i<m:=by let:=(bH.mp g).1;rwa [Qk]at this
 let l:b=[]:=(Sk.mp (xn g)).2;subst l;calc#[a,by rw[Ru,if_pos j],e,by rw[O0];calc d]
def xK :oj S H ns [] []:=#[rfl,λi b d=>by simp at d]
def lT (n:a≠S.lg/\a≠S.lo)(h:H a=Yb (.Y ((ns++b).map V.str)))(o:oj S H ns bs vs):oj S H ns (b::bs) (.ref a::vs):=by
 refine#[by rw[OT,OT,o.1],λi c d=>?_]
 cases i with
 |zero =>
  obtain rfl:b=c:=by simpa using d
  calc#[a,rfl,n,h]
 |succ i=>rw[List.getElem?_cons_succ]at d|-;calc o.2 i c d
def oj.Z (o:oj S H ns bs vs)(s:aR H H'):oj S H' ns bs vs:=#[o.1,λi b d=>by
 let(a,j,g,e):=o.2 i b d;calc#[a,j,g,s _ _ e]]
def El (o:oj S H ns bs vs)(n:a≠S.lg/\a≠S.lo)(h:H a=Yb (.Y ((ns++b).map V.str))):oj S H ns (bs++[b]) (vs++[.ref a]):=by
 refine#[by rw[mu,mu,o.1];rfl,λi c d=>?_]
 by_cases g:i<bs.length
 .rw[Px g]at d;rw[Px (by rw[o.1];calc g)];exact o.2 i c d
 .rw[Ph ()]at d
  let e:i-bs.length=0:=by
   let:=(bH.mp d).1;rw[SW]at this;omega
  rw[e]at d;obtain rfl:b=c:=by simpa using d
  calc#[a,?_,n,h];rw[Ph (by rw[o.1];omega),o.1,e];rfl
def eL.zc (h:eL m S j tg ds gs g H)(x:iC S H d)(e:H a=Yb (.Y xs))(n:a≠S.lg/\a≠S.lo):d a=Yb (.Y xs):=by
 let(o,t1,_):=h.ht;let(p,l,_):=h.hd;calc x a _ (λq=>by rw[q,h.hk]at e;cases e) (λq=>by rw[q,t1]at e;cases e) (λq=>by rw[q,l]at e;cases e) n.2 n.1 e
meta def uQ(K:bN)(n:Nat):Sp:=λy H Q _=>∃(r:Hp) (S:mY) (v:V) (d q:Yh) (g:Kl) (o:Yi (Yg×Nat)) (m u:Yi Int) (e:Tm) (p:Yi Yg),y=[.ref d,v,.ref q]/\eL r S g (sr g) o m u H/\S.d=d/\Rp K H (enc e) v/\Wn e/\Ta e/\e.depth<n/\e.size<=80/\H q=Yb (.Y (p.map V.str))/\(q≠S.lg/\q≠S.lo)/\p.length+5*e.size<=900/\m.length+e.size<=900/\xY g/\(jg g).Nodup /\
 (∀f,sH g o m p e=.error f->∀t j,sU r S o.length j->iC S H j->nu j (Yb f) t->Q t j)/\(∀l,sH g o m p e=.ok l->∀j,eL r S g (sr g) o l u j->iC S H j->l.length<=m.length+e.size->Q .eR j)
structure Nq(H0:Hp) (S:mY) (kl:Kl) (ds:Yi (Yg×Nat)) (gs gs' os:Yi Int) (ns:Yi Yg) (bs:Yi (Yi Yg)) (ks:Yi Tm) (i:Nat) (H H2:Hp):Prop where
 k:eL H0 S kl (sr kl) ds gs' os H2
 t:iC S H H2
 e:jM kl ds gs ns bs ks=jM kl ds gs' ns (bs.drop i) (ks.drop i)
 l:gs'.length+Tm.sizes (ks.drop i)<=gs.length+Tm.sizes ks
meta def jN(K:bN):Sp:=λj H Q _=>∃(v:V) (d:Tm),j=[v]/\Rp K H (enc d) v/\Wf d/\d.size<=900 /\
 ∀(p:Yh) (e:Hp) (g:Yi V),aR H e->H p=Yc->e p=Yb (.Y g)->bR K e (d.ks.map enc) g->Q (.ref p) e
def Em (xs:Yi V)(j:Nat):iE xs (Yb (j:Int)) Yc=xs.drop j:=by
 unfold iE;rw[HT.kR,HT.tP];rcases Wa j xs.length with h|h
 .rw[Ri h,Py (by rw[P6];omega)]
 .rw[UT h,RC h,RC (i5 _)];simp
def GV (xs:Yi V)(j:Nat)(e:1<=j)(d:1<=xs.length):¬(HT.iw xs.length 0 (Yb (j:Int))=0/\HT.iw xs.length xs.length Yc=xs.length):=λz=>by
 let:=z.1;rw[HT.kR]at this;omega
def zd (J:arms.length=ks.length)(L:bY K H0 u vs)(hr:bR K H0 (O9 jE arms ks) vs)(B:ks.length<=1000)(k:∀(p:Yh) (q:Yi V),H0 p=Yc->bR K H0 ks q->Q (.ref p) (upd H0 p (.Y q))):
  lI (Ax K u) (Fi K 3 (tK (iJ 0) (tK (iJ 1) (tK (iJ 2) IX)))) vN (jt 2) Q [Yc,Yc,Yc] H0:=by
 let l:=hr.length;rw[PV,J,RB]at l;refine gc (xs:=vs) (λi g e m=>(∃x y z,g=[x,y,z])/\m=H0/\bR K H0 (ks.take i) e) #[#[Yc,Yc,Yc,rfl],rfl,.nil] ?_ (small ()) ?_ ?_ ?_
 .rintro i g e m C ⟨_,_,r⟩;rw[r.length,x9];omega
 .rintro i g e m C ⟨_,rfl,_⟩;exact L
 .rintro i x g e m hx ⟨⟨R,O,N,rfl⟩,rfl,r⟩;let(y,v,G):=hr.get' hx;let C:i<vs.length:=(bH.mp hx).1;let o:i<arms.length:=()
  let j:i<ks.length:=()
  rw[RM,my o,my j]at v
  cases v
  let(I,H,rfl,D,d):=(show Rp K _ (.t [_,_,_]) x from G).aS;let(t1,q1,rfl,X,d):=d.inv;let(t2,U,rfl,W,d):=d.inv;let(t3,S,rfl,M,d):=d.inv;obtain rfl:=d.ik;calc#[I,_,rfl,D,rfl,_,_,rfl,_,_,rfl,_,_,rfl,rfl,?_];calc#[_,rfl,#[_,_,_,rfl],rfl,?_];rw[i3 j];exact r.snoc M
 .rintro g e m ⟨_,rfl,r⟩ p hp;rw[Py ()]at r;calc k p e hp r
def GW (xs:List d)(y:d):dZ (xs++[y]) (-1)=Yb y:=by
 unfold dZ zJ;rw[if_neg (by decide),if_pos (by rw[mu];simp;omega),Q3,show(-1+(((xs++[y]).length:Nat):Int)).toNat=xs.length by rw[mu];simp;omega];simp
def GX (o:cM hd ks.length=Yd):∃e rest,ni hd (ks.map enc)=.t (.s e::rest) /\
  (nh (.str e) [.str "row",.str "tag",.str "call"]=Yd->∃d,rest=d++[.t (ks.map enc)])/\(decide (V.str e=.str "match")=Yd->∃arms,hd=.mat arms) /\
  (decide (V.str e=.str "fold")=Yd->∃x y,hd=.fold x y)/\(nh (.str e) [.str "num",.str "name",.str "gap"]=Yd->ks=[]) /\
  (¬nh (.str e) [.str "row",.str "tag",.str "call"]=Yd->¬decide (V.str e=.str "match")=Yd->¬decide (V.str e=.str "fold")=Yd->¬nh (.str e) [.str "num",.str "name",.str "gap"]=Yd ->
   ∃d,rest=d++ks.map enc/\(d.length=0/\nh (.str e) [.str "op",.str "let"]=Ye\/d.length=1/\nh (.str e) [.str "op",.str "let"]=Yd)):=by
 cases hd<;>refine#[_,_,rfl,λc=>?_,λc=>?_,λc=>?_,λc=>?_,λm l j g=>?_]
 all_goals first
  |calc absurd c (by decide)
  |calc absurd (by decide) m
  |calc absurd (by decide) l
  |calc absurd (by decide) j
  |calc absurd (by decide) g
  |calc#[[],rfl]
  |calc#[[_],rfl]
  |calc#[_,rfl]
  |calc#[_,_,rfl]
  |calc#[[],rfl,.inl #[rfl,by decide]]
  |calc#[[_],rfl,.inr #[rfl,by decide]]
  |simpa[cM]using o
def cY :Nm Xd (ak kF):=by decide
def ze :aY Xd Xd (ak kF):=by ac_rfl
def Cp (F:jn K "_law_within" "_law_within" kF f fd)(r:mg "list"=Yc)(M:mg "int"=Yc):Zt gz 1 f fd Xd (jN K):=by
 refine F.ok ze (λvs H Q E h=>?_) (λcdv A outer s H vs Q E hr h=>?_)
 .have(v,tm,rfl,_):=h;rfl
 let(v,tm,rfl,hv,wf,aa,k):=h;refine#[_,(Z5 (Z8 (Zg eB (Z6 aI (va cY 0)) (Zk (Z1 aD (di aD (Zc aD)))) (by rfl')) (Zd (Zp (Z9 jU r QW (Z1 (jD aI (va cY 0) (kQ iV aB) (λ_ _=>rfl)) aA))))) (Z5 (Z8 (Zg bO (Z6 aI (va cY 0)) aD (bz _)) (Zd (Zp (Zm iW (Zq (Z1 (Z6 aI (va cY 0)) aA)) (Ze (ak kF) Xd WZ [] (@cG _ _ _ _ (Z6 aI (va cY 0))) (λ_ _ _ _=>(Zb (3) (Zf (Zx WZ 0) (Zf (Zx WZ 1) (Zs (Zx WZ 2)))))) (λ_ _ _ _=>(Zw WZ 2))))))) (Z5 (Z8 (Zg bO (Z6 aI (va cY 0)) aD (bz _)) (Zd (Zp (Zq (Z1 (Z6 aI (va cY 0)) (Z1 (Z6 aI (va cY 0)) (Z1 (Z6 aI (va cY 0)) aA))))))) (Z5 (Z8 (Zg eB (Z6 aI (va cY 0)) (Zk (Z1 aD (di aD (Zc aD)))) (by rfl')) (Zd (cS (dH aA)))) (Zd (Zp (Z9 jU r QW (Z1 (@b6 _ _ _ _ _ _ _ _ _ _ wN (va cY 0) (@bZ _ _ _ (Zm eg aB (Z9 iM M P8 (Z1 (@jA _ _ _ _ _ _ _ _ eB (Z6 aI (va cY 0)) (Zk (di aD (Zc aD))) (by rfl')) aA)))) cQ) aA)))))))),?_]
 right
 cases wf with
 |mk ar wk =>
 rename_i hd ks
 let wf:Wf (.mk hd ks):=.mk ar wk;rw[bI]at hv;let C:ks.length<900:=OJ (wB (.mk hd ks)) aa;let nE:(ks.map enc).length=ks.length:=bM _;let S0:∀(p:Yh) (o:HO) (H:Hp),H p=Yc->aR H (upd H p o):=λp o H h=>ae h o;let(L,rest,he,h1,h2,h3,h4,h5):=GX ar;rw[he]at hv;let(a,vs,rfl,hS,hr):=hv.aS;let(v0,wr,rfl,e0,hq):=hr.inv;obtain rfl:=e0.aL;calc um ?_;intro N1 N2 N3 N4 d1 d2 d3 d4;calc#[_,rfl,a,_,0,_,rfl,rfl,hS,aF (j:=0) rfl,(by show 3<=lj;decide),λp1 ag=>#[p1,_,rfl,.inr (bY.of af),rfl,rfl,_,rfl,?_]];let D:=S0 p1 (.J [.str "row",.str "tag",.str "call"]) H ag;generalize upd H p1 (.J [.str "row",.str "tag",.str "call"])=H1 at D|-;let g:=hS.Z D;let f1:∀{l},H1 l=Yc->H l=Yc:=D.free;refine bP (λc1=>?_) (λc1=>?_)
 .have(N,rfl):=h1 c1;let(t,u,rfl,ai,q):=bR.split hq;let(vb,_,rfl,eb,m):=q.inv;obtain rfl:=m.ik;let(b,u,rfl,J,O):=eb.aS;calc#[_,rfl,_,rfl,a,_,-1,_,rfl,rfl,g,GW (V.str L::t) (V.ref b),b,_,rfl,.inr (J.Z D),λl U=>?_];exact k l _ u (D.trans (ae U _)) (f1 U) af (O.Z (D.trans (ae U _)))
 calc d1 _ _ ?_;calc#[_,rfl,a,_,0,_,rfl,rfl,g,aF (j:=0) rfl,rfl,_,rfl,?_];refine bP (λc2=>?_) (λc2=>?_)
 .have(arms,rfl):=h2 c2;let W:ks.length=arms.length+1:=by simpa[cM]using ar
  match ks,W with
  |k0::kr,W =>
  let ah:arms.length=kr.length:=by simpa using W.symm
  unfold ni at he
  cases he
  let(S,q1,rfl,e1,q):=bR.inv hq;let(v2,q2,rfl,e2,m):=bR.inv q;obtain rfl:=m.ik;let(b,u,rfl,J,O):=e2.aS;calc#[_,rfl,a,_,1,_,rfl,rfl,g,rfl,(by show 1<=lj;decide),λG B=>?_];let d:=D.trans (ae B (.Y [S]));calc#[_,rfl,a,_,2,_,rfl,rfl,hS.Z d,rfl,b,rfl,#[_,J.Z d],?_];calc zd (arms:=arms) (ks:=kr.map enc) (by rw[bM];calc ah) (J.Z d) (by calc O.Z d) (by rw[bM];let:=C;simp at this;omega) λp t T r4=>?_;let z2:upd (upd H1 G (.Y [S])) p (.Y t) G=Yb (.Y [S]):=(ae T _) _ _ af;let l4:=r4.length;rw[bM]at l4;calc#[G,p,_,_,rfl,rfl,z2,af,small (by let:=C;simp at this;show 1+_<=1000;omega),λp5 R=>?_];let Y:=d.trans ((ae T (.Y t)).trans (ae R (.Y ([S]++t))));calc k p5 _ _ Y ((d.trans (ae T (.Y t))).free R) af ?_;exact .cons (e1.Z Y) (r4.Z ((ae T _).trans (ae R _)))
 calc d2 _ _ ?_;calc#[_,rfl,a,_,0,_,rfl,rfl,g,aF (j:=0) rfl,rfl,_,rfl,?_];refine bP (λc3=>?_) (λc3=>?_)
 .have(x,y,rfl):=h3 c3;let W:ks.length=3:=by simpa[cM]using ar
  match ks,W with
  | [k0,k1,k2],W =>
  unfold ni at he
  cases he
  let(S,q1,rfl,e1,q):=bR.inv hq;let(v2,q2,rfl,e2,m):=bR.inv q;let(v3,q3,rfl,e3,ad):=bR.inv m;let(v4,q4,rfl,e4,ac):=bR.inv ad;let(v5,q5,rfl,e5,ab):=bR.inv ac;obtain rfl:=ab.ik;calc#[_,rfl,a,_,1,_,rfl,rfl,g,rfl,_,rfl,a,_,4,_,rfl,rfl,g,rfl,_,rfl,a,_,5,_,rfl,rfl,g,rfl,(by show 3<=lj;decide),λG B=>?_];let d:=D.trans (ae B (.Y [S,v4,v5]));exact k G _ _ d (f1 B) af (.cons (e1.Z d) (.cons (e4.Z d) (.one (e5.Z d))))
 calc d3 _ _ ?_;calc#[_,rfl,a,_,0,_,rfl,rfl,g,aF (j:=0) rfl,(by show 3<=lj;decide),λG B=>#[G,_,rfl,.inr (bY.of af),rfl,rfl,_,rfl,?_]];let d:=D.trans (S0 G (.J [.str "num",.str "name",.str "gap"]) _ B);generalize upd H1 G (.J [.str "num",.str "name",.str "gap"])=H2 at d|-;refine bP (λc4=>?_) (λc4=>?_)
 .obtain rfl:=h4 c4;calc#[ON _,λp3 I=>?_];exact k p3 _ _ (d.trans (ae I _)) (d.free I) af .nil
 calc d4 _ _ ?_;let(N,rfl,T):=h5 c1 c2 c3 c4;let(t,u,rfl,m,q):=bR.split hq;let lw:=m.length
 let hn:(1+(if nh (.str L) [.str "op",.str "let"]=Yd then 1 else 0):Int)=((N.length+1:Nat):Int):=by
  rcases T with⟨l,e⟩|⟨l,e⟩<;>rw[l,e]<;>rfl
 let hc:∀X:Int,X=((N.length+1:Nat):Int)->iE (.str L::(t++u)) (Yb X) Yc=u/\¬(HT.iw (V.str L::(t++u)).length 0 (Yb X)=0/\HT.iw (V.str L::(t++u)).length (V.str L::(t++u)).length Yc=(V.str L::(t++u)).length):=λX e=>by
  rw[e];calc#[?_,GV _ _ () (by simp)];rw[Em,<-lw];exact List.drop_left (l₁:=.str L::t)
 calc#[_,rfl,_,rfl,a,_,0,_,rfl,rfl,hS.Z d,aF (j:=0) rfl,(by show 2<=lj;decide),λp3 I=>#[p3,_,rfl,.inr (bY.of af),rfl,rfl,.inr #[_,rfl,_,_,rfl,rfl,_,rfl,?_]]];let s3:=d.trans (S0 p3 (.J [.str "op",.str "let"]) _ I);calc#[a,_,rfl,hS.Z s3,(hc _ hn).2,λp4 Z=>?_];calc#[p4,u,rfl,.inr (bY.of (af.trans (congrArg (λz=>Yb (HO.J z)) (hc _ hn).1))),λl U=>?_];let Y:=(s3.trans (ae Z _)).trans (ae U (.Y u));calc k l _ u Y ((s3.trans (ae Z _)).free U) af (q.Z Y)
def aO :Nm WV (ak b8):=by decide
def eW :Lm WV (ak b8):=by decide
def dX :aY WV WW (ak b8):=by ac_rfl
def sV {P:we}{w:OR}{K:bN}{mg:Yg->Option eF}{base:Heap}{gW gH:Yh}{wfd hfd:EF}{n j:Nat}(hj:1<=j){f:Yh}{cdv:eF}{A:OW}{outer:Yi Qp}{s:fy}{H1:Hp}{E:XK}(WI:Za "_law_within" 1 Xd (jN K) gW wfd)(an:Za "_law_term_fault" j WW (uQ K n) gH hfd)(I:mg "zip"=Yc)(hr:dU j (A.deeper (OV "_law_term_fault" (ak b8) s⁻¹ f cdv))){D:L2.Ends}{H0 H:Hp}{S:mY}{kl:Kl}{ds:Yi (Yg×Nat)}{gs os:Yi Int}{v fv:V}{la ls:Yh}{h:Hd}{ks:Yi Tm}{ns:Yi Yg}{vs:Yi V}{o1 o2:Option V}(sc:eL H0 S kl (sr kl) ds gs os H)(hv:Rp K H (enc (.mk h ks)) v)(wf:Wn (.mk h ks))(ta:Ta (.mk h ks))(hd:(Tm.mk h ks).depth<n+1)(hz:(Tm.mk h ks).size<=80)(hl:ns.length+5*(Tm.mk h ks).size<=900)(hg:gs.length+Tm.sizes ks<=900)(hB:xY kl)(hnd:(jg kl).Nodup)(hs:H ls=Yb (.Y vs))(hsf:ls≠S.lg/\ls≠S.lo)(L:oj S H ns (bnd h ks.length) vs)(kf:∀f,jM kl ds gs ns (bnd h ks.length) ks=.error f->∀z m,sU H0 S ds.length m->iC S H m->nu m (Yb f) z->D.rt z m)(ko:∀g,jM kl ds gs ns (bnd h ks.length) ks=.ok g->∀m,eL H0 S kl (sr kl) ds g os m->iC S H m->g.length<=gs.length+Tm.sizes ks->D.rt .eR m):
  jL (Zl gz WV "_law_term_fault" (ak b8) H1).pB ((bx b8).drop 6) D [Yb (.ref S.d),Yb v,Yb (.ref la),Yb fv,Yb (.ref ls),o1,o2] H:=by
 refine fg ((Z5 (Zj O8 (DC K rfl (by left) I (Z1 (Z0 WI (Zc (va aO 1))) (Zc (va aO 4)))) (Zb (2) (Zf (ga dX.nd eW 5) (Zs (ga dX.nd eW 6)))) (Z5 (Z4 dX.nd eW 3 (Z0 an (Z1 (va aO 0) (Z1 (va aO 5) (Zc (va aO 6)))))) (Zd (Z8 (Zn sL (va aO 3) gw) (Zd (cS (va aO 3))))))) (cA (cS gw)))) ?_
 right
 let aa:=wf.wf;let aq:(Tm.mk h ks).size<=900:=()
 ext lw H2 Z Q W h2 r2;let l2:=r2.length;rw[bM]at l2;let ao:Z.length=ks.length:=l2;let R:=Q _ _ hs;let b1:nq K Ye H2 lw Z:=bA.of h2;let b2:nq K Ye H2 ls vs:=bA.of R;let r:=sc.ext Q;let ad:lw≠S.lg/\lw≠S.lo:=#[(au sc.hg W).symm,(au sc.ho W).symm];let(az,L):=L
 let ai:(bnd h ks.length).length=ks.length:=by
  cases aa with
  |mk ar wk=>cases h<;>simp_all[bnd,cM]
 let U:min Z.length vs.length=ks.length:=()
 ext;refine Gr (xs:=Z) (ys:=vs) (λi N u=>(∃o3 o1 o2,N=[Yb (.ref S.d),Yb v,Yb (.ref la),o3,Yb (.ref ls),o1,o2])/\∃g,Nq H0 S kl ds gs g os ns (bnd h ks.length) ks i H2 u) #[#[_,_,_,rfl],gs,r,iC.refl _ _,rfl,i5 _] ?_ ?_ ?_ ?_
 .rintro i N u hi ⟨_,g,o⟩;exact bA.of (r.zc o.t h2 ad)
 .rintro i N u hi ⟨_,g,o⟩;exact bA.of (r.zc o.t R hsf)
 .rintro i x y N u p hx hy ⟨⟨_,_,_,rfl⟩,g,o⟩ hp;let(t,ht,rt):=r2.get' hx;rw[vv]at ht;let(kd,X,rfl):=ri.mp ht;let C:ks[i]?=Yb kd:=X;let Y:i<ks.length:=(bH.mp C).1;obtain⟨b,hb⟩:∃b,(bnd h ks.length)[i]?=Yb b:=#[_,my (by rw[ai];calc Y)];let G:=o.e;rw[Ej hb C]at G;let(J,ho,ag,T):=L i b hb;rw[hy]at ho;obtain rfl:=OL ho;let B:kd∈ks:=xn C
  let a1:b.length<=5:=by
   cases wf with
   |mk a bb c=>exact bb b (xn hb)
  let as:Wn kd:=by
   cases wf with
   |mk a b c=>exact c kd B
  let aw:Ta kd:=by
   cases ta with
   |mk a _ b=>exact b kd B
  let a0:kd.depth<n:=by let:=Tm.jv (h:=h) (ks:=ks) B;omega
  let ax:=j8 B;let av:Tm.sizes ks+1=(Tm.mk h ks).size:=by rw[Tm.eO]
  let ap:kd.size<=80:=()
  let M:=ae hp (.J [x,.ref J]);let ab:=o.k.ext M;let ac:=(rt.kt (r.vj o.t)).Z M;let g4:upd u p (.J [x,.ref J]) J=Yb (.Y ((ns++b).map V.str)):=M _ _ (r.zc o.t (Q _ _ T) ag);let z1:(ns++b).length+5*kd.size<=900:=by rw[mu];omega
  let am:ks.drop i=kd::ks.drop (i+1):=by rw[O5 Y,(bH.mp C).2]
  let l3:=o.l;rw[am,Tm.bQ]at l3;let z2:g.length+kd.size<=900:=()
  let t3:iC S H u:=(iC.of Q).trans o.t
  let fE:∀f,sH kl ds g (ns++b) kd=.error f->∀z m,sU H0 S ds.length m->iC S (upd u p (.J [x,.ref J])) m->nu m (Yb f) z->D.rt z m:=λf hf z m w' O ft=>by
   rw[hf]at G;exact kf f G z m w' ((t3.Z M).trans O) ft
  let aj:upd u p (.J [x,.ref J]) p=Yb (.J [x,.ref J]):=af;generalize upd u p (.J [x,.ref J])=H4 at M ab ac g4 fE aj|-;ext
  .intro f hf z m w' O ft;let fin:=fE f hf z m w' O ft;let(q,rfl,hq):=ft;ext;exact fin
  .intro al ah m k' O l';rw[ah]at G;let fin:Nq H0 S kl ds gs al os ns (bnd h ks.length) ks (i+1) H2 m:=#[k',(o.t.Z M).trans O,G,()];ext;exact fin
 .rintro N u ⟨⟨_,_,_,rfl⟩,g,o⟩;let G:=o.e;rw[U,Pa,kI]at G;let l3:=o.l;rw[U,Pa]at l3;let fin:=ko g G u o.k ((iC.of Q).trans o.t) (OX (Q2 _ _) l3);ext;calc fin
def En {ks: Yi Tm}(e : cM h ks.length = Yd): (∃ (d : Yg) (r : Yi T), ni h (ks.map enc) = .t (.s d :: r) ∧ d ≠ "let" ∧ d ≠ "fold" ∧ d ≠ "match" ∧ bnd h ks.length = L1 ks.length []) ∨ (∃ arms, h = .mat arms) ∨ (∃ x, h = .lt x) ∨ ∃ x y, h = .fold x y := by
  cases h
  case mat arms => exact .inr (.inl #[_, rfl])
  case lt x => exact .inr (.inr (.inl #[_, rfl]))
  case fold x y => exact .inr (.inr (.inr #[_, _, rfl]))
  case num n => obtain rfl : ks = [] := by simpa [cM] using e
                exact .inl #[_, _, rfl, by decide, by decide, by decide, rfl]
  case name x => obtain rfl : ks = [] := by simpa [cM] using e
                 exact .inl #[_, _, rfl, by decide, by decide, by decide, rfl]
  case gap n => obtain rfl : ks = [] := by simpa [cM] using e
                exact .inl #[_, _, rfl, by decide, by decide, by decide, rfl]
  all_goals calc .inl #[_, _, rfl, by decide, by decide, by decide, rfl]
def Eo (h:l a=Yb (.Y vs))(g:vs.length<=1000)(k:∀(p:Yh),l p=Yc->Q (.ref p) (upd l p (.Y (L1 vs.length (.ref m))))):lI (Ij K a) (iJ 0) vN (jt 1) Q [Yc,Yb (.ref m)] l:=by
 refine jw (xs:=vs) (λi d e j=>(∃x,d=[x,Yb (.ref m)])/\j=l/\e=L1 i (.ref m)) #[#[Yc,rfl],rfl,rfl] ?_ (small g) ?_ ?_ ?_
 .rintro i d e j hi ⟨_,_,rfl⟩;rw[Qk];exact i5 _
 .rintro i d e j hi ⟨_,rfl,_⟩;exact bA.of h
 .rintro i x d e j hx ⟨⟨o,rfl⟩,rfl,rfl⟩;ext;rw[List.replicate_succ']
 .rintro d e j ⟨_,rfl,rfl⟩ p hp;calc k p hp
def JX (hj:4<=j)(F:jn K "_law_term_fault" "_law_term_fault" b8 f fd)(WI:Za "_law_within" 1 Xd (jN K) gW wfd)(ck:Za "_law_itself_fault" 4 WW (uM K) gI ifd)(aw:Za "_law_term_fault" j WW (uQ K n) gH hfd)(D:mg "zip"=Yc)(an:mg "list"=Yc):
  Zt gz (j+1) f fd WW (uQ K (n+1)):=by
 refine F.ok dX (λvs H Q E h=>?_) (λcdv A outer s H vs Q E hr h=>?_)
 .have(_,_,_,_,_,_,_,_,_,_,_,rfl,_):=h;rfl
 let(H0,S,v,d,e,kl,ds,gs,os,tm,g,rfl,sc,rfl,hv,wf,ta,hd,hz,b7,ad,hl,hg,hB,av,kf,ko):=h;refine#[_,(Z5 (Z4 dX.nd eW 3 (Z0 ck (Z1 (va aO 0) (Z1 (va aO 1) (Zc (va aO 2)))))) (Z5 (Z8 (Zn sL (va aO 3) gw) (Zd (cS (va aO 3)))) (Z5 (@nL _ _ _ _ _ _ _ _ _ _ _ _ _ _ _ (ak b8) WV ["_law_inner"] [2] rfl rfl rfl (by decide) (@jT _ _ _ _ (Z0 WI (Zc (va aO 1)))) (λ_ _ _ _=>(Zx ["_law_inner","_law_around"] 0)) (λ_ _ _ _=>fZ) (λ_ _ _ _=>(Zw ["_law_inner","_law_around"] 1)) (ga dX.nd eW 4) (by kernel_rfl) (by intro _;rfl)) (Z5 (Z8 (Zg bO (Z6 aI (va aO 1)) aD (bz _)) (Zd (@iD _ _ _ _ _ _ (Zm iW (va aO 2) (Zq (Z1 (Z6 aI (va aO 1)) aA))) (pH (va aO 4) aB set_list) (by rfl) (by rfl) (by rfl)))) (Z5 (Z8 (Zg bO (Z6 aI (va aO 1)) aD (bz _)) (Zd (@iD _ _ _ _ _ _ (Zm iW (va aO 2) (Zq (Z1 (Z6 aI (va aO 1)) (Z1 (Z6 aI (va aO 1)) aA)))) (pH (va aO 4) aB set_list) (by rfl) (by rfl) (by rfl)))) (Z5 (Z8 (Zg bO (Z6 aI (va aO 1)) aD (bz _)) (Zd (Z4 dX.nd eW 4 (Zm iW (Zq (Zc (va aO 2))) (Ze (ak b8) WV WZ [2] (@cG _ _ _ _ (Z6 aI (va aO 1))) (λ_ _ _ _=>(Zb (3) (Zf (Zx Xb 0) (Zf (Zx Xb 1) (Zs (Zx Xb 2)))))) (λ_ _ _ _=>(Zm iW (Zw Xb 3) (Z9 (vm K rfl) an QW (Zc (Zw Xb 1)))))))))) dz)))))),?_]
 right
 let bv:=wf.wf;let hk:=wB tm;let(h,ks):=tm;let al:cM h ks.length=Yd:=by cases bv with|mk a b=>exact a
 let cj:uL h:=by cases ta with|mk a _ b=>exact a
 let ct:Tm.sizes ks+1=(Tm.mk h ks).size:=by rw[Tm.eO]
 let cb:ks.length<(Tm.mk h ks).size:=hk;let lk:ks.length<=900:=()
 let l:g.length<=900:=()
 let lg:gs.length<=900:=()
 let cs:(Tm.mk h ks).size<=900:=()
 let eT:=rG kl ds gs g h ks;ext
 .intro f hf v' H' s' ft;rw[hf]at eT;let fin:=kf f eT v' H' ((sc.ext s').w (i5 _)) (iC.of s') ft;let(q,rfl,hq):=ft;ext;exact fin
 intro ai bo H1 m t1;rw[bo]at eT;let be:sH kl ds gs g (.mk h ks)=jM kl ds ai g (bnd h ks.length) ks:=eT;let cq:=za bo;let ar:=hv.kt (sc.vj t1);let Z:=sc.zc t1 b7 ad;let ab:ai.length+Tm.sizes ks<=900:=()
 let aq:∀{Ha:Hp},iC S H1 Ha->∀f,jM kl ds ai g (bnd h ks.length) ks=.error f->∀v' H',sU H0 S ds.length H'->iC S Ha H'->nu H' (Yb f) v'->Q v' H':=λta f hf v' H' w' t' ft=>kf f (be.trans hf) v' H' w' ((t1.trans ta).trans t') ft;let ap:∀{Ha:Hp},iC S H1 Ha->∀aj,jM kl ds ai g (bnd h ks.length) ks=.ok aj->∀H',eL H0 S kl (sr kl) ds aj os H'->iC S Ha H'->aj.length<=ai.length+Tm.sizes ks->Q .eR H':=λta aj hf H' k' t' l'=>ko aj (be.trans hf) H' k' ((t1.trans ta).trans t') ();clear kf ko eT be;ext lw H2 ws s2 cw h2 r2;let l2:=r2.length;rw[bM]at l2;let bi:ws.length=ks.length:=l2;let cz:bA K H2 lw ws:=bA.of h2;ext;calc Eo h2 (by rw[bi];omega) λp bj=>?_;rw[bi];let s3:=ae bj (.Y (L1 ks.length (.ref e)));let J:=s2.trans s3;let N:upd H2 p (.Y (L1 ks.length (.ref e))) p=Yb (.Y (L1 ks.length (.ref e))):=af;let C:H1 p=Yc:=s2.free bj;let a3:p≠S.lg/\p≠S.lo:=#[(au m.hg C).symm,(au m.ho C).symm];generalize upd H2 p (.Y (L1 ks.length (.ref e)))=H3 at s3 J N|-;let bx:=m.ext J;let ah:=ar.Z J;let Y:=J _ _ Z;rcases En al with⟨fm,r,he,n1,n2,n3,hb⟩|⟨arms,rfl⟩|⟨x,rfl⟩|⟨x,y,rfl⟩
 .have B:=ah;rw[bI,he]at B;let(a,co,rfl,hS,b6):=B.aS;let(v0,q0,rfl,e0,cu):=b6.inv;obtain rfl:=e0.aL;let a0:=KP (V.str fm) q0;ext;calc Dl (GL n1) ?_;ext;calc Dl (GL n2) ?_;ext;calc Dl (GL n3) ?_;ext;refine sV () WI aw D (hr.mono ()) bx ah wf ta hd hz hl ab hB av N a3 (by rw[hb];calc GU Y ad) (aq (iC.of J)) (ap (iC.of J))
 .obtain⟨k0,kr,rfl⟩:∃k0 kr,ks=k0::kr:=by
   cases ks with
   |nil=>simp[cM]at al
   |cons k0 kr=>exact#[_,_,rfl]
  let bn:arms.length=kr.length:=by
   let:kr.length+1=arms.length+1:=by simpa[cM]using al
   omega
  let B:=ah;rw[bI]at B;let(a,u1,u2,u3,rfl,hS,g1,g2,g3):=(show Rp K H3 (.t [.s "match",enc k0,.t (O9 jE arms (kr.map enc))]) v from B).t3;obtain rfl:=g1.aL;let(aa,ch,rfl,ci,bt):=g3.aS;let ax:=bt.length;rw[PV,bM,bn,RB]at ax;ext l1 ca;let M:=ae ca (.Y [.ref e]);let a2:=J.trans M;let bq:upd H3 l1 (.Y [.ref e]) l1=Yb (.Y [.ref e]):=af;generalize upd H3 l1 (.Y [.ref e])=H4 at M a2 bq|-;let br:=ci.Z M;let bs:=bt.Z M;let bm:=M _ _ Y;let bw:=m.ext a2;let cy:=hS.Z M;let cx:kr.length+1<(Tm.mk (Hd.mat arms) (k0::kr)).size:=cb;ext;refine gc (K:=K) (xs:=ch) (λi σ O Hd=>(∃x y z,σ=[x,y,z,Yb (.ref e)])/\aR H4 Hd/\oj S Hd g ((arms.map (·.2)).take i) O) #[#[_,_,_,rfl],aR.refl _,xK] ?_ (O7 (aV ())) ?_ ?_ ?_
  .rintro i σ O Hd hi ⟨_,_,o⟩;rw[o.1,x9];omega
  .rintro i σ O Hd hi ⟨_,sd,_⟩;exact br.Z sd
  .rintro i u σ O Hd hi ⟨⟨x0,y0,z0,rfl⟩,sd,ow⟩;let(y,hy,ry):=bs.get' hi;let(am,kj,a9,rfl):=jZ hy;let cc:=(bH.mp a9).1
   let cg:(arms.map (·.2)).take (i+1)=(arms.map (·.2)).take i++[am.2]:=by
    rw[i3 (by rw[bM];calc cc),S5,(bH.mp a9).2]
   let cr:=(cj arms rfl).2 am (xn a9);let(qa,w1,w2,w3,rfl,b0,e1,e2,e3):=ry.t3;obtain rfl:=e1.aL;let(na,cp,rfl,b1,b2):=e2.aS;obtain rfl:=b2.qp;let cl:=b0.Z sd;let cm:=b1.Z sd;let bk:=sd _ _ bm;let lc:(g.map V.str).length+(am.2.map V.str).length<=lj:=small (by rw[bM,bM];omega);ext l5 b9;let R:=ae b9 (.Y (am.2.map V.str));let h5:upd Hd l5 (.Y (am.2.map V.str)) l5=Yb (.Y (am.2.map V.str)):=af;generalize upd Hd l5 (.Y (am.2.map V.str))=H5 at R h5|-;let cn:=R _ _ bk;ext l6 a8;let ea:g.map V.str++am.2.map V.str=(g++am.2).map V.str:=by rw[i4]
   rw[ea];let s6:=ae a8 (.Y ((g++am.2).map V.str));let h6:upd H5 l6 (.Y ((g++am.2).map V.str)) l6=Yb (.Y ((g++am.2).map V.str)):=af;let bf:=(bw.ext sd).ext R;let b4:l6≠S.lg/\l6≠S.lo:=#[(au bf.hg a8).symm,(au bf.ho a8).symm];generalize upd H5 l6 (.Y ((g++am.2).map V.str))=H6 at s6 h6|-;calc#[#[_,_,_,rfl],sd.trans (R.trans s6),?_];rw[cg];exact El (ow.Z (R.trans s6)) b4 h6
  .rintro σ O Hd ⟨_,sd,ow⟩ lc hlc;let s7:=ae hlc (.Y O);let cf:upd Hd lc (.Y O) lc=Yb (.Y O):=af;let ao:=ow.Z s7;let ce:=s7 _ _ (sd _ _ bq);let a1:=a2.trans (sd.trans s7);rw[ax,<-bn,<-bM (as:=arms) (·.2),OO]at ao;let b5:=ao.1;rw[bM]at b5;let cv:[V.ref e].length+O.length<=lj:=small (by show 1+O.length<=1000;omega);generalize upd Hd lc (.Y O)=H7 at s7 cf ao ce a1|-;ext l8 a7;let s8:=ae a7 (.Y ([.ref e]++O));let ac:=a1.trans s8;let bp:upd H7 l8 (.Y ([.ref e]++O)) l8=Yb (.Y (.ref e::O)):=af;let bg:=m.ext a1;let b3:l8≠S.lg/\l8≠S.lo:=#[(au bg.hg a7).symm,(au bg.ho a7).symm];let bh:=ao.Z s8;generalize upd H7 l8 (.Y ([.ref e]++O))=H8 at s8 ac bp bh|-;let bl:H8 e=Yb (.Y ((g++[]).map V.str)):=by rw[O0];exact ac _ _ Z
   ext;refine sV () WI aw D (hr.mono ()) (m.ext ac) (ar.Z ac) wf ta hd hz hl ab hB av bp b3 (lT (b:=[]) ad bl bh) (aq (iC.of ac)) (ap (iC.of ac))
 .have(k0,k1,rfl):=G15.l2 (show ks.length=2 by simpa[cM]using al);let B:=ah;rw[bI]at B;let(a,u1,u2,u3,u4,rfl,hS,g1,g2,g3,g4):=(show Rp K H3 (.t [.s "let",.s x,enc k0,enc k1]) v from B).t4;obtain rfl:=g1.aL;obtain rfl:=g2.aL
  replace N:H3 p=Yb (.Y [.ref e,.ref e]):=N
  ext lx a6;let M:=ae a6 (.Y [.str x]);let bb:upd H3 lx (.Y [.str x]) lx=Yb (.Y [.str x]):=af;let W:=M _ _ N;let bc:=M _ _ Y;let I:=J.trans M;generalize upd H3 lx (.Y [.str x])=H4 at M bb bc W I|-;let lc:(g.map V.str).length+([.str x]:Yi V).length<=lj:=small (by rw[bM];show g.length+1<=_;omega);ext l L;let ea:g.map V.str++[.str x]=(g++[x]).map V.str:=by simp
  rw[ea];let R:=ae L (.Y ((g++[x]).map V.str));let h5:upd H4 l (.Y ((g++[x]).map V.str)) l=Yb (.Y ((g++[x]).map V.str)):=af;let ag:p≠l:=au W L;let U:=R _ _ W;let T:=I.trans R;let a4:l≠S.lg/\l≠S.lo:=#[(au (m.ext I).hg L).symm,(au (m.ext I).ho L).symm];generalize upd H4 l (.Y ((g++[x]).map V.str))=H5 at R h5 U T|-;let az:=(m.ext T).other m C U [.ref e,.ref l];let k6:Kt H5 (upd H5 p (.Y [.ref e,.ref l])):=Kt.Y U _;let cd:bY K (upd H5 p (.Y ([V.ref e,V.ref e].set 1 (V.ref l)))) a _:=((hS.Z M).Z R).kt k6;let G:aR H1 (upd H5 p (.Y [.ref e,.ref l])):=T.oR C _;let h6:upd H5 p (.Y [.ref e,.ref l]) p=Yb (.Y [.ref e,.ref l]):=af;let ba:upd H5 p (.Y [.ref e,.ref l]) l=Yb (.Y ((g++[x]).map V.str)):=by rw[ay ag.symm];exact h5
  let X:upd H5 p (.Y [.ref e,.ref l]) e=Yb (.Y ((g++[]).map V.str)):=by rw[O0];exact G _ _ Z
  let a5:=ar.Z G;ext;refine sV () WI aw D (hr.mono ()) az a5 wf ta hd hz hl ab hB av h6 a3 (lT ad X (lT a4 ba xK)) (aq (iC.of G)) (ap (iC.of G))
 .have(k0,k1,k2,rfl):=G15.l3 (show ks.length=3 by simpa[cM]using al);let B:=ah;rw[bI]at B;let(a,O,rfl,hS,rs):=(show Rp K H3 (.t [.s "fold",enc k0,.s x,.s y,enc k1,enc k2]) v from B).aS;let(u1,q1,rfl,g1,rs):=rs.inv;let(u2,q2,rfl,g2,rs):=rs.inv;let(u3,q3,rfl,g3,rs):=rs.inv;let(u4,q4,rfl,g4,rs):=rs.inv;let(u5,q5,rfl,g5,rs):=rs.inv;let(u6,q6,rfl,g6,rs):=rs.inv;obtain rfl:=rs.ik;obtain rfl:=g1.aL;obtain rfl:=g3.aL;obtain rfl:=g4.aL
  replace N:H3 p=Yb (.Y [.ref e,.ref e,.ref e]):=N
  ext lx a6;let M:=ae a6 (.Y [.str x,.str y]);let bb:upd H3 lx (.Y [.str x,.str y]) lx=Yb (.Y [.str x,.str y]):=af;let W:=M _ _ N;let bc:=M _ _ Y;let I:=J.trans M;generalize upd H3 lx (.Y [.str x,.str y])=H4 at M bb bc W I|-;let lc:(g.map V.str).length+([.str x,.str y]:Yi V).length<=lj:=small (by rw[bM];show g.length+2<=_;omega);ext l L;let ea:g.map V.str++[.str x,.str y]=(g++[x,y]).map V.str:=by simp
  rw[ea];let R:=ae L (.Y ((g++[x,y]).map V.str));let h5:upd H4 l (.Y ((g++[x,y]).map V.str)) l=Yb (.Y ((g++[x,y]).map V.str)):=af;let ag:p≠l:=au W L;let U:=R _ _ W;let T:=I.trans R;let a4:l≠S.lg/\l≠S.lo:=#[(au (m.ext I).hg L).symm,(au (m.ext I).ho L).symm];generalize upd H4 l (.Y ((g++[x,y]).map V.str))=H5 at R h5 U T|-;let az:=(m.ext T).other m C U [.ref e,.ref e,.ref l];let k6:Kt H5 (upd H5 p (.Y [.ref e,.ref e,.ref l])):=Kt.Y U _;let cd:bY K (upd H5 p (.Y ([V.ref e,V.ref e,V.ref e].set 2 (V.ref l)))) a _:=((hS.Z M).Z R).kt k6;let G:aR H1 (upd H5 p (.Y [.ref e,.ref e,.ref l])):=T.oR C _;let h6:upd H5 p (.Y [.ref e,.ref e,.ref l]) p=Yb (.Y [.ref e,.ref e,.ref l]):=af;let ba:upd H5 p (.Y [.ref e,.ref e,.ref l]) l=Yb (.Y ((g++[x,y]).map V.str)):=by rw[ay ag.symm];exact h5
  let X:upd H5 p (.Y [.ref e,.ref e,.ref l]) e=Yb (.Y ((g++[]).map V.str)):=by rw[O0];exact G _ _ Z
  let a5:=ar.Z G;ext;refine sV () WI aw D (hr.mono ()) az a5 wf ta hd hz hl ab hB av h6 a3 (lT ad X (lT ad X (lT a4 ba xK))) (aq (iC.of G)) (ap (iC.of G))
meta def Mt(n:Nat)(dl:Yi Df):Prop:=dl.length<=8/\∀d∈dl,LN d/\d.2.2.depth<n
meta def Ep(K:bN)(n:Nat):Sp:=λl H Q _=>∃(v:V) (d:Kl) (e:Yi Df),l=[v]/\Rp K H (.t [.t (d.map jo),.t (e.map lB)]) v/\xY d/\Mt n e/\∀j g,aR H g->nu g (cz d e) j->Q j g
meta def om(kl:Kl)(ds:Yi (Yg×Nat))(gs:Yi Int)(d:Df)(r:Yi Df):Except Flt (Yi Int)->Option Flt
 |.error f=>Yb f
 |.ok os'=>match sH kl ds gs (d.2.1.map (·.1)) d.2.2 with
  |.error f=>Yb f
  |.ok gs'=>jq kl (ds++[(d.1,d.2.1.length)]) gs' os' r
def wD {dl:Yi Df}(h:dl[i]?=Yb d):jq kl ds gs e (dl.drop i)=if d.1∈ds.map (·.1)then Yb (.tw,d.1)else om kl ds gs d (dl.drop (i+1)) (cV (kl.map (·.1)) [] e d.2.1):=by
 rw[wC h]
 by_cases c:d.1∈ds.map (·.1)
 .rw[if_pos c,if_pos c]
 .rw[if_neg c,if_neg c]
  cases cV (kl.map (·.1)) [] e d.2.1 with
  |error f=>rfl
  |ok os' =>
   unfold om;dsimp only;rw[JW d.2.2 gs (gm [] (d.2.1.map (·.1))) (d.2.1.map (·.1)) (λx=>by rw[uP];calc#[λh=>h.elim nofun id,.inr])]
   first|done|rfl
inductive JY(H0:Hp) (S:mY) (kl:Kl) (dl:Yi Df) (i:Nat) (v:V) (H:Hp):Prop
 |bad (f:Flt):cz kl dl=Yb f->sU H0 S i H->nu H (Yb f) v->JY H0 S kl dl i v H
 |good (ds:Yi (Yg×Nat)) (gs os:Yi Int):v=.eR->eL H0 S kl (sr kl) ds gs os H->ds.length<=i->gs.length<=80*i->os.length<=10*i->(jg kl).Nodup->cz kl dl=jq kl ds gs os (dl.drop i)->JY H0 S kl dl i v H
inductive LP(H0:Hp) (S:mY) (kl:Kl) (dl:Yi Df) (i:Nat) (d:Df) (l:Option Yh) (j:Nat) (v:V) (H:Hp):Prop
 |bad (f:Flt) (p:Yh):cz kl dl=Yb f->sU H0 S i H->v=.ref p->H p=Yb (.Y [.str (JP f.1),.str f.2])->l≠Yb p->LP H0 S kl dl i d l j v H
 |good (ds:Yi (Yg×Nat)) (gs os:Yi Int):v=.eR->eL H0 S kl (sr kl) ds gs os H->ds.length<=i->gs.length<=80*i->os.length<=10*i+j->(jg kl).Nodup->d.1∉ds.map (·.1)->(∀a,l=Yb a->∃ds' gs' os' HB,eL H0 S kl (sr kl) ds' gs' os' HB/\HB a=Yc)->cz kl dl=om kl ds gs d (dl.drop (i+1)) (cV (kl.map (·.1)) ((d.2.1.take j).map (·.1)) os (d.2.1.drop j))->LP H0 S kl dl i d l j v H
structure Nr(H0:Hp) (S:mY) (kl:Kl) (dl:Yi Df) (i:Nat) (H2:Hp) (fv:V) (H3:Hp):Prop where
 k:Kt H2 H3
 s:JY H0 S kl dl i fv H3
structure M7(H0:Hp) (S:mY) (kl:Kl) (dl:Yi Df) (i:Nat) (d:Df) (l:Yh) (q:Nat) (H2:Hp) (fv:V) (H3:Hp):Prop where
 k:Kt H2 H3
 h:H3 l=Yb (.Y (((d.2.1.take q).map (·.1)).map V.str))
 s:LP H0 S kl dl i d (Yb l) q fv H3
def Cq (h:fM g e k=.ok d):d.length<=e.length+1:=by
 unfold fM at h
 split at h
 .split at h
  .cases h;exact Pc _
  .cases h
 .split at h
  .cases h
  .cases h
   rw[mu];exact i5 _
 .cases h;calc Pc _
def sU.other {n:Nat}(h:sU d S n H)(e:d b=Yc)(l:H b=Yb (.Y xs))(o:HO):sU d S n (upd H b o):=by
 let(m,j,p):=h.hd;let g:∀{c:Yh}{u:Yi (Key×V)},H c=Yb (.dK u)->c≠b:=λq z=>by rw[z,l]at q;cases q
 calc#[h.n,h.sm.oR e o,by rw[ay (g h.sd)];calc h.sd,m,by rw[ay (g j)];calc j,p]
def Es {kvs:Yi (Key×V)}:(putK kvs k v).length<=kvs.length+1:=by
 unfold putK
 split
 .rw[bM];exact Pc _
 .rw[mu];exact i5 _
@[irreducible] noncomputable def Et:Stmt:=(bx dh).getD 4 (.Pass #[0,0,0,0])
@[irreducible] noncomputable def Eu:Stmt:=(bx dh).getD 5 (.Pass #[0,0,0,0])
@[irreducible] noncomputable def GY:Yi Expr:=match(bx dh).getD 4 (.Pass #[0,0,0,0])with
 |.Assign _ (.List es _) _=>es
 |_=>[]
@[irreducible] noncomputable def GZ:Yi Expr:=match(bx dh).getD 5 (.Pass #[0,0,0,0])with
 |.Assign _ (.BinOp _ _ (.List es _) _) _=>es
 |_=>[]
@[irreducible] noncomputable def posK (i:Nat):Pos:=match(bx dh).getD 4 (.Pass #[0,0,0,0]),(bx dh).getD 5 (.Pass #[0,0,0,0])with
 |.Assign [.Name _ a] (.List _ b) c,.Assign [.Name _ d] (.BinOp (.Name _ e) _ (.List _ f) g) h=>[a,b,c,d,e,f,g,h].getD i a
 |_,_=>#[0,0,0,0]
meta def A9:Yi Yg:=["num","row","kind","def","more","first","others","long","match","if","let","fold","call"]
meta def Ba:Yi Yg:=["gap","in","world","fault","left"]
def G0 :Et=.Assign [.Name "_law_kept" (posK 0)] (.List GY (posK 1)) (posK 2):=by unfold Et GY posK;kernel_rfl
def G1 :Eu=.Assign [.Name "_law_kept" (posK 3)] (.BinOp (.Name "_law_kept" (posK 4)) .Add (.List GZ (posK 5)) (posK 6)) (posK 7):=by unfold Eu GZ posK;kernel_rfl
def Ox :strsOf GY=Yb A9:=by unfold GY;kernel_rfl
def Oz :strsOf GZ=Yb Ba:=by unfold GZ;kernel_rfl
def Ah :bx dh=(bx dh).take 4++(Et::Eu::(bx dh).drop 6):=by unfold Et Eu;kernel_rfl
def LQ (hn:X.N.Nodup)(d:Lm X.N X.env.scope)(g:X.N[7]?=Yb ("_law_kept":Yg))(e:X.fn "_law_kept"=Yd):PS X Et (wM (Ji (Di A9)) (iJ 7)):=by
 rw[G0];calc sa hn d 7 (dH (AH Ox)) g rfl (.inl e)
def LS (hn:X.N.Nodup)(g:Lm X.N X.env.scope)(e:Nm X.N X.env.scope)(d:X.N[7]?=Yb ("_law_kept":Yg))(j:X.fn "_law_kept"=Yd):PS X Eu (wM (BB Lp (jt 7) (Ji (Di Ba))) (iJ 7)):=by
 rw[G1];calc sa hn g 7 (bU iW (va e 7 d) (dH (AH Oz))) d rfl (.inl j)
def JZ (xs:List d)(a b:d):dZ (xs++[a,b]) (-2)=Yb a:=by
 unfold dZ zJ;let l:(xs++[a,b]).length=xs.length+2:=by simp
 rw[l,if_neg (by decide),if_pos ()];let e:(-2+((xs.length+2:Nat):Int)).toNat=xs.length:=()
 rw[Q3,e];simp
def J0 (n m:Nat)(h:n=m+1):zJ n (-1)=Yb m:=by
 unfold zJ;rw[if_neg (by decide),if_pos ()]
 congr 1
 omega
def bj :Nm WT (ak dh):=by decide
def fV :Lm WT (ak dh):=by decide
def eM :aY WT WQ (ak dh):=by ac_rfl
def Ew (F:jn K "_law_names" "_law_names" dh f fd)(TK:Za "_law_take" 1 WQ cU gT tfd)(z_range:mg "range"=Yc)(L:mg "len"=Yc)(ab:mg "int"=Yc):
  Zt gz 2 f fd WQ A8:=by
 refine F.ok eM (λvs H Q E h=>?_) (λcdv A outer s H vs Q E hr h=>?_)
 .have(v,tm,rfl,_):=h;rfl
 let(r,m,rfl,m1,m2,hf,k):=h;rw[Ah];refine#[_,(Z5 (sa eM.nd fV 2 aD) (Z5 (Z4 eM.nd fV 3 (@yk _ _ _ _ _ _ _ _ _ _ _ _ PySem.F.plainAttrs_str PySem.F.slot_str_join PySem.F.type_str_join FL aD (Z1 (Ze (ak dh) WT ["_law_k"] [0,2] (Zr (Z1 (Z0 TK (di (va bj 0) (Zc aB))) aA)) (λ_ _ _ _=>(Zx XH 0)) (λ_ _ _ _=>(Zh wR (Zw XH 2) (Z0 TK (di (Zw XH 1) (Zc aB)))))) aA) (by kernel_rfl) (by kernel_rfl) (by kernel_rfl) (by kernel_rfl) (by kernel_rfl))) (Z5 (@CP _ _ (4) (5) _ _ _ _ _ _ _ _ _ _ _ rfl eM.nd rfl rfl (by decide) rfl rfl (Z1 (Z0 TK (di (va bj 0) (Zc aB))) (Z1 (Z0 TK (Z1 (va bj 0) (Z1 (Zm eg (Z2 qi L OS (Zc (va bj 3))) aB) aA))) aA)) (by rfl) (by rfl)) (Z5 (Z4 eM.nd fV 6 (Z0 TK (di (va bj 0) (Zc aB)))) (Z5 (LQ eM.nd fV rfl rfl) (Z5 (LS eM.nd fV bj rfl rfl) (Z5 (sa eM.nd fV 8 (dH aA)) (Z5 (Zj O8 (Zr (Zc (va bj 1))) (ga eM.nd fV 9) (Z5 (Z4 eM.nd fV 10 (Zh wR (va bj 2) (Zm gE (Zm eg (va bj 4) (bU kY aB (va bj 9))) aB))) (Z5 (Z4 eM.nd fV 11 (Zm lY (Zm lY (@b6 _ _ _ _ _ _ _ _ _ _ Dh (va bj 3) cQ (bZ (va bj 5))) (va bj 10)) (@b6 _ _ _ _ _ _ _ _ _ _ Dh (va bj 3) (bZ (va bj 5)) (@bZ _ _ _ (Zm gE (bU eg (va bj 6) (va bj 9)) aB))))) (Zd (Zo (Z7 (va bj 8) (Z1 (Zm lY (va bj 11) (Zm zP aD (Z9 iM ab P8 (Z1 (jA eB (va bj 11) (va bj 7) (by rfl')) aA)))) aA))))))) (Z5 (Z8 (PW.pt (@ir _ _ _ _ _ _ _ (Zn rM (va bj 1) aB) (@ir _ _ _ _ _ _ _ (Zg oV (Z2 qi L OS (Z1 (jD aZ (va bj 8) (kQ iV aB) (λ_ _=>rfl)) aA)) aB (bz _)) (@fQ _ _ _ _ (Zg bO (Z0 TK (di (va bj 0) (Zc aB))) aB (bz _)))))) (Zd (@iD _ _ _ _ _ _ (Zm lY (jD aZ (va bj 8) (kQ iV aB) (λ_ _=>rfl)) aD) (pH (va bj 8) (kQ iV aB) set_list) (by rfl) (by rfl) (by rfl)))) (Zd (cS (va bj 8)))))))))))),?_]
 right
 calc#[rfl,_,rfl,r,5,rfl,by decide,by decide,hf,λq H2 q0 q6 e2=>?_];calc#[_,rfl,(),(),?_];let n7:(q:Int).toNat<=4:=()
 refine mw (n:=q.toNat) (λi σ vs Hc=>(∃v,σ=[v,Yb (.ref r),Yb (.str "abcdefghijklmnopqrstuvwxyz")])/\Ext r H2 Hc/\∃J:Yi Nat,vs=(J.map λc=>(⟨#[c]⟩:Yg)).map V.str/\J.length=i/\∀c∈J,c<1000)
  #[#[Yc,rfl],Ext.refl e2.2,[],rfl,rfl,λ_ h=>nomatch h] (λi σ vs Hc _ ⟨_,_,J,e,el,_⟩=>by rw[e,bM,bM];omega) (small ()) ?_ ?_
 .rintro i' σ vs Hc hi' ⟨⟨v,rfl⟩,ext,J,rfl,as,ah⟩;calc#[_,rfl,_,rfl,r,26,rfl,by decide,by decide,ext.2,λd H3 d0 d1 av=>?_];let(c,R,al):=atS (z:="abcdefghijklmnopqrstuvwxyz") d0 d1;calc#[_,d,c,rfl,rfl,(by decide),R,?_];exact#[#[_,rfl],ext.trans av,J++[c],by rw[i4,i4];rfl,by rw[mu,as];rfl,λc' h=>by rcases IF.mp h with h|h;calc ah c' h;rw[tF.mp h];calc A7 c al]
 rintro σ vs Hc ⟨⟨v,rfl⟩,ext,J,rfl,as,ah⟩ p hp;refine#[_,p,_,rfl,rfl,bA.of af,?_,?_]
 .have z:(PM "").length=0:=by decide
  rw[Dp,z];omega
 rw[FZ];let ad:Ext r H (upd Hc p (.Y ((J.map λc=>(⟨#[c]⟩:Yg)).map V.str))):=(e2.trans ext).new hp _;let ly:(⟨J.toArray⟩:Yg).length<=4:=by rw[Jx];omega
 let hy:Lo ⟨J.toArray⟩:=λc h=>ah c (by simpa using h);generalize upd Hc p (.Y ((J.map λc=>(⟨#[c]⟩:Yg)).map V.str))=H4 at ad|-;generalize(⟨J.toArray⟩:Yg)=y at ly hy|-;calc#[_,rfl,r,26,rfl,by decide,by decide,ad.2,λd1 H5 b1 c1 e5=>?_];calc#[_,rfl,_,rfl,_,rfl,small (),_,_,rfl,rfl,r,_,rfl,(),(),e5.2,λB H6 b2 c2 e6=>?_];calc#[_,_,rfl,?_];calc#[_,rfl,r,5,rfl,by decide,by decide,e6.2,λd3 H7 b3 c3 e7=>?_];let x7:Ext r H H7:=ad.trans (e5.trans (e6.trans e7));let a0:A9.length<=100:=by decide
 let az:Ba.length<=100:=by decide
 calc#[by rw[bM];calc small (),λp8 a1=>?_];calc#[_,rfl,by rw[bM];calc small (),λp9 Z=>?_];generalize A9=ks1 at a0 Z|-;generalize Ba=ks2 at az Z|-;calc#[p8,p9,_,_,rfl,rfl,(ae Z _) _ _ af,af,by rw[bM,bM];calc small (),λg ap=>?_];let T:Ext r H (upd (upd (upd H7 p8 (.Y (ks1.map V.str))) p9 (.Y (ks2.map V.str))) g (.Y (ks1.map V.str++ks2.map V.str))):=((x7.new a1 _).new Z _).new ap _;let am:upd (upd (upd H7 p8 (.Y (ks1.map V.str))) p9 (.Y (ks2.map V.str))) g (.Y (ks1.map V.str++ks2.map V.str)) g=Yb (.Y ((ks1++ks2).map V.str)):=by rw[af,i4]
 generalize upd (upd (upd H7 p8 (.Y (ks1.map V.str))) p9 (.Y (ks2.map V.str))) g (.Y (ks1.map V.str++ks2.map V.str))=H10 at T am|-;calc#[ON _,λl hl=>?_];let aj:H l=Yc:=Ext.free T hl;let ac:l≠r:=λz=>by subst z;let(a,b,z):=T.2;rw[hl]at z;cases z
 let an:g≠l:=au am hl;let ax:Ext r H (upd H10 l (.Y [])):=T.new hl _;refine#[_,rfl,_,rfl,(),(),?_]
 refine ju (n:=m) (λi σ Hi=>∃(I:Yi Yg) (v9 W U:Option V),σ=[Yb (.ref r),Yb (.int m),Yb (.str "abcdefghijklmnopqrstuvwxyz"),Yb (.str y),Yb (.int d1),Yb (.int B),Yb (.int d3),Yb (.ref g),Yb (.ref l),v9,W,U]/\I.length=i/\((∀x∈I,x.length<=10)/\(∀x∈I,Lo x)/\∀j x,I[j]?=Yb x->u7 (QC y Yc (Yb B)).cps.toList d1 j x)/\Hi l=Yb (.Y (I.map V.str))/\Hi g=Yb (.Y ((ks1++ks2).map V.str))/\Ext r H Hi)
  #[[],Yc,Yc,Yc,rfl,rfl,#[(λ_ h=>nomatch h),(λ_ h=>nomatch h),(λj x h=>by simp at h)],af,by rw[ay an];calc am,ax] ?_ ?_
 .rintro i σ Hi hi ⟨I,v9,W,U,rfl,t,⟨Y,O,aa⟩,D,ag,xi⟩;let hm:0<=(d1+7*(0+(i:Int))) % 26/\(d1+7*(0+(i:Int))) % 26<26:=()
  let(c,R,al):=atS (z:="abcdefghijklmnopqrstuvwxyz") (r:=(d1+7*(0+(i:Int))) % 26) hm.1 hm.2;calc#[_,rfl,_,rfl,_,rfl,_,_,rfl,rfl,.inl #[by decide,by decide],_,_,rfl,rfl,_,_,rfl,rfl,(by show(0:Int)<26;decide),_,_,c,rfl,rfl,(by decide),R,?_];let la:=V4 y Yc (Yb B);let lb:=V4 y (Yb B) (Yb ((d3+(0+(i:Int))) % 5));calc#[_,rfl,_,rfl,_,rfl,_,rfl,small (),_,rfl,_,_,rfl,rfl,small (by show _+1<=1000;omega),?_];calc#[_,rfl,_,rfl,_,rfl,_,rfl,_,rfl,_,_,rfl,rfl,_,_,rfl,rfl,(by show(0:Int)<5;decide),_,rfl,_,rfl,small (),?_];let lc:(QC y Yc (Yb B)++(⟨#[c]⟩:Yg)).length=(QC y Yc (Yb B)).length+1:=by rw[Tc];rfl
  calc#[_,_,rfl,rfl,small (),?_];let ln:(QC y Yc (Yb B)++(⟨#[c]⟩:Yg)++QC y (Yb B) (Yb ((d3+(0+(i:Int))) % 5))).length<=9:=by rw[Tc];omega
  let ar:Lo (QC y Yc (Yb B)++(⟨#[c]⟩:Yg)++QC y (Yb B) (Yb ((d3+(0+(i:Int))) % 5))):=((hy.slice _ _).append (Lo.one al)).append (hy.slice _ _)
  let aq:u7 (QC y Yc (Yb B)).cps.toList d1 i (QC y Yc (Yb B)++(⟨#[c]⟩:Yg)++QC y (Yb B) (Yb ((d3+(0+(i:Int))) % 5))):=by
   refine u7.snoc #[c,[],?_,?_] _
   .rw[SO]at R;exact R
   .show((QC y Yc (Yb B)).cps++#[c]).toList=_;rw[Tz]
  generalize QC y Yc (Yb B)++(⟨#[c]⟩:Yg)++QC y (Yb B) (Yb ((d3+(0+(i:Int))) % 5))=nm at ln aq ar|-;calc#[_,rfl,.inl #[rfl,_,bA.of D],_,rfl,_,rfl,_,rfl,g,_,rfl,.inl (bA.of ag),rfl,iP _,.inr #[_,rfl,?_]];generalize nh (V.str nm) ((ks1++ks2).map V.str)=b;let ao:(PM "q").length=1:=by decide
  let lq:(Uu (PM "q") (if b=Yd then 1 else 0)).length<=1:=by let:=Lv b "q";rw[ao]at this;exact this
  let a3:(Uu (PM "q") (if(if Ye=Yd then !b else b)=Yd then 1 else 0)).length<=1:=lq;refine#[_,_,rfl,rfl,by split<;>omega,by split<;>omega,?_,?_]
  .rw[ao];exact small (by cases b<;>decide)
  calc#[_,_,rfl,rfl,small (),?_];calc#[l,_,_,rfl,rfl,D,by rw[bM];calc aV (),?_];refine#[I++[nm++Uu "q" (if b then 1 else 0)],_,_,_,rfl,by rw[mu,t];rfl,#[λx C=>?_,λx C=>?_,λj x C=>?_],by rw[af,i4];rfl,by rw[ay an];calc ag,?_]
  .rcases IF.mp C with h|h
   .exact Y x h
   .rw[tF.mp h,Tc];omega
  .rcases IF.mp C with h|h
   .exact O x h
   .rw[tF.mp h];exact ar.append (Lo.q b)
  .by_cases cj:j<I.length
   .rw[Px cj]at C;exact aa j x C
   .have hj:j=i:=by let:=(bH.mp C).1;rw[mu]at this;simp at this;omega
    subst hj;rw[Ph (),t,Va]at C;simp at C;rw[<-C];exact aq.snoc _
  .refine#[λb o nb e=>?_,?_]
   .rw[ay (au e aj)];exact xi.1 b o nb e
   .have(a,b,z):=xi.2;exact#[a,b,by rw[ay ac.symm];calc z]
 .rintro σ Hi ⟨I,v9,W,U,rfl,t,⟨Y,O,aa⟩,D,ag,xi⟩;let fin:∀(Hf:Hp) (G:Yi Yg),Ext r H Hf->Hf l=Yb (.Y (G.map V.str))->G.length=m->(∀x∈G,x.length<=20/\Lo x)->Un G->Q (.ref l) Hf:=λHf G a b c d=>k l Hf G a aj b c d;let X:∀{Hf:Hp}(G:Yi Yg),Ext r H Hf->Hf l=Yb (.Y (G.map V.str))->G.length=m->(∀x∈G,x.length<=20/\Lo x)->Un G->IU (jt 8) {nx:=λ_ H'=>Q .eR H',rt:=Q} [Yb (.ref r),Yb (.int m),Yb (.str "abcdefghijklmnopqrstuvwxyz"),Yb (.str y),Yb (.int d1),Yb (.int B),Yb (.int d3),Yb (.ref g),Yb (.ref l),v9,W,U] Hf:=λG a b c d u=>#[_,rfl,fin _ G a b c d u];let un:Un I:=u7.Ow () aa;let S:∀x∈I,x.length<=20/\Lo x:=λx C=>#[OX (Y x C) (by decide),O x C];refine#[_,rfl,_,_,rfl,rfl,_,rfl,bP (λc=>?_) (λc=>?_)]
  .have c1:1<m:=by let z:(1:Int)<(m:Int):=of_decide_eq_true c;omega
   obtain⟨M,N,x1,rfl⟩:∃M N x1,I=M++[N,x1]:=by
    rcases Rc I with rfl|⟨a,x1,rfl⟩
    .simp at t;omega
    rcases Rc a with rfl|⟨b,N,rfl⟩
    .simp at t;omega
    exact#[b,N,x1,by simp]
   let l2:N.length<=10:=Y N (by simp);let a2:dZ ((M++[N,x1]).map V.str) (-2)=Yb (.str N):=by rw[i4];exact JZ _ _ _
   refine#[_,rfl,_,rfl,l,_,_,_,rfl,rfl,bA.of D,a2,_,rfl,small (),_,_,rfl,rfl,_,rfl,bP (λc=>?_) (λc=>?_)]
   .refine#[_,rfl,r,4,rfl,by decide,by decide,xi.2,λd4 a4 _ _ aw=>?_];let xj:=xi.trans aw;let ai:=aw.1 l _ ac D;refine#[rfl,_,rfl,bP (λc=>?_) (λc=>?_)]
    .refine#[_,rfl,_,rfl,l,_,_,_,rfl,rfl,bA.of ai,a2,_,_,rfl,rfl,small (by show _+1<=1000;omega),?_];refine#[_,rfl,_,rfl,l,_,_,M.length+1,rfl,rfl,ai,?_,?_]
     .exact J0 _ _ (by simp)
     refine X (M++[N,N++PM "q"]) ?_ ?_ ?_ ?_ (u7.last () (by decide) aa)
     .refine#[λb o nb e=>?_,?_]
      .rw[ay (au e aj)];exact xj.1 b o nb e
      .have(a,b,z):=xj.2;exact#[a,b,by rw[ay ac.symm];calc z]
     .rw[af];simp
     .rw[<-t];simp
     .intro x C;simp at C;rcases C with h|rfl|rfl
      .exact S x (by simp[h])
      .exact#[(),O _ (by simp)]
      .refine#[?_,(O N (by simp)).append Lo.q1];rw[Tc];let:(PM "q").length=1:=by decide
       omega
    .exact X _ xj ai t S un
   .exact X _ xi D t S un
  .exact X _ xi D t S un
def Bb {xs:Yi Yg}(d:dc H f)(h:H l=Yb (.Y (xs.map V.str))):l≠f:=λz=>by
 let(p,q,e):=d;rw[<-z,h]at e;injection e with e;injection e with e
 cases xs with
 |nil=>cases e
 |cons y ys=>rw[OQ]at e;injection e with e;cases e
theorem Kk.kX :∀{k:Kk},k.ok xs↔k.core.ok xs
 |.num=>Iff.rfl
 |.kd _=>Iff.rfl
 |.op _=>Iff.rfl
 |.row k=>Kk.kX (k:=k)
meta def G4(ah:Yi Yg)(e:Yi Int)(k:Kk)(d:Yi Int):Prop:=(d=e/\k.ok ah)\/∃o g,e=g++[o]/\e.length<4/\k.core=.op ((o+7) % 100)/\d=e++[(o+7) % 100]
meta def mL(K:bN):Sp:=λo H Q _=>∃(f m e:Yh) (l:Yi Yg) (j:Yi Int),o=[.ref f,.ref m,.ref e]/\dc H f/\H m=Yb (.Y (l.map V.str))/\l.length<=100/\H e=Yb (.Y (j.map V.int))/\e≠f/\j.length<=100 /\
 ∀(v:V) (g:Hp) (k:Kk) (d:Yi Int),dR [e] f H g->g e=Yb (.Y (d.map V.int))->Rp K g (mX k) v->G4 l j k d->Q v g
def bC :Nm W7 (ak dJ):=by decide
def eX :Lm W7 (ak dJ):=by decide
def dY :aY W7 W4 (ak dJ):=by ac_rfl
def G7 {P:we}{w:OR}{K:bN}{mg:Yg->Option eF}{base:Heap}{gT:Yh}{tfd:EF}{f:Yh}{cdv:eF}{A:OW}{outer:Yi Qp}{s:fy}{L:Hp}{E:XK}(W:Za "_law_take" 1 WQ cU gT tfd)(z_range:mg "range"=Yc)(hr:dU 1 (A.deeper (OV "_law_named_kind" (ak dJ) s⁻¹ f cdv))){D:L2.Ends}{H:Hp}{fe:Yh}{v:V}{k0:Kk}{o1 o2 o3 u:Option V}(hf:dc H fe)(r:Rp K H (mX k0) v)(k:∀e B d,Ext fe H B->Rp K B (mX d) e->d.core=k0.core->D.rt e B):
  jL (Zl gz W7 "_law_named_kind" (ak dJ) L).pB ((bx dJ).drop 4) D [Yb (.ref fe),o1,o2,o3,Yb v,u] H:=by
 refine fg ((Z5 (Zj O8 (Zr (Z1 (Zh aZ (Zq (Z1 aB (Z1 aB (di aB (Zc aB))))) (Z0 W (di (va bC 0) (Zc aB)))) aA)) (ga dY.nd eX 5) (Zd (Z4 dY.nd eX 4 (Zk (Z1 aD (Zc (va bC 4))))))) (Zd (cS (va bC 4))))) ?_
 right
 ext;calc nw λl L G U S=>?_;let T:=hf.Z G;let N:=bB hf S;ext m J Q O C;let Y:bA K J l [.int 0,.int 0,.int 1,.int 2]:=bA.of (C.1 _ _ N U);let g:Ext fe H J:=((Ext.refl hf).Z G).trans C;let(z,X,j):=pQ (xs:=[V.int 0,.int 0,.int 1,.int 2]) (k:=m) Q O
 obtain⟨n,rfl,R⟩:∃n:Nat,z=.int n/\n<=2:=by
  simp only[L0,O3,or_false]at j;rcases j with rfl|rfl|rfl|rfl
  .exact#[0,rfl,()]
  .exact#[0,rfl,()]
  .exact#[1,rfl,()]
  .exact#[2,rfl,()]
 ext;refine ju (n:=n) (λi q o=>∃e d u,q=[Yb (.ref fe),o1,o2,o3,Yb e,u]/\(Ext fe H o/\Rp K o (mX d) e/\d.core=k0.core)) #[v,k0,_,rfl,g,r.kt (g.kt hf),rfl] ?_ ?_
 .rintro i q o hi ⟨e,d,_,rfl,t,r3,y⟩;ext p I;let M:=ae I (.J [.str "row",e]);exact#[_,.row d,_,rfl,t.Z M,Rp.new (K:=K) I (.cons .s (.one r3)),y]
 .rintro q o ⟨e,d,_,rfl,t,r3,y⟩;ext;calc k _ _ d t r3 y
def Ex (F:jn K "_law_named_kind" "_law_named_kind" dJ f fd)(TK:Za "_law_take" 1 WQ cU gT tfd)(z_range:mg "range"=Yc)(d:mg "len"=Yc):Zt gz 2 f fd W4 (mL K):=by
 refine F.ok dY (λvs H Q E h=>?_) (λcdv A outer s H vs Q E hr h=>?_)
 .have(_,_,_,_,_,rfl,_):=h;rfl
 let(u,U,j,R,B,rfl,Z,J,ag,I,r,ac,k):=h;refine#[_,(Z5 (Z4 dY.nd eX 3 (Z0 TK (di (va bC 0) (Zc aB)))) (Z5 (sa dY.nd eX 4 aD) (Z5 (Z8 (PW.pt (@ir _ _ _ _ _ _ _ (Zn bO (va bC 3) aB) (@fQ _ _ _ _ (Zg rM (Z2 aM d OS (Zc (va bC 1))) aB (bz _))))) (Zd (Z4 dY.nd eX 4 (Zk (Z1 aD (Z1 (Zh aZ (va bC 1) (Z0 TK (Z1 (va bC 0) (Z1 (Z2 aM d OS (Zc (va bC 1))) aA)))) aA)))))) (Z5 (Z8 (PW.pt (@ir _ _ _ _ _ _ _ (Zn bO (va bC 3) aB) (@fQ _ _ _ _ (@CV _ _ _ _ _ _ _ _ _ _ _ _ oV oV aB (Z2 aM d OS (Zc (va bC 2))) aB (by rfl'))))) (Z5 (Zo (Z7 (va bC 2) (Z1 (Zm gE (Zm eg (jD aZ (va bC 2) (kQ iV aB) (λ_ _=>rfl)) aB) aB) aA))) (Zd (Z4 dY.nd eX 4 (Zk (Z1 aD (Z1 (jD aZ (va bC 2) (kQ iV aB) (λ_ _=>rfl)) aA))))))) dz)))),?_]
 right
 calc um ?_;intro N1 N2 N3 N4 c1 c2 C N;let G:=Bb Z J;ext fm H1 an am y;let aj:=y.2;let aa:=y.1 _ _ G J;let ak:=y.1 _ _ r I;let f1:dR [j] u H H1:=Ext.uZ Z y
 let fin:∀{v:V}{e:Hp}{k0:Kk}{q:Yi Int}{D:Option V},dR [j] u H e->e j=Yb (.Y (q.map V.int))->Rp K e (mX k0) v->(∀g:Kk,g.core=k0.core->G4 R B g q)->N4 [Yb (.ref u),Yb (.ref U),Yb (.ref j),Yb (.int fm),Yb v,D] e:=λ{v e k0 q D} M h2 r2 ok=>by
  calc Cut.go N ?_;exact G7 TK z_range hr M.ff r2 λv' H' g x' r' m=>k v' H' g q (M.ext x') (x'.1 _ _ r h2) r' (ok g m)
 clear N
 let z:∀{v:V}{k0:Kk}{e:Hp}{D:Option V},Ext u H e->Rp K e (mX k0) v->(∀g:Kk,g.core=k0.core->g.ok R)->N3 [Yb (.ref u),Yb (.ref U),Yb (.ref j),Yb (.int fm),Yb v,D] e:=λ{v k0 e D} x2 r2 ok=>by
  let L:=x2.1 _ _ r I;let M:dR [j] u H e:=Ext.uZ Z x2;let same:N4 [Yb (.ref u),Yb (.ref U),Yb (.ref j),Yb (.int fm),Yb v,D] e:=fin M L r2 λg m=>.inl #[rfl,ok g m];let lm:(B.map V.int).length=B.length:=bM _;ext;refine bP (λc=>?_) (λc=>?_)
  .ext;refine bP (λC=>?_) (λC=>?_)
   .ext;refine bP (λN=>?_) (λN=>?_)
    .have O:(0:Int)<((B.map V.int).length:Int):=of_decide_eq_true C;let ao:((B.map V.int).length:Int)<4:=of_decide_eq_true N
     obtain⟨l,o,rfl⟩:∃l o,B=l++[o]:=by
      rcases Rc B with rfl|⟨a,b,rfl⟩
      .simp at O
      .exact#[a,b,S2]
     let al:dZ ((l++[o]).map V.int) (-1)=Yb (.int o):=by rw[i4];exact tQ _ _
     let ap:dZ ((l++[o]).map V.int++[.int ((o+7) % 100)]) (-1)=Yb (.int ((o+7) % 100)):=tQ _ _;let ll:((l++[o]).map V.int).length<lj:=aV ();let ab:bA K (upd e j (.Y ((l++[o]).map V.int++[.int ((o+7) % 100)]))) j ((l++[o]).map V.int++[.int ((o+7) % 100)]):=bA.of af;let f3:dR [j] u H (upd e j (.Y ((l++[o]).map V.int++[.int ((o+7) % 100)]))):=M.upd (tF.mpr rfl) r L;let h3:upd e j (.Y ((l++[o]).map V.int++[.int ((o+7) % 100)])) j=Yb (.Y ((l++[o]++[(o+7) % 100]).map V.int)):=by rw[af,i4 (l₁:=l++[o])];rfl
     ext p hp;let s4:=ae hp (.J [.str "open",.int ((o+7) % 100)]);exact fin (k0:=.op ((o+7) % 100)) (f3.Z s4) (s4 _ _ h3) (Rp.new (K:=K) hp (.cons .s (.one .i))) λg m=>.inr #[o,l,rfl,(),m,rfl]
    .ext;exact same
   .ext;exact same
  .ext;exact same
 clear C;ext;refine bP (λc=>?_) (λc=>?_)
 .ext;refine bP (λC=>?_) (λC=>?_)
  .have O:(0:Int)<((R.map V.str).length:Int):=of_decide_eq_true C;let ad:((R.map V.str).length:Int)<1073741824:=by rw[bM];omega
   ext r5 H5 T S x5;let h5:=x5.1 _ _ G aa;let(v5,ai,Y):=pQ (xs:=R.map V.str) T S;let(y5,W,rfl):=O2.mp Y;ext p6 X;let s6:=ae X (.J [.str "kind",.str y5]);exact z (k0:=.kd y5) (y.trans (x5.Z s6)) (Rp.t (bY.of af) (.cons .s (.one .s))) (λg m=>by rw[Kk.kX,m];calc W)
  .ext;exact z (k0:=.num) y .s (λg m=>by rw[Kk.kX,m];calc True.intro)
 .ext;calc z (k0:=.num) y .s (λg m=>by rw[Kk.kX,m];calc True.intro)
meta def LU(xs:Yi Yg)(t:Yg×Yi Kk):Prop:=t.2.length<=2/\∀c∈t.2,c.ok xs
structure Cr(xs:Yi Yg) (kl:Kl):Prop where
 nm:kl.map (·.1)=xs.take kl.length
 tg:jg kl=(xs.drop 3).take (jg kl).length
 pt:∀i k,kl[i]?=Yb k->1<=k.2.length/\k.2.length<=3/\∀t∈k.2,LU (xs.take i) t
meta def Bc(K:bN):Sp:=λl H Q _=>∃(f j:Yh) (d:Yi Yg),l=[.ref f,.ref j]/\dc H f/\H j=Yb (.Y (d.map V.str))/\d.length=24 /\
 ∀(v:V) (g:Hp) (e:Kl),Ext f H g->Cr d e->e.length<=3->Rp K g (.t (e.map jo)) v->Q v g
structure OA(K:bN) (f lf:Yh) (xs:Yi Yg) (H:Hp) (i:Nat) (at_:Int) (H':Hp):Prop where
 x:∃(kl:Kl) (vs:Yi V),dR [] f H H'/\H' lf=Yb (.Y vs)/\bR K H' (kl.map jo) vs/\kl.length=i/\Cr xs kl/\at_=3+(jg kl).length/\(jg kl).length<=3*i
structure HJ(K:bN) (f lo:Yh) (xs:Yi Yg) (H:Hp) (i KP j:Nat) (at_:Int) (H':Hp):Prop where
 x:∃(own:Yi (Yg×Yi Kk)) (us:Yi V),dR [lo] f H H'/\H' lo=Yb (.Y us)/\bR K H' (own.map qA) us/\own.length=j/\own.map (·.1)=((xs.drop 3).drop KP).take j/\(∀t∈own,LU (xs.take i) t)/\at_=3+KP+j
structure HP(K:bN) (f:Yh) (xs:Yi Yg) (H:Hp) (i:Nat) (us:Yi V) (H':Hp):Prop where
 x:∃(ps:Yi Kk),dR [] f H H'/\bR K H' (ps.map mX) us/\ps.length=i/\∀c∈ps,c.ok xs
def dm :Nm W0 (ak j6):=by decide
def iG :Lm W0 (ak j6):=by decide
def ig :aY W0 XJ (ak j6):=by ac_rfl
def Ey (F:jn K "_law_heads" "_law_heads" j6 f fd)(TK:Za "_law_take" 1 WQ cU gT tfd)(bb:Za "_law_named_kind" 2 W4 (mL K) gA afd)(z_range:mg "range"=Yc)(g:mg "tuple"=Yc):Zt gz 3 f fd XJ (Bc K):=by
 refine F.ok ig (λvs H Q E h=>?_) (λcdv A outer s H vs Q E hr h=>?_)
 .have(_,_,_,rfl,_):=h;rfl
 let(R,ln,xs,rfl,hf,hn,hx,k):=h;refine#[_,(Z5 (sa ig.nd iG 2 (dH aA)) (Z5 (sa ig.nd iG 3 aB) (Z5 (Zj O8 (Zr (Z1 (Z0 TK (di (va dm 0) (Zc aB))) aA)) (ga ig.nd iG 4) (Z5 (sa ig.nd iG 5 (dH aA)) (Z5 (Zj O8 (Zr (Z1 (Zm eg aB (Z0 TK (di (va dm 0) (Zc aB)))) aA)) (ga ig.nd iG 6) (Z5 (@nL _ _ _ _ _ _ _ _ _ _ _ _ _ _ _ (ak j6) W0 ["_law_i"] [0,1,4] rfl rfl rfl (by decide) (Zr (Z1 (Z0 TK (di (va dm 0) (Zc aB))) aA)) (λ_ _ _ _=>(Zx Xk 0)) (λ_ _ _ _=>fZ) (λ_ _ _ _=>(Z0 bb (Z1 (Zw Xk 1) (Z1 (@b6 _ _ _ _ _ _ _ _ _ _ (Dn K rfl) (Zw Xk 2) cQ (bZ (Zw Xk 3))) (Zc (dH aA)))))) (ga ig.nd iG 7) (by kernel_rfl) (by intro _;rfl)) (Z5 (Zo (Z7 (va dm 5) (Z1 (Zk (Z1 (jD aZ (va dm 1) (va dm 3) (λ_ _=>rfl)) (Z1 (Z9 cg g Pf (Zc (va dm 7))) aA))) aA))) (Zd (Z4 ig.nd iG 3 (bU eg (va dm 3) aB)))))) (Zd (Zo (Z7 (va dm 2) (Z1 (Zk (Z1 (jD aZ (va dm 1) (va dm 4) (λ_ _=>rfl)) (Z1 (Z9 cg g Pf (Zc (va dm 5))) aA))) aA))))))) (Zd (Zp (Z9 cg g Pf (Zc (va dm 2)))))))),?_]
 right
 ext;calc nw λlf H1 s1 h1 ar=>?_;let f1:dR [] R H H1:=(dR.refl hf).Z s1;let bv:=f1.ff;ext m H2 m0 m1 x2;let f2:=f1.ext x2;let W:=bB hf ar;let h2:=x2.1 _ _ W h1;let B:=Bb hf hn;ext;refine ju (n:=m.toNat) (λi J H3=>(∃(C:Int) (y4 y5 y6 y7:Option V),J=[Yb (.ref R),Yb (.ref ln),Yb (.ref lf),Yb (.int C),y4,y5,y6,y7]/\G15.OA K R lf xs H i C H3)) #[3,_,_,_,_,rfl,#[[],[],f2,h2,.nil,rfl,#[rfl,rfl,λi k h=>by cases h],rfl,ON _]] ?_ ?_
 .rintro i J H3 hi ⟨C,_,_,_,_,rfl,⟨Z,vs,f3,h3,r3,lk,ok,ha,a6⟩⟩;let a3:=f3.ff;ext;calc nw λlo H4 s4 h4 X=>?_;let f4:=f3.Z s4;let a2:=f4.ff;ext m5 H5 bj bi x5;let f5:=f4.ext x5;let U:=bB a3 X;let ad:lf≠lo:=au h3 X;let h5:=x5.1 _ _ U h4;let a8:=x5.1 _ _ W (s4 _ _ h3);let r5:=(r3.Z s4).kt (x5.kt a2);let ai:=x5.1 _ _ B (s4 _ _ (f3.Dy B hn));let G:ln≠lo:=au (f3.Dy B hn) X;ext;refine ju (n:=(1+m5).toNat) (λj J H6=>(∃(C:Int) (y6 y7:Option V),J=[Yb (.ref R),Yb (.ref ln),Yb (.ref lf),Yb (.int C),Yb (.int (0+(i:Int))),Yb (.ref lo),y6,y7]/\HJ K R lo xs H5 i (jg Z).length j C H6)) #[C,_,_,rfl,#[[],[],dR.refl f5.ff,h5,.nil,rfl,rfl,λt h=>(nomatch h),()]] ?_ ?_
  .rintro j J H6 hj ⟨p,_,_,rfl,⟨own,S,f6,h6,r6,ah,ab,ac,a5⟩⟩;let a1:=f6.ff;ext m7 H7 bh bg x7;let f7:=f6.ext x7;ext;refine mw (n:=m7.toNat) (λi7 J S H8=>(∃y,J=[y,Yb (.ref R),Yb (.ref ln),Yb (.int (0+(i:Int)))])/\HP K R (xs.take i) H7 i7 S H8) #[#[_,rfl],#[[],dR.refl x7.2,.nil,rfl,λc h=>by cases h]] ?_ (small ()) ?_ ?_
   .rintro i7 J S H8 h ⟨_,⟨ps,_,r,e,_⟩⟩;rw[r.length,bM,e];exact i5 _
   .rintro i7 J us7 H8 hi7 ⟨⟨_,rfl⟩,⟨ps,f8,r8,l8,o8⟩⟩;let bp:H8 ln=Yb (.Y (xs.map V.str)):=f8.Dy B (f7.iT G B ai);let bt:=f8.ff;let e0:iE (xs.map V.str) Yc (Yb (0+(i:Int)))=(xs.take i).map V.str:=by rw[SO,gr,QY]
    ext;calc nw λl9 H9 s9 h9 br=>?_;rw[e0]at h9;let f9:=f8.Z s9;ext;calc nw λlq Hq sq ax aq=>?_;let hq:Hq lq=Yb (.Y (([]:Yi Int).map V.int)):=ax;let bn:=sq _ _ h9;let fq:=f9.Z sq;let bs:=fq.ff;let bf:lq≠R:=bB f9.ff aq;let bk:(xs.take i).length<=100:=by rw[x9];omega
    let l0:([]:Yi Int).length<=100:=ON _;ext be al ao bc aw _ D a0
    let am:ao.ok (xs.take i):=by
     rcases a0 with⟨_,z⟩|⟨o,ot,z,_⟩
     .exact z
     .cases ot<;>cases z
    let ba:dR [] R H7 al:=(fq.more.trans aw).drop (f9.free aq nofun)
    ext;exact#[ps++[ao],ba,by rw[i4];calc(((r8.Z s9).Z sq).kt aw.kt).snoc D,by rw[mu,l8];rfl,λc hc=>(IF.mp hc).elim (o8 c) (λh=>by rw[tF.mp h];calc am)]
   .rintro J us7 H8 ⟨⟨_,rfl⟩,⟨ps,f8,r8,l8,o8⟩⟩ p9 hp9;let s9:=ae hp9 (.Y us7);let h9:upd H8 p9 (.Y us7) p9=Yb (.Y us7):=af;let r9:=r8.Z s9;generalize upd H8 p9 (.Y us7)=H9 at s9 h9 r9|-;let f9:=f8.Z s9;let an:H9 lo=Yb (.Y S):=f9.Dy U (x7.1 _ _ U h6);let bm:S.length<lj:=aV (by rw[r6.length,bM];omega);let bo:H9 ln=Yb (.Y (xs.map V.str)):=f9.Dy B (f7.iT G B ai);let a4:p.toNat<xs.length:=()
    let av:dZ (xs.map V.str) p=Yb (.str xs[p.toNat]):=by
     let:=aF (xs:=xs.map V.str) (j:=p.toNat) (v:=.str xs[p.toNat]) (by rw[vv,my a4];rfl);rw[show((p.toNat:Nat):Int)=p by omega]at this;exact this
    ext;calc .inl #[bA.of h9,λT d=>?_];let q:=ae d (.J us7);let D:=Rp.new (K:=K) d r9;let N:=q _ _ an;generalize upd H9 T (.J us7)=al at q D N|-;ext;calc nw λL aj u I ap=>?_;let aa:=Rp.nw (K:=K) (xs:=[.s xs[p.toNat],.t (ps.map mX)]) I u (.cons .s (.one D));let M:=u _ _ N;let Y:=(f9.Z q).Z u;let a9:dR [lo] R H5 aj:=f7.trans Y.more;let O:=Kt.Y (l:=lo) M (.Y (S++[.ref L]));ext;refine#[own++[(xs[p.toNat],ps)],S++[.ref L],a9.upd (tF.mpr rfl) U M,af,?_,by rw[mu,ah];rfl,?_,λt hm=>(IF.mp hm).elim (ac t) (λh=>by rw[tF.mp h];calc#[by show ps.length<=2;omega,o8]),()]
    .rw[i4];exact(((r6.kt (x7.kt a1)).kt Y.kt).kt O).snoc (aa.kt O)
    .rw[i4,ab,i3 (by rw[P6,P6];omega),Wh,Wh];let ei:p.toNat=3+((jg Z).length+j):=()
     simp only[ei];rfl
  .rintro J H6 ⟨p,_,_,rfl,⟨own,S,f6,h6,r6,ah,ab,ac,a5⟩⟩;let a7:=f6.iT ad W a8;let az:=r5.kt f6.kt;let bq:H6 ln=Yb (.Y (xs.map V.str)):=f6.iT G B ai;let bl:vs.length<lj:=aV (by rw[r3.length,bM];omega);let as:i<xs.length:=()
   let av:dZ (xs.map V.str) (0+(i:Int))=Yb (.str xs[i]):=by
    rw[SO];exact aF (by rw[vv,my as];rfl)
   ext;calc .inl #[bA.of h6,λT d=>?_];let q:=ae d (.J S);let D:=Rp.new (K:=K) d r6;let N:=q _ _ a7;generalize upd H6 T (.J S)=al at q D N|-;ext;calc nw λL aj u I ap=>?_;let aa:=Rp.nw (K:=K) (xs:=[.s xs[i],.t (own.map qA)]) I u (.cons .s (.one D));let M:=u _ _ N;let Y:dR [] R H aj:=((f5.more.trans f6).drop (f3.free X nofun)).Z (q.trans u)
   let O:=Kt.Y (l:=lf) M (.Y (vs++[.ref L]));ext
   let et:jg (Z++[(xs[i],own)])=jg Z++own.map (·.1):=by
    unfold jg;rw[Pk];simp
   let ag:(own.map (·.1)).length=own.length:=bM _;refine#[Z++[(xs[i],own)],vs++[.ref L],Y.Gh ar W M,af,?_,by rw[mu,lk];rfl,#[?_,?_,?_],?_,?_]
   .rw[i4];exact((az.Z (q.trans u)).kt O).snoc (aa.kt O)
   .rw[i4,ok.nm,mu,lk,show [(xs[i],own)].length=1 from rfl,i3 as];rfl
   .rw[et,mu,ag,ab,ok.tg,x9,P6,Ri ()]
    conv=>lhs;rw[ah.symm]
    rw[List.take_add]
   .intro i' k' e'
    by_cases c:i' < Z.length
    .rw[Px c]at e';exact ok.pt i' k' e'
    .rw[Ph ()]at e'
     let:i'=i:=by
      let:=(bH.mp e').1;let:[(xs[i],own)].length=1:=rfl;omega
     subst this;rw[lk,Va]at e'
     cases e'
     exact#[by show 1<=own.length;omega,by show own.length<=3;omega,ac]
   .rw[et,mu,ag];omega
   .rw[et,mu,ag];omega
 .rintro J H3 ⟨C,_,_,_,_,rfl,⟨Z,vs,f3,h3,r3,lk,ok,ha,a6⟩⟩;ext;calc .inl #[bA.of h3,λT d=>?_];let q:=ae d (.J vs);calc k _ _ Z (f3.Z q).ex ok () (Rp.new (K:=K) d r3)
meta def Gd(kl:Kl)(ds:Yi (Yg×Nat))(ns:Yi Yg)(g g':Yi Int)(j:Tm):Prop:=∀e:Yi Int,(∀x∈e,x∈g)->∃d,sH kl ds e ns j=.ok d/\∀x∈d,x∈g'
meta def IG(kl:Kl)(ds:Yi (Yg×Nat))(ns:Yi Yg)(g g':Yi Int)(bs:Yi (Yi Yg))(ks:Yi Tm):Prop:=∀e:Yi Int,(∀x∈e,x∈g)->∃d,jM kl ds e ns bs ks=.ok d/\∀x∈d,x∈g'
def Bd :IG kl ds ns g g bs []:=λd h=>#[d,kI ..,h]
def Ez (h:Gd kl ds (ns++b) g g1 k)(hs:IG kl ds ns g1 g2 bs ks):IG kl ds ns g g2 (b::bs) (k::ks):=λo m=>by
 let(e,q,l):=h o m;let(d,p,j):=hs e l;calc#[d,by rw[iR,q];calc p,j]
def II (ht:∀d,eK kl ds d ns h ks.length=.ok d)(hs:IG kl ds ns g g' (bnd h ks.length) ks):Gd kl ds ns g g' (.mk h ks):=λd j=>by
 let(x,e,m):=hs d j;calc#[x,by rw[rG,ht d];calc e,m]
def Ka (h:n∉g):Gd kl ds ns g (g++[n]) (.mk (.gap n) []):=λd e=>by
 refine#[d++[n],?_,λx hx=>?_]
 .rw[rG]
  show(match(if n∈d then Except.error (Er.tw,("?":Yg))else .ok (d++[n]))with
   |.error f=>Except.error f
   |.ok gs'=>jM kl ds gs' ns (bnd (.gap n) 0) [])=_
  rw[if_neg (λz=>h (e n z))];exact kI ..
 .rcases IF.mp hx with hx|hx
  .exact IF.mpr (.inl (e x hx))
  .exact IF.mpr (.inr hx)
def Gd.wk (h:Gd kl ds ns g g1 d)(m:∀x∈g1,x∈g2):Gd kl ds ns g g2 d:=λo l=>by
 let(x,e,q):=h o l;calc#[x,e,λy j=>m y (q y j)]
def IG.wk (h:IG kl ds ns g g1 bs ks)(m:∀x∈g1,x∈g2):IG kl ds ns g g2 bs ks:=λl j=>by
 let(x,e,q):=h l j;calc#[x,e,λy d=>m y (q y d)]
meta def pV(f0:Int)(m:Nat):Yi Int:=(QJ m).map λ(k:Nat)=>(f0+11*(k:Int)) % 100
def G8 (h:m<=m'):∀x∈pV f0 m,x∈pV f0 m':=λx d=>by
 let(k,e,rfl):=O2.mp d;calc O2.mpr #[k,Q4.mpr (OJ (Q4.mp e) h),rfl]
def xM (f0:Int)(m:Nat):pV f0 (m+1)=pV f0 m++[(f0+11*(m:Int)) % 100]:=by
 unfold pV;rw[Tq,i4];rfl
def Kc (h:m<5):(f0+11*(m:Int)) % 100∉pV f0 m:=λz=>by
 let(k,g,e):=O2.mp z;let d:=Q4.mp g;omega
def Kd (f0:Int)(m:Nat):(pV f0 m).length=m:=by
 unfold pV;rw[bM,SQ]
structure mO(kl:Kl) (ds:Yi (Yg×Nat)) (f0:Int) (ns:Yi Yg) (m m' z d:Nat) (tm:Tm):Prop where
 wn:Wn tm
 ta:Ta tm
 sz:tm.size<=z
 dp:tm.depth<=d
 gd:Gd kl ds ns (pV f0 m) (pV f0 m') tm
 mm:m<=m'
structure jO(kl:Kl) (ds:Yi (Yg×Nat)) (f0:Int) (ns:Yi Yg) (bs:Yi (Yi Yg)) (m m' z d:Nat) (ks:Yi Tm):Prop where
 wn:∀k∈ks,Wn k
 ta:∀k∈ks,Ta k
 sz:Tm.sizes ks<=z
 dp:∀k∈ks,k.depth<=d
 gd:IG kl ds ns (pV f0 m) (pV f0 m') bs ks
 mm:m<=m'
def jO.nil (h:m<=m1):jO kl ds f0 ns bs m m1 0 d []:=#[(λ_ h=>nomatch h),(λ_ h=>nomatch h),(by simp[Tm.sizes]),(λ_ h=>nomatch h),Bd.wk (G8 h),h]
def jO.cons {ds:Yi (Yg×Nat)}{f0:Int}{ns:Yi Yg}{m m1 m2 z z1 d:Nat}{b:Yi Yg}{bs:Yi (Yi Yg)}{k:Tm}{ks:Yi Tm}(h:mO kl ds f0 (ns++b) m m1 z d k)(t:jO kl ds f0 ns bs m1 m2 z1 d ks):jO kl ds f0 ns (b::bs) m m2 (z+z1) d (k::ks) :=
 #[λx g=>(L0.mp g).elim (λe=>e▸h.wn) (t.wn x),λx g=>(L0.mp g).elim (λe=>e▸h.ta) (t.ta x),by rw[Tm.bQ];let:=h.sz;let:=t.sz;omega,λx g=>(L0.mp g).elim (λe=>e▸h.dp) (t.dp x),Ez h.gd t.gd,OX h.mm t.mm]
def jO.jl (h:mO kl ds f0 ns m m1 z d k)(t:jO kl ds f0 ns bs m1 m2 z1 d ks):jO kl ds f0 ns ([]::bs) m m2 (z+z1) d (k::ks):=jO.cons (b:=[]) (by rw[O0];calc h) t
theorem wF :∀{ks:Yi Tm},(∀k∈ks,k.depth<=d)->Tm.mj ks<=d
 | [],_=>by rw[Tm.mj];calc ON _
 |k::r,h=>by rw[Tm.mj];calc WG.mpr #[h k (.head _),wF λx e=>h x (.tail _ e)]
def mO.G9 (l:cM h ks.length=Yd)(j:∀b∈bnd h ks.length,b.length<=5)(o:uL h)(g:HW h)(ht:∀e,eK kl ds e ns h ks.length=.ok e)(t:jO kl ds f0 ns (bnd h ks.length) m m1 z d ks)(p:z+1<=z1):mO kl ds f0 ns m m1 z1 (d+1) (.mk h ks):=by
 refine#[.mk l j t.wn,.mk o g t.ta,by rw[Tm.eO];let:=t.sz;omega,?_,II ht t.gd,t.mm]
 cases ks with
 |nil=>rw[Tm.depth];calc ON _
 |cons k r=>rw[Tm.pN];calc Q0 (wF t.dp)
def mO.leaf (o:cM h 0=Yd)(l:∀b∈bnd h 0,b.length<=5)(p:uL h)(j:HW h)(ht:∀e,eK kl ds e ns h 0=.ok e)(g:1<=z):mO kl ds f0 ns m m z d (.mk h []):=by
 refine#[.mk o l (λ_ h=>nomatch h),.mk p j (λ_ h=>nomatch h),by rw[Tm.eO];simp[Tm.sizes];calc g,by rw[Tm.depth];calc ON _,II ht Bd,i5 _]
def mO.gap (h:m<5)(g:1<=z):mO kl ds f0 ns m (m+1) z d (.mk (.gap ((f0+11*(m:Int)) % 100)) []):=by
 refine#[.mk rfl (λb j=>by cases j) (λ_ h=>nomatch h),.mk (λ_ e=>nomatch e) True.intro (λ_ h=>nomatch h),by rw[Tm.eO];simp[Tm.sizes];calc g,by rw[Tm.depth];calc ON _,?_,Pc _]
 rw[xM];calc Ka (Kc h)
def mO.wk (h:mO kl ds f0 ns m m1 z d g)(j:z<=e)(hd:d<=d'):mO kl ds f0 ns m m1 e d' g:=#[h.wn,h.ta,OX h.sz j,OX h.dp hd,h.gd,h.mm]
def iH (q:∀arms,h≠.mat arms):uL h:=λarms e=>absurd e (q arms)
def mQ :∀b∈(L1 n ([]:Yi Yg)),b.length<=5:=λb e=>by rw[(Sk.mp e).2];calc ON _
meta def Hl(k:Kk):Prop:=∀x,k.core=.kd x->Wo x
meta def Ho(k:Yg×Yi (Yg×Yi Kk)):Prop:=1<=k.2.length/\k.2.length<=3/\(∀t∈k.2,t.2.length<=2)/\Wo k.1/\∀t∈k.2,Wo t.1/\∀c∈t.2,Hl c
meta def M8(d:Df):Prop:=Wo d.1/\∀p∈d.2.1,Wo p.1/\Hl p.2
structure IJ(kl:Kl):Prop where
 nk:(kl.map (·.1)).Nodup
 nt:(jg kl).Nodup
 l3:kl.length<=3
 pt:∀k∈kl,1<=k.2.length/\k.2.length<=3/\∀t∈k.2,t.2.length<=2
 nw:∀k∈kl,Wo k.1/\∀t∈k.2,Wo t.1
meta def xZ(kl:Kl):Yi (Yg×Nat):=kl.flatMap λk=>k.2.map λt=>(t.1,t.2.length)
theorem mR {g:Type}(d:g->Yg):∀{l:List g}{x:g},(l.map d).Nodup->x∈l->l.find? (λy=>decide (d y=d x))=Yb x
 |y::r,x,hn,hx=>by
  rw[OQ,Qz]at hn;rw[PD];rcases L0.mp hx with rfl|hx
  .rw[decide_eq_true rfl]
  .have:d y≠d x:=λe=>hn.1 (e▸O6 hx);rw[decide_eq_false this];calc mR d hn.2 hx
def Be (h:IJ kl)(d:k∈kl)(ht:t∈k.2):jR kl t.1=Yb (t.1,k.1,t.2):=by
 unfold jR;let:=mR (λx:Yg×Yg×Yi Kk=>x.1) (l:=tl kl) (x:=(t.1,k.1,t.2)) (by rw[pS];calc h.nt) (QD.mpr #[k,d,O2.mpr #[t,ht,rfl]]);calc this
def LV (h:IJ kl)(d:k∈kl):Ad kl k.1=Yb k:=mR (λk:Yg×Yi (Yg×Yi Kk)=>k.1) h.nk d
def Ke (h:IJ kl)(d:p∈xZ kl):∃y,jR kl p.1=Yb y/\y.2.2.length=p.2:=by
 let(k,g,d):=QD.mp d;let(t,e,rfl):=O2.mp d;calc#[_,Be h g e,rfl]
def EA (h:IJ kl):(xZ kl).length<=9:=by
 let:∀l:Kl,(∀k∈l,k.2.length<=3)->(xZ l).length<=l.length*3:=by
  intro l
  induction l with
  |nil=>intro _;calc ON _
  |cons k r ih =>
   intro d;let m:=d k (.head _);let j:=ih λx e=>d x (.tail _ e);unfold xZ at j|-;rw[Qt,mu,bM,OT,U8];omega
 let:=this kl λk g=>(h.pt k g).2.1;let:=h.l3;omega
def Hr (h:IJ kl)(m:k∈kl){d:Yi (Yg×Yi Kk)}(z:d.Perm k.2)(D:arms.map (·.1)=d.map (·.1))(M:∀(i:Nat) (a:Yg×Yi Yg) (t:Yg×Yi Kk),arms[i]?=Yb a->d[i]?=Yb t->a.2.length=t.2.length/\cJ [] a.2=Yc):fz kl arms=Yc:=by
 let g:arms.length=d.length:=by let:=congrArg Sq D;rwa [bM,bM]at this
 let J:d.length=k.2.length:=z.length_eq;let R:=(h.pt k m).1
 let j:∀a∈arms,∃t,t∈k.2/\t.1=a.1/\a.2.length=t.2.length/\cJ [] a.2=Yc:=λa L=>by
  let(i,B):=Po L;let o:i<d.length:=by rw[<-g];exact(bH.mp B).1
  let G:=my o
  let e:a.1=(d[i]).1:=by
   let q:=congrArg (λl=>l[i]?) D;simp only[vv,B,G,To]at q;exact OL q
  let(q1,p):=M i a _ B G;exact#[d[i],z.mem_iff.mp (Pu o),e.symm,q1,p]
 cases arms with
 |nil=>rw[RJ]at g;omega
 |cons a r =>
  let I:(a::r).find? (λb=>decide ((jR kl b.1).isSome=Ye))=Yc:=by
   rw[Ra];intro b C;let(t,v,e,_):=j b C;rw[<-e,Be h m v];simp
  let(Q,u,O,_):=j a (.head _)
  let N:((((jR kl a.1).bind λy=>Ad kl y.2.1).map λk=>k.2.map (·.1)).getD [])=k.2.map (·.1):=by
   rw[<-O,Be h m u];show(((Ad kl k.1).map λk=>k.2.map (·.1)).getD [])=_;rw[LV h m];rfl
  let H:((a::r).map (·.1)).isPerm (k.2.map (·.1))=Yd:=by
   rw[Tu,D];exact z.map _
  let fs:(a::r).findSome? (jy kl)=Yc:=by
   rw[Ui];intro b C;let(t,v,e,q1,p):=j b C;unfold jy;rw[<-e,Be h m v];dsimp only;rw[if_pos q1,p];rfl
  unfold fz;dsimp only;rw[I];dsimp only;rw[N,if_pos H];calc fs
structure Sn where
 kd:Yh
 ln:Yh
 ld:Yh
 lg:Yh
 lt:Yh
 f0:Int
meta def Ai(S:Sn):Yi (Key×V):=[(ky "kinds",.ref S.kd),(ky "names",.ref S.ln),(ky "defs",.ref S.ld),(ky "gaps",.ref S.lg),(ky "first",.int S.f0),(ky "tags",.ref S.lt)]
meta def EB(p:Yg×Nat):T:=.t [.s p.1,.i p.2]
structure fu(K:bN) (H:Hp) (f d:Yh) (S:Sn) (kl:Kl) (nm:Yi Yg) (ds:Yi (Yg×Nat)) (m:Nat):Prop where
 sd:H d=Yb (.dK (Ai S))
 kd:Rp K H (.t (kl.map jo)) (.ref S.kd)
 ln:H S.ln=Yb (.Y (nm.map V.str))
 l6:nm.length=6
 un:Un nm
 ld:∃vs,H S.ld=Yb (.Y vs)/\bR K H (ds.map EB) vs
 lt:∃vs,H S.lt=Yb (.Y vs)/\bR K H ((xZ kl).map EB) vs
 lg:H S.lg=Yb (.Y ((pV S.f0 m).map V.int))
 m5:m<=5
 f0:0<=S.f0/\S.f0<100
 ff:dc H f
 nf:d≠f/\S.ln≠f/\S.ld≠f/\S.lg≠f/\S.lt≠f
 ng:S.ln≠S.lg/\S.ld≠S.lg/\S.lt≠S.lg
 kk:IJ kl
 dn:(ds.map (·.1)).Nodup
 dl:ds.length<=8
 d3:∀p∈ds,p.2<=3
 nw:∀x∈nm,Wo x
 dw:∀p∈ds,Wo p.1
def fu.go (s:fu K H f d S kl nm ds m)(fr:dR [S.lg] f H H')(q:H' S.lg=Yb (.Y ((pV S.f0 m').map V.int)))(r:m'<=5):fu K H' f d S kl nm ds m':=by
 let(p,o,l,D,j):=s.nf;let(v,u,t):=s.ng;let(y,C,B):=s.ld;let(e,t1,t2):=s.lt;let g:d≠S.lg:=jB s.sd s.lg nofun
 calc#[fr.iT g p s.sd,s.kd.kt fr.kt,fr.iT v o s.ln,s.l6,s.un,#[y,fr.iT u l C,B.kt fr.kt],#[e,fr.iT t j t1,t2.kt fr.kt],q,r,s.f0,fr.ff,s.nf,s.ng,s.kk,s.dn,s.dl,s.d3,s.nw,s.dw]
def fu.ext (s:fu K H f d S kl nm ds m)(e:Ext f H H'):fu K H' f d S kl nm ds m:=s.go (Ext.uZ s.ff e) (e.1 _ _ s.nf.2.2.2.1 s.lg) s.m5
def fu.Z (s:fu K H f d S kl nm ds m)(e:aR H H'):fu K H' f d S kl nm ds m:=s.ext ((Ext.refl s.ff).Z e)
def fu.get (s:fu K H f d S kl nm ds m)(e:cZ (Ai S) (ky y)=Yb v):cF H d (.str y) (Yb v):=by
 let h:=cF.k (k:=ky y) s.sd;rw[e]at h;calc h
def zf (S:Sn):cZ (Ai S) (ky "kinds")=Yb (.ref S.kd):=by kernel_rfl
def uR (S:Sn):cZ (Ai S) (ky "names")=Yb (.ref S.ln):=by kernel_rfl
def xN (S:Sn):cZ (Ai S) (ky "defs")=Yb (.ref S.ld):=by kernel_rfl
def Bf (S:Sn):cZ (Ai S) (ky "gaps")=Yb (.ref S.lg):=by kernel_rfl
def EC (S:Sn):cZ (Ai S) (ky "first")=Yb (.int S.f0):=by kernel_rfl
def Bg (S:Sn):cZ (Ai S) (ky "tags")=Yb (.ref S.lt):=by kernel_rfl
structure LW(K:bN) (f d:Yh) (S:Sn) (kl:Kl) (nm:Yi Yg) (ds:Yi (Yg×Nat)) (ns:Yi Yg) (m z dp:Nat) (H H':Hp) (v:V) (tm:Tm) (m':Nat):Prop where
 sc:fu K H' f d S kl nm ds m'
 fr:dR [S.lg] f H H'
 r:Rp K H' (enc tm) v
 g:mO kl ds S.f0 ns m m' z dp tm
meta def xO(K:bN):Sp:=λq H Q _=>∃(f d g:Yh) (S:Sn) (l:Kl) (j:Yi Yg) (o:Yi (Yg×Nat)) (e:Yi Yg) (m:Nat),q=[.ref f,.ref d,.ref g]/\fu K H f d S l j o m/\H g=Yb (.Y (e.map V.str))/\g≠f/\e.length<=100/\(∀x∈e,Wo x) /\
 ∀(v:V) (p:Hp) (r:Tm) (t:Nat),LW K f d S l j o e m 1 0 H p v r t->Q v p
meta def fF(K:bN)(n:Nat):Sp:=λt H Q _=>∃(f d l:Yh) (g e:Int) (S:Sn) (p:Kl) (o:Yi Yg) (q:Yi (Yg×Nat)) (j:Yi Yg) (m:Nat),t=[.ref f,.ref d,.ref l,.int g,.int e]/\fu K H f d S p o q m/\H l=Yb (.Y (j.map V.str))/\l≠f/\l≠S.lg/\0<=g/\g<=100/\0<=e/\e<n/\j.length+2*e.toNat<=80/\(∀x∈j,Wo x) /\
 ∀(v:V) (r:Hp) (u:Tm) (y:Nat),LW K f d S p o q j m (max g.toNat 1) e.toNat H r v u y->Q v r
meta def uS(K:bN)(n:Nat):Sp:=λt H Q _=>∃(f d l:Yh) (e g:Int) (S:Sn) (o:Kl) (p:Yi Yg) (q:Yi (Yg×Nat)) (j:Yi Yg) (m:Nat),t=[.ref f,.ref d,.ref l,.int e,.int g]/\fu K H f d S o p q m/\0<o.length/\H l=Yb (.Y (j.map V.str))/\l≠f/\l≠S.lg/\1<=e/\e<=100/\0<=g/\g<n/\j.length+2+2*g.toNat<=80/\(∀x∈j,Wo x) /\
 ∀(v:V) (r:Hp) (u:Tm) (y:Nat),LW K f d S o p q j m (4*e.toNat+1) (g.toNat+1) H r v u y->Q v r
def bD :Nm W9 (ak b7):=by decide
def sI :Lm W9 (ak b7):=by decide
def m6 :aY W9 Xr (ak b7):=by ac_rfl
def Hs {P:we}{w:OR}{K:bN}{mg:Yg->Option eF}{base:Heap}{gT:Yh}{tfd:EF}{f:Yh}{cdv:eF}{A:OW}{outer:Yi Qp}{s:fy}{H1:Hp}{E:XK}(TK:Za "_law_take" 1 WQ cU gT tfd)(hr:dU 1 (A.deeper (OV "_law_named_leaf" (ak b7) s⁻¹ f cdv))){D:L2.Ends}{H:Hp}{fe d la:Yh}{fm:Int}{S:Sn}{kl:Kl}{nm:Yi Yg}{ds:Yi (Yg×Nat)}{ns:Yi Yg}{m:Nat}(sc:fu K H fe d S kl nm ds m)(fm0:0<=fm)(fm5:fm<5)(k:∀(v:V) (U:Hp) (X:Tm) (m':Nat),LW K fe d S kl nm ds ns m 1 0 H U v X m'->D.rt v U):
  jL (Zl gz W9 "_law_named_leaf" (ak b7) H1).pB ((bx b7).drop 3) D [Yb (.ref fe),Yb (.ref d),Yb (.ref la),Yb (.int fm)] H:=by
 refine fg ((Zd (Zp (Zh aZ (Zq (Z1 (Zk (Z1 aD (Z1 (Z0 TK (di (va bD 0) (Zc aB))) aA))) (Z1 (Zk (Z1 aD (Zc (eJ aA)))) aA))) (bU gE (va bD 3) aB))))) ?_
 right
 let hf:=sc.ff;ext r H2 r0 r1 W;ext;calc nw λl H3 R C ad=>?_;let r3:Rp K H3 (enc (.mk (.num r) [])) (.ref l):=by rw[bI];exact Rp.nw (K:=K) C R (.cons .s (.one .i))
 ext;calc nw λp4 H4 L B ac=>?_;let r4:Rp K H4 (.t []) (.ref p4):=Rp.nw (K:=K) B L .nil;ext;calc nw λg H5 J y ab=>?_;let Z:Rp K H5 (enc (.mk .row [])) (.ref g):=by rw[bI];exact Rp.nw (K:=K) (xs:=[.s "row",.t []]) y J (.cons .s (.one r4))
 let N:=(r3.Z L).Z J;ext;calc nw λp6 G I u aa=>?_;let h6:bA K G p6 [.ref l,.ref g]:=bA.of u;let Q:Ext fe H G:=(((W.Z R).Z L).Z J).Z I;let Y:=Z.Z I;let M:=N.Z I;let o:=sc.ext Q;let T:dR [S.lg] fe H G:=Ext.uZ sc.ff Q;let q:D.rt (.ref l) G:=k _ _ _ m #[o,T,M,.leaf rfl (λb O=>by cases O) (iH ⋯) True.intro (λ_=>rfl) (i5 _)]
 let p:D.rt (.ref g) G:=k _ _ _ m #[o,T,Y,.leaf rfl (λb O=>by cases O) (iH ⋯) True.intro (λ_=>rfl) (i5 _)]
 let em:fm % 2=0\/fm % 2=1:=()
 rcases em with e|e
 .have a0:dZ [V.ref l,V.ref g] (fm % 2)=Yb (.ref l):=by rw[e];exact aF (j:=0) rfl
  ext;exact q
 .have a0:dZ [V.ref l,V.ref g] (fm % 2)=Yb (.ref g):=by rw[e];exact aF (j:=1) rfl
  ext;calc p
def Ht {P:we}{w:OR}{K:bN}{mg:Yg->Option eF}{base:Heap}{gT:Yh}{tfd:EF}{f:Yh}{cdv:eF}{A:OW}{outer:Yi Qp}{s:fy}{R:Hp}{E:XK}(B:Za "_law_take" 1 WQ cU gT tfd)(e:mg "len"=Yc)(hr:dU 1 (A.deeper (OV "_law_named_leaf" (ak b7) s⁻¹ f cdv))){D:L2.Ends}{H:Hp}{fe d la:Yh}{fm:Int}{S:Sn}{kl:Kl}{nm:Yi Yg}{ds:Yi (Yg×Nat)}{ns:Yi Yg}{m:Nat}(sc:fu K H fe d S kl nm ds m)(hla:H la=Yb (.Y (ns.map V.str)))(nla:la≠fe)(lns:ns.length<=100)(wns:∀x∈ns,Wo x)(fm0:0<=fm)(fm5:fm<5)(k:∀(v:V) (C:Hp) (G:Tm) (m':Nat),LW K fe d S kl nm ds ns m 1 0 H C v G m'->D.rt v C):
  jL (Zl gz W9 "_law_named_leaf" (ak b7) R).pB ((bx b7).drop 2) D [Yb (.ref fe),Yb (.ref d),Yb (.ref la),Yb (.int fm)] H:=by
 refine fg ((Z5 (Z8 (PW.pt (@ir _ _ _ _ _ _ _ (Zn oV (va bD 3) aB) (@fQ _ _ _ _ (Zg rM (Z2 aM e OS (Zc (va bD 2))) aB (bz _))))) (Zd (Zp (Zk (Z1 aD (Z1 (Zh aZ (va bD 2) (Z0 B (Z1 (va bD 0) (Z1 (Z2 aM e OS (Zc (va bD 2))) aA)))) aA)))))) dz)) ?_
 right
 calc kT ?_;intro Q y;let last:Q [Yb (.ref fe),Yb (.ref d),Yb (.ref la),Yb (.int fm)] H:=Cut.go y (Hs B hr sc fm0 fm5 k);clear y;let X:=sc.ff;ext;refine bP (λc=>?_) (λc=>?_)
 .ext;refine bP (λu=>?_) (λu=>?_)
  .have O:(0:Int)<((ns.map V.str).length:Int):=of_decide_eq_true u;let J:((ns.map V.str).length:Int)<1073741824:=by rw[bM];omega
   ext U Z p o t;let Y:=t.1 _ _ nla hla;let(T,L,q):=pQ (xs:=ns.map V.str) p o;let(l,g,rfl):=O2.mp q;ext W j;let I:=ae j (.J [.str "name",.str l]);let r:=t.Z I;exact k _ _ (.mk (.name l) []) m #[sc.ext r,Ext.uZ sc.ff r,by rw[bI];calc Rp.new (K:=K) j (.cons .s (.one .s)),.leaf rfl (λb M=>by cases M) (iH ⋯) (wns l g) (λN=>by show(if l∈ns then Except.ok N else _)=_;rw[if_pos g]) (i5 _)]
  .ext;exact last
 .ext;calc last
def ED {T:EF}(F:jn K "_law_named_leaf" "_law_named_leaf" b7 f T)(X:Za "_law_take" 1 WQ cU gT tfd)(e:mg "len"=Yc):Zt gz 2 f T Xr (xO K):=by
 refine F.ok m6 (λY H Q E h=>?_) (λcdv A outer s H Y Q E hr h=>?_)
 .have(_,_,_,_,_,_,_,_,_,rfl,_):=h;rfl
 let(L,d,la,S,kl,nm,ds,ns,m,rfl,y,I,o,D,B,k):=h;refine#[_,(Z5 (Z4 m6.nd sI 3 (Z0 X (di (va bD 0) (Zc aB)))) (Z5 (Z8 (PW.pt (@ir _ _ _ _ _ _ _ (Zn bO (va bD 3) aB) (@fQ _ _ _ _ (Zg oV (Z2 aM e OS (Z1 (Zi (va bD 1)) aA)) aB (bz _))))) (Z5 (Zo (Z7 (Zi (va bD 1)) (Z1 (Zm gE (Zm eg (Zi (va bD 1)) (Zm kY aB (Z2 aM e OS (Z1 (Zi (va bD 1)) aA)))) aB) aA))) (Zd (Zp (Zk (Z1 aD (Z1 (Zh aZ (Zi (va bD 1)) (kQ iV aB)) aA))))))) dz)),?_]
 right
 let hf:=y.ff;calc jF ?_;intro N1 N2 c1 t;ext fm u J ac z;let j:=y.ext z;let q:=z.1 _ _ o I;let W:dR [S.lg] L H u:=Ext.uZ y.ff z;let rest:N2 [Yb (.ref L),Yb (.ref d),Yb (.ref la),Yb (.int fm)] u:=Cut.go t (Ht X e hr j q o D B J () λv H' Z m' g=>k v H' Z m' #[g.sc,W.trans g.fr,g.r,g.g]);clear t;let gg:=j.get (Bf S);let g1:=j.get (EC S);let hg:=j.lg;let G:((pV S.f0 m).map V.int).length=m:=by rw[bM,Kd]
 let m5:=j.m5;ext;refine bP (λc=>?_) (λc=>?_)
 .ext;refine bP (λt=>?_) (λt=>?_)
  .have ad:(((pV S.f0 m).map V.int).length:Int)<5:=of_decide_eq_true t;let O:m<5:=()
   let ll:((pV S.f0 m).map V.int).length<lj:=aV ();let C:=j.nf.2.2.2.1;let em:(S.f0+11*(((pV S.f0 m).map V.int).length:Int)) % 100=(S.f0+11*(m:Int)) % 100:=by rw[G]
   let U:dR [S.lg] L H (upd u S.lg (.Y ((pV S.f0 m).map V.int++[.int ((S.f0+11*(((pV S.f0 m).map V.int).length:Int)) % 100)]))):=W.upd (tF.mpr rfl) C hg;let R:upd u S.lg (.Y ((pV S.f0 m).map V.int++[.int ((S.f0+11*(((pV S.f0 m).map V.int).length:Int)) % 100)])) S.lg=Yb (.Y ((pV S.f0 (m+1)).map V.int)):=by rw[af,em,xM,i4];rfl
   let l:=y.go U R O;let ab:=l.get (Bf S);let al:dZ ((pV S.f0 (m+1)).map V.int) (-1)=Yb (.int ((S.f0+11*(m:Int)) % 100)):=by rw[xM,i4];exact tQ _ _
   let aa:bA K (upd u S.lg (.Y ((pV S.f0 m).map V.int++[.int ((S.f0+11*(((pV S.f0 m).map V.int).length:Int)) % 100)]))) S.lg ((pV S.f0 (m+1)).map V.int):=bA.of R;ext p N;let M:=ae N (.J [.str "gap",.int ((S.f0+11*(m:Int)) % 100)]);exact k _ _ _ (m+1) #[l.Z M,U.Z M,by rw[bI];calc Rp.new (K:=K) N (.cons .s (.one .i)),.gap O (i5 _)]
  .ext;exact rest
 .ext;calc rest
theorem wG {kl:Kl}{ds:Yi (Yg×Nat)}{ns b:Yi Yg}{k:Tm}:∀{bs:Yi (Yi Yg)}{ks:Yi Tm}{g:Yi Int},bs.length=ks.length->jM kl ds g ns (bs++[b]) (ks++[k])=match jM kl ds g ns bs ks with
  |.error f=>.error f
  |.ok g'=>sH kl ds g' (ns++b) k
 | [],[],g,_=>by
  rw[QM,QM,iR,kI];dsimp only
  cases sH kl ds g (ns++b) k with
  |error f=>rfl
  |ok g'=>calc kI ..
 |c::bs,j::ks,g,h=>by
  rw[R0,R0,iR,iR]
  cases sH kl ds g (ns++c) j with
  |error f=>rfl
  |ok g'=>calc wG (by simpa using h)
def jO.snoc (t:jO kl ds f0 ns bs m l z d ks)(r:bs.length=ks.length)(h:mO kl ds f0 (ns++b) l j o d k):jO kl ds f0 ns (bs++[b]) m j (z+o) d (ks++[k]):=by
 refine#[λx g=>(IF.mp g).elim (t.wn x) (λe=>tF.mp e▸h.wn),λx g=>(IF.mp g).elim (t.ta x) (λe=>tF.mp e▸h.ta),?_,λx g=>(IF.mp g).elim (t.dp x) (λe=>tF.mp e▸h.dp),λv u=>?_,OX t.mm h.mm]
 .rw[Tm.er,Tm.bQ];let:=t.sz;let:=h.sz;simp only[Tm.sizes];omega
 .have(q,B,l):=t.gd v u;let(p,y,j):=h.gd q l;calc#[p,by rw[wG r,B];calc y,j]
meta def iU(d:Yi Yg)(t:Int)(n:Nat):Yi Yg:=(QJ n).map λj=>d.getD ((t.toNat+j) % 5) ""
def EE (d:Yi Yg)(t:Int)(n:Nat):iU d t (n+1)=iU d t n++[d.getD ((t.toNat+n) % 5) ""]:=by
 unfold iU;rw[Tq,i4];rfl
def sW (d:Yi Yg)(t:Int)(n:Nat):(iU d t n).length=n:=by
 unfold iU;rw[bM,SQ]
def Kf {d:Yi Yg}(g:d.length=6)(l:0<=t)(j:Nat):dZ (d.map V.str) ((t+(0+(j:Int))) % 5)=Yb (.str (d.getD ((t.toNat+j) % 5) "")):=by
 let e:(t.toNat+j) % 5<d.length:=()
 let:=aF (xs:=d.map V.str) (j:=(t.toNat+j) % 5) (v:=.str (d.getD ((t.toNat+j) % 5) "")) (by rw[vv,my e,PX,my e];rfl);rw[show(((t.toNat+j) % 5:Nat):Int)=(t+(0+(j:Int))) % 5 by omega]at this;calc this
def Hu (l:d.length=6)(un:Un d)(hn:n<=2):cJ [] (iU d t n)=Yc:=by
 match n,hn with
 |0,_=>rfl
 |1,_=>rfl
 |2,_ =>
  show(if d.getD ((t.toNat+1) % 5) ""∈[d.getD ((t.toNat+0) % 5) ""]then Yb _ else Yc)=Yc;calc if_neg λz=>?_;let e:=tF.mp z;let l1:(t.toNat+1) % 5<d.length:=()
  let g:(t.toNat+0) % 5<d.length:=()
  rw[PX,PX,my l1,my g]at e;let j:d[(t.toNat+1) % 5]=d[(t.toNat+0) % 5]:=e;let:=un ((t.toNat+1) % 5) ((t.toNat+0) % 5) _ (my l1) (by rw[j];calc my g);omega
structure Nt(K:bN) (fe d:Yh) (S:Sn) (kl:Kl) (nm:Yi Yg) (ds:Yi (Yg×Nat)) (ns:Yi Yg) (m z dp:Nat) (ts:Yi (Yg×Yi Kk)) (lar:Yh) (H0:Hp) (i:Nat) (H:Hp) (arms:Yi (Yg×Yi Yg)) (ks:Yi Tm) (us:Yi V) (m':Nat):Prop where
 sc:fu K H fe d S kl nm ds m'
 fr:dR [S.lg,lar] fe H0 H
 ha:H lar=Yb (.Y us)
 r:bR K H (O9 jE arms (ks.map enc)) us
 la:arms.length=i
 lk:ks.length=i
 nm:arms.map (·.1)=(ts.take i).map (·.1)
 ok:∀(j:Nat) (a:Yg×Yi Yg) (t:Yg×Yi Kk),arms[j]?=Yb a->ts[j]?=Yb t->a.2.length=t.2.length/\cJ [] a.2=Yc
 g:jO kl ds S.f0 ns (arms.map (·.2)) m m' (i*z) dp ks
 w:∀a∈arms,Wo a.1/\∀x∈a.2,Wo x
def EG (h:arms.length=ks.length):O9 jE (arms++[a]) (ks++[k])=O9 jE arms ks++[jE a k]:=by
 rw[VJ h];rfl
def fu.other (s:fu K H f d S kl g ds m)(e:fu K r f d S kl g o z)(B:r l=Yc)(h:H l=Yb (.Y xs))(ys:Yi V):fu K (upd H l (.Y ys)) f d S kl g ds m:=by
 let(I,L,J):=s.ld;let(t,t1,t2):=s.lt;let(_,G,_):=e.ld;let(_,D,_):=e.lt;let(p,q,C):=e.ff;let(y,v,j):=s.ff;let n:∀{c:Yh}{u:L2.HO},r c=Yb u->c≠l:=λq=>au q B;let k:Kt H (upd H l (.Y ys)):=Kt.Y h _;calc#[by rw[ay (n e.sd)];calc s.sd,s.kd.kt k,by rw[ay (n e.ln)];calc s.ln,s.l6,s.un,#[I,by rw[ay (n G)];calc L,J.kt k],#[t,by rw[ay (n D)];calc t1,t2.kt k],by rw[ay (n e.lg)];calc s.lg,s.m5,s.f0,#[y,v,by rw[ay (n C)];calc j],s.nf,s.ng,s.kk,s.dn,s.dl,s.d3,s.nw,s.dw]
def aN :Nm WR (ak ck):=by decide
def cO :Lm WR (ak ck):=by decide
def cE :aY WR W5 (ak ck):=by ac_rfl
def Hv {P:we}{w:OR}{K:bN}{mg:Yg->Option eF}{base:Heap}{gT gN:Yh}{tfd nfd:EF}{n j:Nat}(hj:1<=j){f:Yh}{cdv:eF}{A:OW}{outer:Yi Qp}{s:fy}{H1:Hp}{E:XK}(TK:Za "_law_take" 1 WQ cU gT tfd)(cq:Za "_law_named" j WO (fF K n) gN nfd)(as:mg "len"=Yc)(z_range:mg "range"=Yc)(G:mg "tuple"=Yc)(hr:dU j (A.deeper (OV "_law_named_match" (ak ck) s⁻¹ f cdv))){D:L2.Ends}{H:Hp}{fe d la ta:Yh}{share down:Int}{S:Sn}{kl:Kl}{nm:Yi Yg}{ds:Yi (Yg×Nat)}{ns:Yi Yg}{m m1:Nat}{kd:Yg×Yi (Yg×Yi Kk)}{fv:V}{ft:Tm}{o5 o8 o9 a3 a2 a1:Option V}(sc:fu K H fe d S kl nm ds m1)(hk:kd∈kl)(hla:H la=Yb (.Y (ns.map V.str)))(nla:la≠fe)(nlg:la≠S.lg)(sh1:1<=share)(sh2:share<=100)(dn0:0<=down)(dn:down<n)(lns:ns.length+2+2*down.toNat<=80)(wns:∀x∈ns,Wo x)(rt:Rp K H (.t (kd.2.map qA)) (.ref ta))(rf:Rp K H (enc ft) fv)(gf:mO kl ds S.f0 ns m m1 (max share.toNat 1) down.toNat ft)(k:∀(v:V) (H':Hp) (tm:Tm) (m':Nat),fu K H' fe d S kl nm ds m'->dR [S.lg] fe H H'->Rp K H' (enc tm) v->mO kl ds S.f0 ns m m' (4*share.toNat+1) (down.toNat+1) tm->D.rt v H'):
  jL (Zl gz WR "_law_named_match" (ak ck) H1).pB ((bx ck).drop 2) D [Yb (.ref fe),Yb (.ref d),Yb (.ref la),Yb (.int share),Yb (.int down),o5,Yb (.ref ta),Yb fv,o8,o9,a3,a2,a1] H:=by
 refine fg ((Z5 (sa cE.nd cO 8 (dH aA)) (Z5 (Zj O8 (@cG _ _ _ _ (Zh aZ (Zq (Z1 (va aN 6) (Z1 (Ge K rfl (va aN 6) cQ cQ (bZ (kQ iV aB))) aA))) (Z0 TK (di (va aN 0) (Zc aB))))) (Zb (2) (Zf (ga cE.nd cO 9) (Zs (ga cE.nd cO 10)))) (Z5 (Z4 cE.nd cO 11 (Z0 TK (di (va aN 0) (Zc aB)))) (Z5 (@nL _ _ _ _ _ _ _ _ _ _ _ _ _ _ _ (ak ck) WR ["_law_j"] [1,11] rfl rfl rfl (by decide) (Zr (Z1 (Z2 aM as OS (Zc (va aN 10))) aA)) (λ_ _ _ _=>(Zx XC 0)) (λ_ _ _ _=>fZ) (λ_ _ _ _=>(Zh (Dm K rfl) (Zi (Zw XC 1)) (Zm gE (bU eg (Zw XC 2) (Zw XC 0)) aB))) (ga cE.nd cO 12) (by kernel_rfl) (by intro _;rfl)) (Zd (Zo (Z7 (va aN 8) (Z1 (Zk (Z1 (va aN 9) (Z1 (Z9 cg G Pf (Zc (va aN 12))) (Z1 (Z0 cq (Z1 (va aN 0) (Z1 (va aN 1) (Z1 (bU iW (va aN 2) (va aN 12)) (Z1 (va aN 3) (Zc (va aN 4))))))) aA)))) aA))))))) (Zd (Zp (Zk (Z1 aD (Z1 (va aN 7) (Z1 (Z9 cg G Pf (Zc (va aN 8))) aA))))))))) ?_
 right
 let(c7,c6,a4):=sc.kk.pt kd hk;ext B C;let s2:=ae C (.Y []);let b0:upd H B (.Y []) B=Yb (.Y []):=af;let ab:B≠fe:=bB sc.ff C;let bl:B≠S.lg:=(au sc.lg C).symm;generalize upd H B (.Y [])=H2 at s2 b0|-;let bg:=sc.Z s2;let a0:=rt.Z s2;let(b4,ax,e,b1,be):=a0.aS;obtain rfl:ta=b4:=V.ref.inj e;ext p3 bs;let s3:=ae bs (.J ax.reverse)
 let r3:Rp K (upd H2 p3 (.J ax.reverse)) (.t (kd.2.reverse.map qA)) (.ref p3):=by
  rw[Wu];exact Rp.new (K:=K) bs be.reverse
 generalize upd H2 p3 (.J ax.reverse)=H3 at s3 r3|-;ext p4 br;let s4:=ae br (.Y [.ref ta,.ref p3]);let h4:upd H3 p4 (.Y [.ref ta,.ref p3]) p4=Yb (.Y [.ref ta,.ref p3]):=af;let Z:=s3.trans s4;let az:=bg.Z Z;let a8:=az.ff;let n4:p4≠fe:=bB (bg.Z s3).ff br;generalize upd H3 p4 (.Y [.ref ta,.ref p3])=H4 at s4 h4 Z az a8|-;ext r5 H5 c2 c1 x5;let h5:bA K H5 p4 [.ref ta,.ref p3]:=bA.of (x5.1 _ _ n4 h4);let b6:=az.ext x5;let f5:dR [S.lg,B] fe H H5:=((dR.refl sc.ff).Z (s2.trans Z)).ext x5;let cj:=x5.1 _ _ ab (Z _ _ b0);let c0:=rf.kt f5.kt
 obtain⟨tb,W,c9,T,b7⟩:∃(tb:Yh) (W:Yi (Yg×Yi Kk)),dZ [V.ref ta,V.ref p3] r5=Yb (.ref tb)/\W.Perm kd.2/\Rp K H5 (.t (W.map qA)) (.ref tb):=by
  let k5:=(Kt.Z Z).trans (x5.kt a8);rcases(show r5=0\/r5=1 by omega)with rfl|rfl
  .exact#[ta,kd.2,aF (j:=0) rfl,List.Perm.refl _,a0.kt k5]
  .exact#[p3,kd.2.reverse,aF (j:=1) rfl,List.reverse_perm _,(r3.Z s4).kt (x5.kt a8)]
 let(b3,aw,e,bc,al):=b7.aS;obtain rfl:tb=b3:=V.ref.inj e;let ao:=al.length;rw[bM]at ao;let c5:W.length=kd.2.length:=T.length_eq;clear rt a0 b1 be r3;ext;refine eY (K:=K) (xs:=aw) (λi σ H6=>∃arms ks us m' o9 a3 a2 a1,σ=[Yb (.ref fe),Yb (.ref d),Yb (.ref la),Yb (.int share),Yb (.int down),o5,Yb (.ref ta),Yb fv,Yb (.ref B),o9,a3,a2,a1]/\Nt K fe d S kl nm ds ns m1 share.toNat down.toNat W B H i H6 arms ks us m'/\Kt H5 H6) #[[],[],[],m1,_,_,_,_,rfl,#[b6,f5,cj,.nil,rfl,rfl,rfl,λj a t h=>by simp at h,by rw[Nat.zero_mul];calc .nil (i5 _),λ_ h=>nomatch h],Kt.refl] ?_ ?_ ?_
 .rintro i σ H6 hi ⟨_,_,_,_,_,_,_,_,_,_,k6⟩;exact bc.kt k6
 .rintro i xv σ H6 hxv ⟨arms,ks,us,m',_,_,_,_,rfl,p,k6⟩;let(t,ht,rx):=al.get' hxv;rw[vv]at ht;let(O,ad,rfl):=ri.mp ht;let cf:=(bH.mp ad).1;let cp:W.take (i+1)=W.take i++[O]:=by rw[i3 cf,(bH.mp ad).2]
  let cy:=a4 O (T.mem_iff.mp (xn ad));let(ga,w1,w2,rfl,cn,q1,q2):=(show Rp K H5 (.t [.s O.1,.t (O.2.map mX)]) xv from rx).t2;obtain rfl:=q1.aL;let(ia,l,rfl,cd,ce):=q2.aS;let bn:=ce.length;rw[bM]at bn;let cw:=cn.kt k6;let bf:=p.sc;let ch:=bf.ff;ext u H7 b2 cx x7;let I:=bf.ext x7;let a5:=x7.kt ch;let cv:=(cd.kt k6).kt a5;let db:=I.get (uR S);let c8:=I.ln;ext;refine mw (n:=l.length) (λq σ us H8=>(∃y,σ=[y,Yb (.ref d),Yb (.int u)])/\H8=H7/\us=(iU nm u q).map V.str) #[#[_,rfl],rfl,rfl] ?_ (small ()) ?_ ?_
  .rintro q σ us H8 h ⟨_,_,rfl⟩;rw[bM,sW];exact i5 _
  .rintro q σ us8 H8 hq ⟨⟨_,rfl⟩,rfl,rfl⟩;let oa:=Kf I.l6 b2 q;ext;rw[EE,i4];rfl
  .rintro σ us8 H8 ⟨⟨_,rfl⟩,rfl,rfl⟩ p9 hp9;let s9:=ae hp9 (.Y ((iU nm u l.length).map V.str));let h9:upd H8 p9 (.Y ((iU nm u l.length).map V.str)) p9=Yb (.Y ((iU nm u l.length).map V.str)):=af;generalize upd H8 p9 (.Y ((iU nm u l.length).map V.str))=H9 at s9 h9|-;let b5:=I.Z s9;let bv:H6 la=Yb (.Y (ns.map V.str)):=p.fr.MT nlg (au hla C) nla hla;let bt:=s9 _ _ (x7.1 _ _ nla bv);let da:=s9 _ _ (x7.1 _ _ ab p.ha);ext;calc .inl #[bA.of h9,λJ ar=>?_];let aa:=ae ar (.J ((iU nm u l.length).map V.str));let bj:Rp K (upd H9 J (.J ((iU nm u l.length).map V.str))) (.t ((iU nm u l.length).map .s)) (.ref J):=Rp.new (K:=K) ar (bR.strs _);let cm:=aa _ _ h9;let a7:=aa _ _ bt;let M:=b5.Z aa;generalize upd H9 J (.J ((iU nm u l.length).map V.str))=H10 at aa bj cm a7 M|-;let lc:(ns.map V.str).length+((iU nm u l.length).map V.str).length<=lj:=small (by rw[bM,bM,sW];omega);ext ac ah;let ea:ns.map V.str++(iU nm u l.length).map V.str=(ns++iU nm u l.length).map V.str:=by rw[i4]
   rw[ea];let aj:=ae ah (.Y ((ns++iU nm u l.length).map V.str));let cl:upd H10 ac (.Y ((ns++iU nm u l.length).map V.str)) ac=Yb (.Y ((ns++iU nm u l.length).map V.str)):=af;let c3:ac≠fe:=bB M.ff ah;let ct:ac≠S.lg:=(au M.lg ah).symm;generalize upd H10 ac (.Y ((ns++iU nm u l.length).map V.str))=H11 at aj cl|-;let cs:=M.Z aj;let cz:(0:Int)<=share:=()
   let bb:∀x∈iU nm u l.length,Wo x:=λx hx=>by
    let(q,hq,rfl):=O2.mp hx;let hl:(u.toNat+q) % 5<nm.length:=by let:=I.l6;omega
    rw[PX,my hl];exact I.nw _ (Pu hl)
   let cr:∀x∈ns++iU nm u l.length,Wo x:=λx hx=>(IF.mp hx).elim (wns x) (bb x);let cu:(ns++iU nm u l.length).length+2*down.toNat<=80:=by rw[mu,sW];omega
   ext av ai X bm L;let Y:=s9.trans (aa.trans aj);let ap:=(Kt.Z Y).trans L.fr.kt;let ca:Rp K ai (.t ((iU nm u l.length).map .s)) (.ref J):=(bj.Z aj).kt L.fr.kt;let x6:dR [S.lg,B] fe H ai:=(((p.fr.ext x7).Z Y)).trans (L.fr.sub λz hz=>by rw[tF.mp hz];calc .head _);let bw:ai B=Yb (.Y us):=L.fr.iT bl ab (Y _ _ (x7.1 _ _ ab p.ha));let b9:=p.r.kt (a5.trans ap);let c4:us.length<lj:=aV (by rw[p.r.length,PV,p.la];omega);ext R aq;let Q:=ae aq (.J [.str O.1,.ref J,av]);let bi:Rp K (upd ai R (.J [.str O.1,.ref J,av])) (jE (O.1,iU nm u l.length) (enc X)) (.ref R):=Rp.new (K:=K) (xs:=[.s O.1,.t ((iU nm u l.length).map .s),enc X]) aq (.cons .s (.cons ca (.one L.r)));let N:=Q _ _ bw;let ba:=x6.Z Q;let am:=L.sc.Z Q;let an:=b9.Z Q;generalize upd ai R (.J [.str O.1,.ref J,av])=H13 at Q bi N ba am an|-;let a6:Kt H13 (upd H13 B (.Y (us++[.ref R]))):=Kt.Y N _;let bh:fu K (upd H13 B (.Y (us++[.ref R]))) fe d S kl nm ds bm:=am.other sc C N _;ext
   .refine Nt.mk (arms:=arms++[(O.1,iU nm u l.length)]) (ks:=ks++[X]) (us:=us++[.ref R]) (m':=bm) bh (ba.upd (PK _ (.head _)) ab N) af ?_ (by rw[mu,p.la];rfl) (by rw[mu,p.lk];rfl) ?_ ?_ ?_ (λa U=>(IF.mp U).elim (p.w a) (λz=>by rw[tF.mp z];calc#[(sc.kk.nw kd hk).2 O (T.mem_iff.mp (xn ad)),bb]))
    .rw[i4,OQ,Qn,EG (by rw[bM,p.la,p.lk])];exact(an.kt a6).snoc (bi.kt a6)
    .rw[i4,cp,i4,p.nm];rfl
    .intro q a t U bo
     by_cases c:q<arms.length
     .rw[Px c]at U;exact p.ok q a t U bo
     .rw[Ph ()]at U
      let hq:q=i:=by
       let:=(bH.mp U).1;let:[(O.1,iU nm u l.length)].length=1:=rfl;let:=p.la;omega
      subst hq;rw[p.la,Va]at U
      cases U
      obtain rfl:O=t:=OL (ad.symm.trans bo);exact#[by rw[sW];calc bn,Hu I.l6 I.un ()]
    .rw[i4,U8];calc jO.snoc p.g (by rw[bM,p.la,p.lk]) ?_;let e:=L.g;rw[QO ()]at e;exact e
   .exact(((k6.trans a5).trans ap).trans (Kt.Z Q)).trans a6
 .rintro σ H6 ⟨arms,ks,us,m',_,_,_,_,rfl,p,k6⟩;let b8:=rf.kt p.fr.kt;let ci:=p.ha;ext;calc .inl #[bA.of ci,λp7 bq=>?_];let s7:=ae bq (.J us);let r7:=Rp.new (K:=K) bq p.r;generalize upd H6 p7 (.J us)=H7 at s7 r7|-;ext p8 bp;let s8:=ae bp (.J [.str "match",fv,.ref p7]);let cc:=p.la;let cb:=p.lk
  let r8:Rp K (upd H7 p8 (.J [.str "match",fv,.ref p7])) (enc (.mk (.mat arms) (ft::ks))) (.ref p8):=by
   rw[bI];exact Rp.new (K:=K) (xs:=[.s "match",enc ft,.t (O9 jE arms (ks.map enc))]) bp (.cons .s (.cons (b8.Z s7) (.one r7)))
  let bk:=p.nm;rw[ao,OO]at bk;let co:dR [S.lg] fe H H6:=#[λb o n1 n2 e=>p.fr.oth b o (λz=>(L0.mp z).elim (λz=>n1 (by rw[z];calc .head _)) (λz=>by rw[tF.mp z,C]at e;cases e)) n2 e,p.fr.kt,p.fr.ff];calc k _ _ (.mk (.mat arms) (ft::ks)) m' ((p.sc.Z s7).Z s8) ((co.Z s7).Z s8) r8 ?_;refine mO.G9 (d:=down.toNat) (z:=share.toNat+aw.length*share.toNat) ?_ ?_ ?_ p.w ?_ ?_ ?_
  .show((ks.length+1) == arms.length+1)=Yd;rw[cc,cb];simp
  .intro b hb;rcases L0.mp (show b∈[]::arms.map (·.2)from hb)with rfl|hb
   .exact ON _
   .have(a,U,rfl):=O2.mp hb;let(q,hq):=Po U;let ag:q<W.length:=by let:=(bH.mp hq).1;omega
    let:=(p.ok q a _ hq (my ag)).1;let:=a4 W[q] (T.mem_iff.mp (Pu ag));omega
  .intro a9 e;obtain rfl:arms=a9:=Hd.mat.inj e;calc#[(),λa U=>?_];let(q,hq):=Po U;let ag:q<W.length:=by let:=(bH.mp hq).1;omega
   let:=(p.ok q a _ hq (my ag)).1;let:=a4 W[q] (T.mem_iff.mp (Pu ag));omega
  .intro g0
   show(match fz kl arms with
    |some f=>Except.error f
    |none=>Except.ok g0)=_
   rw[Hr sc.kk hk T bk p.ok]
  .have e:=gf;rw[QO ()]at e;exact jO.jl e p.g
  .have:aw.length*share.toNat<=3*share.toNat:=Ro _ ();omega
def Cs (hj:1<=j)(F:jn K "_law_named_match" "_law_named_match" ck f fd)(TK:Za "_law_take" 1 WQ cU gT tfd)(L:Za "_law_named" j WO (fF K n) gN nfd)(p:mg "len"=Yc)(z_range:mg "range"=Yc)(o:mg "tuple"=Yc):Zt gz (j+1) f fd W5 (uS K n):=by
 refine F.ok cE (λvs H Q E h=>?_) (λcdv A outer s H vs Q E hr h=>?_)
 .have(_,_,_,_,_,_,_,_,_,_,_,rfl,_):=h;rfl
 let(fe,d,la,q,J,S,kl,nm,ds,ns,m,rfl,z,ao,aa,u,B,R,O,ad,dn,W,N,k):=h;refine#[_,(Z5 (@iD _ _ _ _ _ _ (Zh aI (Zi (va aN 1)) (Z0 TK (Z1 (va aN 0) (Z1 (Z2 aM p OS (Z1 (Zi (va aN 1)) aA)) aA)))) (Zb (2) (Zf (ga cE.nd cO 5) (Zs (ga cE.nd cO 6)))) (by rfl) (by rfl) (by rfl)) (Z5 (Z4 cE.nd cO 7 (Z0 L (Z1 (va aN 0) (Z1 (va aN 1) (Z1 (va aN 2) (Z1 (va aN 3) (Zc (va aN 4)))))))) dz)),?_]
 right
 let hf:=z.ff;let gk:=z.get (zf S);let(ka,l,e,C,D):=z.kd.aS;let ek:S.kd=ka:=V.ref.inj e;rw[<-ek]at C;let X:=D.length;rw[bM]at X;let l3:=z.kk.l3;let an:(0:Int)<(l.length:Int):=()
 let am:(l.length:Int)<1073741824:=()
 ext r H1 r0 r1 M;let ak:=z.ext M;let Y:=M.kt hf;let ag:=C.kt Y;let(v1,Z,_):=pQ (xs:=l) r0 r1;let G:r.toNat<l.length:=()
 let(t,ht,rv):=D.get' (i:=r.toNat) (v:=v1) (by
  let:=aF (xs:=l) (j:=r.toNat) (v:=l[r.toNat]) (my G);rw[show((r.toNat:Nat):Int)=r by omega,Z]at this;rw[my G];calc this.symm)
 rw[vv]at ht;let(kd,ab,rfl):=ri.mp ht;let(qa,w1,w2,rfl,U,q1,q2):=(show Rp K H (.t [.s kd.1,.t (kd.2.map qA)]) v1 from rv).t2;obtain rfl:=q1.aL;let(ta,ah,rfl,_,_):=q2.aS;let ae:=U.kt Y;let I:=M.1 _ _ u aa;let aj:(0:Int)<=q:=()
 let al:ns.length+2*J.toNat<=80:=()
 ext v2 H2 ai m2 y;ext;let f2:dR [S.lg] fe H H2:=(Ext.uZ hf M).trans y.fr;calc Hv hj TK L p z_range o hr y.sc (xn ab) (y.fr.iT B u I) u B R O ad dn W N ((q2.kt Y).kt y.fr.kt) y.r y.g λv' H' tm m' T ac r' g'=>k v' H' tm m' #[T,f2.trans ac,r',g']
structure x8(K:bN) (fe d la:Yh) (S:Sn) (kl:Kl) (nm:Yi Yg) (ds:Yi (Yg×Nat)) (ns:Yi Yg) (room down:Int) (n:Nat) (H:Hp) (m:Nat):Prop where
 sc:fu K H fe d S kl nm ds m
 hla:H la=Yb (.Y (ns.map V.str))
 nla:la≠fe
 nlg:la≠S.lg
 r5:5<=room
 rh:room<=100
 d1:1<=down
 dn:down<n+1
 ln:ns.length+2*down.toNat<=80
 wn:∀x∈ns,Wo x
meta def Aj(D:L2.Ends)(K:bN)(o d:Yh)(S:Sn)(kl:Kl)(p:Yi Yg)(ds:Yi (Yg×Nat))(ns:Yi Yg)(q:Nat)(e g:Int)(H:Hp):Prop:=∀(v:V) (j:Hp) (l:Tm) (m:Nat),fu K j o d S kl p ds m->dR [S.lg] o H j->Rp K j (enc l) v->mO kl ds S.f0 ns q m e.toNat (g.toNat-1+1) l->D.rt v j
def x8.step (x:x8 K fe d la S kl nm ds ns room down n H m)(e:fu K H' fe d S kl nm ds m')(fr:dR [S.lg] fe H H'):x8 K fe d la S kl nm ds ns room down n H' m':=#[e,fr.iT x.nlg x.nla x.hla,x.nla,x.nlg,x.r5,x.rh,x.d1,x.dn,x.ln,x.wn]
def x8.ext (x:x8 K fe d la S kl nm ds ns room down n H m)(e:Ext fe H H'):x8 K fe d la S kl nm ds ns room down n H' m:=x.step (x.sc.ext e) (Ext.uZ x.sc.ff e)
def x8.Z (x:x8 K fe d la S kl nm ds ns room down n H m)(e:aR H H'):x8 K fe d la S kl nm ds ns room down n H' m:=x.ext ((Ext.refl x.sc.ff).Z e)
def Aj.step (k:Aj D K fe d S kl nm ds ns m0 room down H)(fr:dR [S.lg] fe H H'):Aj D K fe d S kl nm ds ns m0 room down H':=λv j e m' s f r g=>k v j e m' s (fr.trans f) r g
def Aj.ext (k:Aj D K fe d S kl nm ds ns m0 room down H)(g:dc H fe)(e:Ext fe H H'):Aj D K fe d S kl nm ds ns m0 room down H':=k.step (Ext.uZ g e)
def aC :Nm WM (ak aW):=by decide
def iI :Lm WM (ak aW):=by decide
def fX :aY WM WO (ak aW):=by ac_rfl
def Hw {P:we}{w:OR}{K:bN}{mg:Yg->Option eF}{base:Heap}{gT:Yh}{tfd:EF}{f:Yh}{cdv:eF}{A:OW}{s:fy}{H1:Hp}{n j:Nat}{D:L2.Ends}{H:Hp}{fe d la:Yh}{room down form share:Int}{S:Sn}{kl:Kl}{nm:Yi Yg}{ds:Yi (Yg×Nat)}{ns:Yi Yg}{m m0 m1:Nat}{vo vt:V}{one other:Tm}{o7 o8 o12 o13:Option V}(hj:1<=j)(TK:Za "_law_take" 1 WQ cU gT tfd)(l:mg "len"=Yc)(hr:dU j (A.deeper (OV "_law_named" (ak aW) s⁻¹ f cdv))){ls:Yh}{vs:Yi V}{ps:Yi (Yg×Nat)}(X:x8 K fe d la S kl nm ds ns room down n H m)(k:Aj D K fe d S kl nm ds ns m0 room down H)(hsh:share=(room-1) / 3)(ro:Rp K H (enc one) vo)(go:mO kl ds S.f0 ns m0 m1 share.toNat (down.toNat-1) one)(rt:Rp K H (enc other) vt)(gt:mO kl ds S.f0 ns m1 m share.toNat (down.toNat-1) other)(hls:H ls=Yb (.Y vs))(nls:ls≠fe)(rls:bR K H (ps.map EB) vs)(lps:ps.length<=20)(hps:ps≠[]->(form=6/\ps=xZ kl)\/(form=7/\ps=ds)):
  jL (Zl gz WM "_law_named" (ak aW) H1).pB ((bx aW).drop 13) D [Yb (.ref fe),Yb (.ref d),Yb (.ref la),Yb (.int room),Yb (.int down),Yb (.int form),Yb (.int share),o7,o8,Yb vo,Yb vt,Yb (.ref ls),o12,o13] H:=by
 refine fg ((Z5 (Z8 (Zg bO (Z2 aM l OS (Zc (va aC 11))) aB (bz _)) (Zd (Zp (Zk (Z1 aD (Z1 (@b6 _ _ _ _ _ _ _ _ _ _ gy (Zk (Z1 (va aC 9) (Zc (va aC 10)))) cQ (@bZ _ _ _ (Z0 TK (di (va aC 0) (Zc aB))))) aA)))))) (Z5 (@iD _ _ _ _ _ _ (Zh aZ (va aC 11) (Z0 TK (Z1 (va aC 0) (Z1 (Z2 aM l OS (Zc (va aC 11))) aA)))) (Zb (2) (Zf (ga fX.nd iI 12) (Zs (ga fX.nd iI 13)))) (by rfl) (by rfl) (by rfl)) (Zd (Zp (Zk (Z1 (Zh aZ (Zq (di aD (Zc aD))) (bU jP (va aC 5) aB)) (Z1 (va aC 12) (Z1 (@b6 _ _ _ _ _ _ _ _ _ _ gy (Zk (Z1 (va aC 9) (Z1 (va aC 10) (Z1 (Zk (di aD (Zc aB))) aA)))) cQ (bZ (va aC 13))) aA))))))))) ?_
 right
 let I:=X.sc.ff;let B:=rls.length;rw[bM]at B;let r5:=X.r5;let a0:1<=share:=()
 ext;refine bP (λc=>?_) (λc=>?_)
 .ext;calc nw λp2 H2 s2 ad a2=>?_;let h2:bY K H2 p2 [vo,vt]:=bY.of ad;let aw:=I.Z s2;ext r3 H3 as U L;let h3:=h2.kt (L.kt aw);let ai:Ext fe H H3:=((Ext.refl I).Z s2).trans L;ext p4 H4 s4 h4;let o:=ai.Z s4;let T:=ro.kt (o.kt I);let am:=rt.kt (o.kt I);obtain⟨q,rfl⟩:∃q:Nat,r3=q:=#[r3.toNat,()];rw[gr]at h4;ext M C;let s5:=ae C (.J [.str "row",.ref p4]);let O:=o.Z s5;let al:=X.sc.ext O;let f5:dR [S.lg] fe H _:=Ext.uZ I O
  let fin:∀ks:Yi Tm,bR K H4 (ks.map enc) ([vo,vt].take q)->jO kl ds S.f0 ns (L1 ks.length []) m0 m (share.toNat+share.toNat) (down.toNat-1) ks->D.rt (.ref M) (upd H4 M (.J [.str "row",.ref p4])):=λks rk J=>by
   refine k _ _ (.mk .row ks) m al f5 ?_ (mO.G9 rfl mQ (iH ⋯) True.intro (λ_=>rfl) J ())
   rw[bI];exact Rp.new (K:=K) (xs:=[.s "row",.t (ks.map enc)]) C (.cons .s (.one (Rp.t h4 rk)))
  let mm:=go.mm;let v:=gt.mm
  match q,U with
  |0,_=>calc fin [] .nil (by let:=jO.nil (kl:=kl) (ds:=ds) (f0:=S.f0) (ns:=ns) (d:=down.toNat-1) (bs:=[]) (show m0<=m by omega);calc#[this.wn,this.ta,by let:=this.sz;omega,this.dp,this.gd,this.mm])
  |1,_=>calc fin [one] (.one T) (by let:=jO.jl go (jO.nil (bs:=[]) v);calc#[this.wn,this.ta,by let:=this.sz;omega,this.dp,this.gd,this.mm])
  |2,_=>exact fin [one,other] (.cons T (.one am)) (jO.jl go (jO.jl gt (jO.nil (bs:=[]) (i5 _))))
 .have aa:ps≠[]:=λz=>c (by rw[z]at B;rw[B];rfl)
  let l0:(0:Int)<(vs.length:Int):=by
   let:=List.length_pos_iff.mpr aa;omega
  let l1:(vs.length:Int)<1073741824:=()
  ext r3 H3 as U L;let h3:=L.1 _ _ nls hls;let hq:r3.toNat<vs.length:=()
  let Y:r3.toNat<ps.length:=()
  let(v3,av,Q):=rls.get (i:=r3.toNat) (x:=EB ps[r3.toNat]) (by rw[vv,my Y];rfl)
  let a3:dZ vs r3=Yb v3:=by
   let:=aF (xs:=vs) (j:=r3.toNat) av
   rwa [show((r3.toNat:Nat):Int)=r3 by omega]at this
  let g:ps[r3.toNat]∈ps:=Pu Y;generalize ps[r3.toNat]=pp at Q g;let(qa,w1,w2,rfl,au,q1,q2):=(show Rp K H (.t [.s pp.1,.i pp.2]) v3 from Q).t2;obtain rfl:=q1.aL;obtain rfl:=q2.jS;let k3:=L.kt I;let ax:=au.kt k3;let ao:=ro.kt k3;let an:=rt.kt k3
  let wd:∃z:Yg,∃h:Yi Tm->Tm,dZ [V.str "tag",V.str "call"] (form-6)=Yb (.str z)/\(∀ks,enc (h ks)=.t [.s z,.s pp.1,.t (ks.map enc)])/\pp.2<=3/\∀ks zz,ks.length=pp.2->jO kl ds S.f0 ns (L1 ks.length []) m0 m zz (down.toNat-1) ks->zz+1<=room.toNat->mO kl ds S.f0 ns m0 m room.toNat (down.toNat-1+1) (h ks):=by
   rcases hps aa with⟨rfl,e⟩|⟨rfl,e⟩<;>rw[e]at g
   .have(yt,e1,e2):=Ke X.sc.kk g;refine#["tag",λks=>.mk (.tag pp.1) ks,aF (j:=0) rfl,λks=>by rw[bI];rfl,?_,λks zz W J hz=>mO.G9 rfl mQ (iH ⋯) (by let(kk,G,hp):=QD.mp g;let(t,ht,e):=O2.mp hp;rw[<-e];calc(X.sc.kk.nw kk G).2 t ht) (λg0=>?_) J hz]
    .have(kk,G,hp):=QD.mp g;let(t,ht,rfl):=O2.mp hp;let:=(X.sc.kk.pt kk G).2.2 t ht;show t.2.length<=3;omega
    .show(match jR kl pp.1 with
      |none=>Except.error (Er.nn,pp.1)
      |some y=>if ks.length=y.2.2.length then Except.ok g0 else .error (.wr,pp.1))=_
     rw[e1];dsimp only;rw[if_pos (by rw[W,e2])]
   .refine#["call",λks=>.mk (.call pp.1) ks,aF (j:=1) rfl,λks=>by rw[bI];rfl,X.sc.d3 pp g,λks zz W J hz=>mO.G9 rfl mQ (iH ⋯) (X.sc.dw pp g) (λg0=>?_) J hz]
    show(match ds.find? (λd=>decide (d.1=pp.1))with
      |none=>Except.error (Er.nn,pp.1)
      |some y=>if ks.length=y.2 then Except.ok g0 else .error (.wr,pp.1))=_
    rw[mR (λp:Yg×Nat=>p.1) X.sc.dn g];dsimp only;rw[if_pos W]
  let(z,hh,az,eh,p3,gh):=wd;ext;calc nw λl4 H4 s4 ag a4=>?_;let h4:bA K H4 l4 [.str "tag",.str "call"]:=bA.of ag;ext;calc nw λM H5 s5 ac C=>?_;let ar:Rp K H5 (enc (.mk (.num 3) [])) (.ref M):=by rw[bI];exact Rp.nw (K:=K) ac s5 (.cons .s (.one .i))
  ext;calc nw λp6 H6 s6 ab a1=>?_;let h6:bY K H6 p6 [vo,vt,.ref M]:=bY.of ab;let aq:=ar.Z s6;ext p7 H7 s7 h7;rw[gr]at h7;let r:=((s4.trans s5).trans s6).trans s7;let ah:Ext fe H H7:=L.Z r;let u:=ao.Z r;let R:=an.Z r;let ap:=aq.Z s7;ext p8 Z;let s8:=ae Z (.J [.str z,.str pp.1,.ref p7]);let N:=ah.Z s8;let aj:=X.sc.ext N;let f8:dR [S.lg] fe H _:=Ext.uZ I N
  let fin:∀ks:Yi Tm,ks.length=pp.2->bR K H7 (ks.map enc) ([vo,vt,.ref M].take pp.2)->jO kl ds S.f0 ns (L1 ks.length []) m0 m (share.toNat+(share.toNat+1)) (down.toNat-1) ks->D.rt (.ref p8) (upd H7 p8 (.J [.str z,.str pp.1,.ref p7])):=λks W rk J=>by
   calc k _ _ (hh ks) m aj f8 ?_ (gh ks _ W J ());rw[eh];exact Rp.new (K:=K) (xs:=[.s z,.s pp.1,.t (ks.map enc)]) Z (.cons .s (.cons .s (.one (Rp.t h7 rk))))
  let mm:=go.mm;let v:=gt.mm;let g3:mO kl ds S.f0 ns m m 1 (down.toNat-1) (.mk (.num 3) []):=.leaf rfl (λb hb=>by cases hb) (iH ⋯) True.intro (λ_=>rfl) (i5 _)
  generalize pp.2=q at p3 fin
  match q,p3 with
  |0,_=>calc fin [] rfl .nil (by let:=jO.nil (kl:=kl) (ds:=ds) (f0:=S.f0) (ns:=ns) (d:=down.toNat-1) (bs:=[]) (show m0<=m by omega);calc#[this.wn,this.ta,by let:=this.sz;omega,this.dp,this.gd,this.mm])
  |1,_=>calc fin [one] rfl (.one u) (by let:=jO.jl go (jO.nil (bs:=[]) v);calc#[this.wn,this.ta,by let:=this.sz;omega,this.dp,this.gd,this.mm])
  |2,_=>calc fin [one,other] rfl (.cons u (.one R)) (by let:=(jO.jl go (jO.jl gt (jO.nil (bs:=[]) (i5 _))));calc#[this.wn,this.ta,by let:=this.sz;omega,this.dp,this.gd,this.mm])
  |3,_=>calc fin [one,other,.mk (.num 3) []] rfl (.cons u (.cons R (.one ap))) (by let:=(jO.jl go (jO.jl gt (jO.jl g3 (jO.nil (bs:=[]) (i5 _)))));calc#[this.wn,this.ta,by let:=this.sz;omega,this.dp,this.gd,this.mm])
def Hz {P:we}{w:OR}{K:bN}{mg:Yg->Option eF}{base:Heap}{gT:Yh}{tfd:EF}{f:Yh}{cdv:eF}{A:OW}{s:fy}{H1:Hp}{n j:Nat}{D:L2.Ends}{H:Hp}{fe d la:Yh}{room down form share:Int}{S:Sn}{kl:Kl}{nm:Yi Yg}{ds:Yi (Yg×Nat)}{ns:Yi Yg}{m m0 m1:Nat}{vo vt:V}{one other:Tm}{o7 o8 o11 o12 o13:Option V}(hj:1<=j)(TK:Za "_law_take" 1 WQ cU gT tfd)(p:mg "len"=Yc)(e:mg "int"=Yc)(hr:dU j (A.deeper (OV "_law_named" (ak aW) s⁻¹ f cdv)))(X:x8 K fe d la S kl nm ds ns room down n H m)(k:Aj D K fe d S kl nm ds ns m0 room down H)(hsh:share=(room-1) / 3)(ro:Rp K H (enc one) vo)(go:mO kl ds S.f0 ns m0 m1 share.toNat (down.toNat-1) one)(rt:Rp K H (enc other) vt)(gt:mO kl ds S.f0 ns m1 m share.toNat (down.toNat-1) other):
  jL (Zl gz WM "_law_named" (ak aW) H1).pB ((bx aW).drop 12) D [Yb (.ref fe),Yb (.ref d),Yb (.ref la),Yb (.int room),Yb (.int down),Yb (.int form),Yb (.int share),o7,o8,Yb vo,Yb vt,o11,o12,o13] H:=by
 let Q:=X.sc.ff;let aj:=X.sc.get (Bg S);let am:=X.sc.get (xN S);let(l,t1,t2):=X.sc.lt;let(o,d1,T):=X.sc.ld;let I:=t2.length;rw[bM]at I;let J:=T.length;rw[bM]at J;let l9:=EA X.sc.kk;let l8:=X.sc.dl
 let q:∀(t:Yi (Yg×Nat)) (a b:Nat) (r:Yi V),a<=1->b<=1->r=(L1 a l).flatten++(L1 b o).flatten->bR K H (t.map EB) r->(t≠[]->(form=6/\t=xZ kl)\/(form=7/\t=ds))->(if decide (V.int form=V.int 6)=Yd then(1:Int)else 0)=(a:Int)->(if decide (V.int form=V.int 7)=Yd then(1:Int)else 0)=(b:Int)->jL (Zl gz WM "_law_named" (ak aW) H1).pB ((bx aW).drop 12) D [Yb (.ref fe),Yb (.ref d),Yb (.ref la),Yb (.int room),Yb (.int down),Yb (.int form),Yb (.int share),o7,o8,Yb vo,Yb vt,o11,o12,o13] H:=λt a b r N M R O hp ea eb=>by
  refine fg ((Z5 (Z4 fX.nd iI 11 (Zm iW (Zm C5 (Zi (va aC 1)) (Z9 iM e P8 (Z1 (jA bO (va aC 5) aB (bz _)) aA))) (Zm C5 (Zi (va aC 1)) (Z9 iM e P8 (Z1 (jA bO (va aC 5) aB (bz _)) aA))))) dz)) ?_
  right
  let ad:l.length*((a:Nat):Int).toNat<=lj:=small (by rw[Qa];let:=VL l.length N;omega);let ac:o.length*((b:Nat):Int).toNat<=lj:=small (by rw[Qa];let:=VL o.length M;omega);let ab:(L1 a l).flatten.length<=20:=by rw[len_rep];let:=Ro l.length N;omega
  let aa:(L1 b o).flatten.length<=20:=by rw[len_rep];let:=Ro o.length M;omega
  ext;calc .inr #[_,rfl,?_];rw[ea];ext;calc nw λp2 H2 v L ah=>?_;rw[Qa]at L;let al:=(X.sc.Z v).get (xN S);let an:=v _ _ d1;ext;calc .inr #[_,rfl,?_];rw[eb];ext;calc nw λp3 H3 G h3 ag=>?_;rw[Qa]at h3;let ai:=G _ _ L;let lc:(L1 a l).flatten.length+(L1 b o).flatten.length<=lj:=small ();ext W u;rw[<-R];let U:=ae u (.Y r);let g:=(v.trans G).trans U;let Y:W≠fe:=bB (X.sc.Z (v.trans G)).ff u;let lv:=O.length;rw[bM]at lv
  let Z:r.length<=20:=by
   let:=congrArg Sq R;rw[mu,len_rep,len_rep]at this;let h1:=Ro l.length N;let L:=Ro o.length M;omega
  ext;exact Hw hj TK p hr (X.Z g) (k.ext Q ((Ext.refl Q).Z g)) hsh (ro.Z g) go (rt.Z g) gt af Y (O.Z g) () hp
 by_cases C:form=6
 .exact q (xZ kl) 1 0 l (i5 _) (ON _) (by simp) t2 (λ_=>.inl #[C,rfl]) (by rw[C];rfl) (by rw[C];rfl)
 .by_cases B:form=7
  .exact q ds 0 1 o (ON _) (i5 _) (by simp) T (λ_=>.inr #[B,rfl]) (by rw[B];rfl) (by rw[B];rfl)
  .exact q [] 0 0 [] (ON _) (ON _) (by simp) .nil (λz=>absurd rfl z) (if_neg (λz=>C (V.int.inj (of_decide_eq_true z)))) (if_neg (λz=>B (V.int.inj (of_decide_eq_true z))))
def LX {P:we}{w:OR}{K:bN}{mg:Yg->Option eF}{base:Heap}{gT:Yh}{tfd:EF}{f:Yh}{cdv:eF}{A:OW}{s:fy}{H1:Hp}{n j:Nat}{D:L2.Ends}{H:Hp}{fe d la:Yh}{room down form share:Int}{S:Sn}{kl:Kl}{nm:Yi Yg}{ds:Yi (Yg×Nat)}{ns:Yi Yg}{m m0 m1:Nat}{vo vt:V}{one other:Tm}{o7 o8 o11 o12 o13:Option V}(hj:1<=j)(TK:Za "_law_take" 1 WQ cU gT tfd)(l:mg "len"=Yc)(o:mg "int"=Yc)(hr:dU j (A.deeper (OV "_law_named" (ak aW) s⁻¹ f cdv)))(X:x8 K fe d la S kl nm ds ns room down n H m)(k:Aj D K fe d S kl nm ds ns m0 room down H)(hsh:share=(room-1) / 3)(ro:Rp K H (enc one) vo)(go:mO kl ds S.f0 ns m0 m1 share.toNat (down.toNat-1) one)(rt:Rp K H (enc other) vt)(gt:mO kl ds S.f0 ns m1 m share.toNat (down.toNat-1) other):
  jL (Zl gz WM "_law_named" (ak aW) H1).pB ((bx aW).drop 11) D [Yb (.ref fe),Yb (.ref d),Yb (.ref la),Yb (.int room),Yb (.int down),Yb (.int form),Yb (.int share),o7,o8,Yb vo,Yb vt,o11,o12,o13] H:=by
 refine fg ((Z5 (Z8 (Zn bO (va aC 5) aB) (Zd (Zp (Zh aZ (Zq (Z1 (Zk (Z1 aD (Z1 (Zh wR aD (Z0 TK (di (va aC 0) (Zc aB)))) (Z1 (va aC 9) (Zc (va aC 10)))))) (Z1 (Zk (Z1 aD (Z1 (va aC 9) (Zc (va aC 10))))) aA))) (Z0 TK (di (va aC 0) (Zc aB))))))) dz)) ?_
 right
 let hf:=X.sc.ff;let r5:=X.r5;calc kT ?_;intro N1 c1;let last:N1 [Yb (.ref fe),Yb (.ref d),Yb (.ref la),Yb (.int room),Yb (.int down),Yb (.int form),Yb (.int share),o7,o8,Yb vo,Yb vt,o11,o12,o13] H:=Cut.go c1 (Hz hj TK l o hr X k hsh ro go rt gt);clear c1;ext;refine bP (λc=>?_) (λc=>?_)
 .clear last
  let fin:∀(p:Yh) (R:Hp) (h:Hd),Ext fe H R->Rp K R (enc (.mk h [one,other])) (.ref p)->cM h 2=Yd->(∀b∈bnd h 2,b.length<=5)->uL h->HW h->(∀g0,eK kl ds g0 ns h 2=.ok g0)->bnd h 2=[[],[]]->D.rt (.ref p) R:=λp R h x' r' a1 a2 a3 ah a4 a5=>by
   refine k _ _ (.mk h [one,other]) m (X.sc.ext x') (Ext.uZ hf x') r' (mO.G9 (z:=share.toNat+(share.toNat+0)) a1 a2 a3 ah a4 ?_ ?_)
   .show jO kl ds S.f0 ns (bnd h 2) m0 m _ _ _;rw[a5];exact jO.jl go (jO.jl gt (jO.nil (i5 _)))
   .omega
  let z6:(("+-*:<=":Yg)).length<=lj:=by decide
  ext r2 H2 Y W r;let(Q,ad,_):=pQ (xs:=(("+-*:<=":Yg)).cps.toList) (k:=r2) Y (by rw[show((("+-*:<=":Yg)).cps.toList.length:Int)=6 by decide];calc W);let B:=ro.kt (r.kt hf);let v:=rt.kt (r.kt hf);let ac:=r.2;ext g M;let u:=ae M (.J [.str "op",.str ⟨#[Q]⟩,vo,vt])
  let r3:Rp K (upd H2 g (.J [.str "op",.str ⟨#[Q]⟩,vo,vt])) (enc (.mk (.op ⟨#[Q]⟩) [one,other])) (.ref g):=by
   rw[bI];exact Rp.new (K:=K) M (.cons .s (.cons .s (.cons B (.one v))))
  generalize upd H2 g (.J [.str "op",.str ⟨#[Q]⟩,vo,vt])=H3 at u r3|-;ext e L;let O:=ae L (.J [.str "more",vo,vt])
  let r4:Rp K (upd H3 e (.J [.str "more",vo,vt])) (enc (.mk .more [one,other])) (.ref e):=by
   rw[bI];exact Rp.new (K:=K) L (.cons .s (.cons (B.Z u) (.one (v.Z u))))
  let I:=r3.Z O;generalize upd H3 e (.J [.str "more",vo,vt])=H4 at O r4 I|-;ext q J;let N:=ae J (.Y [.ref g,.ref e]);let h5:upd H4 q (.Y [.ref g,.ref e]) q=Yb (.Y [.ref g,.ref e]):=af;let U:Ext fe H (upd H4 q (.Y [.ref g,.ref e])):=((r.Z u).Z O).Z N;let n5:q≠fe:=bB ((r.Z u).Z O).2 J;let C:=r4.Z N;let G:=I.Z N;generalize upd H4 q (.Y [.ref g,.ref e])=H5 at N h5 U C G|-;let Z:=U.2;ext r6 H6 ab aa T;let h6:bA K H6 q [.ref g,.ref e]:=bA.of (T.1 _ _ n5 h5);let t:=U.trans T;let k6:=T.kt Z;rcases(show r6=0\/r6=1 by omega)with rfl|rfl
  .have a0:dZ [V.ref g,V.ref e] 0=Yb (.ref g):=aF (j:=0) rfl;ext;exact fin _ _ _ t (G.kt k6) rfl mQ (iH ⋯) True.intro (λ_=>rfl) rfl
  .have a0:dZ [V.ref g,V.ref e] 1=Yb (.ref e):=aF (j:=1) rfl;ext;exact fin _ _ _ t (C.kt k6) rfl mQ (iH ⋯) True.intro (λ_=>rfl) rfl
 .ext;calc last
def LY {P:we}{w:OR}{K:bN}{mg:Yg->Option eF}{base:Heap}{gT gN:Yh}{tfd nfd:EF}{f:Yh}{cdv:eF}{A:OW}{s:fy}{H1:Hp}{n j:Nat}{D:L2.Ends}{H:Hp}{fe d la:Yh}{room down form share:Int}{S:Sn}{kl:Kl}{nm:Yi Yg}{ds:Yi (Yg×Nat)}{ns:Yi Yg}{m m0 m1:Nat}{vo vt:V}{one other:Tm}{o7 o8 o11 o12 o13:Option V}(T:1<=j)(U:Za "_law_take" 1 WQ cU gT tfd)(v:Za "_law_named" j WO (fF K n) gN nfd)(e:mg "len"=Yc)(l:mg "int"=Yc)(hr:dU j (A.deeper (OV "_law_named" (ak aW) s⁻¹ f cdv)))(X:x8 K fe d la S kl nm ds ns room down n H m)(k:Aj D K fe d S kl nm ds ns m0 room down H)(hsh:share=(room-1) / 3)(ro:Rp K H (enc one) vo)(go:mO kl ds S.f0 ns m0 m1 share.toNat (down.toNat-1) one)(rt:Rp K H (enc other) vt)(gt:mO kl ds S.f0 ns m1 m share.toNat (down.toNat-1) other):
  jL (Zl gz WM "_law_named" (ak aW) H1).pB ((bx aW).drop 10) D [Yb (.ref fe),Yb (.ref d),Yb (.ref la),Yb (.int room),Yb (.int down),Yb (.int form),Yb (.int share),o7,o8,Yb vo,Yb vt,o11,o12,o13] H:=by
 refine fg ((Z5 (Z8 (Zn bO (va aC 5) aB) (Zd (Zp (Zk (Z1 aD (Z1 (va aC 9) (Z1 (va aC 10) (Z1 (Z0 v (Z1 (va aC 0) (Z1 (va aC 1) (Z1 (va aC 2) (Z1 (va aC 6) (Z1 (bU jP (va aC 4) aB) aA)))))) aA)))))))) dz)) ?_
 right
 let hf:=X.sc.ff;let Z:=X.r5;calc kT ?_;intro V G;let last:V [Yb (.ref fe),Yb (.ref d),Yb (.ref la),Yb (.int room),Yb (.int down),Yb (.int form),Yb (.int share),o7,o8,Yb vo,Yb vt,o11,o12,o13] H:=Cut.go G (LX T U e l hr X k hsh ro go rt gt);clear G;let W:=X.sc;let R:=X.hla;let N:=X.nla;let M:=X.nlg;let Y:=X.rh;let d1:=X.d1;let dn:=X.dn;let ln:=X.ln;let I:=X.wn;let L:0<=share:=()
 let Q:ns.length+2*(down-1).toNat<=80:=()
 ext;refine bP (λc=>?_) (λc=>?_)
 .clear last;ext J H2 q O o;let u:=ro.kt o.fr.kt;let t:=rt.kt o.fr.kt;ext p3 p;let B:=ae p (.J [.str "if",vo,vt,J]);let C:=o.g;rw[QO (),show(down-1).toNat=down.toNat-1 by omega]at C;refine k _ _ (.mk .ife [one,other,q]) O (o.sc.Z B) (o.fr.Z B) ?_ (mO.G9 (z:=share.toNat+(share.toNat+(share.toNat+0))) rfl mQ (iH ⋯) True.intro (λ_=>rfl) (jO.jl go (jO.jl gt (jO.jl C (jO.nil (bs:=[]) (i5 _))))) ())
  rw[bI];exact Rp.new (K:=K) p (.cons .s (.cons u (.cons t (.one o.r))))
 .ext;calc last
def LZ {P:we}{w:OR}{K:bN}{mg:Yg->Option eF}{base:Heap}{gT gN:Yh}{tfd nfd:EF}{f:Yh}{cdv:eF}{A:OW}{s:fy}{H1:Hp}{n j:Nat}{D:L2.Ends}{H:Hp}{fe d la:Yh}{room down form share:Int}{S:Sn}{kl:Kl}{nm:Yi Yg}{ds:Yi (Yg×Nat)}{ns:Yi Yg}{m m0 m1:Nat}{x y:Yg}{vo vt:V}{one other:Tm}{o11 o12 o13:Option V}(hj:1<=j)(TK:Za "_law_take" 1 WQ cU gT tfd)(C:Za "_law_named" j WO (fF K n) gN nfd)(e:mg "len"=Yc)(l:mg "int"=Yc)(hr:dU j (A.deeper (OV "_law_named" (ak aW) s⁻¹ f cdv)))(X:x8 K fe d la S kl nm ds ns room down n H m)(k:Aj D K fe d S kl nm ds ns m0 room down H)(hsh:share=(room-1) / 3)(ro:Rp K H (enc one) vo)(go:mO kl ds S.f0 ns m0 m1 share.toNat (down.toNat-1) one)(rt:Rp K H (enc other) vt)(gt:mO kl ds S.f0 ns m1 m share.toNat (down.toNat-1) other)(hxy:x≠y)(hwx:Wo x)(hwy:Wo y):
  jL (Zl gz WM "_law_named" (ak aW) H1).pB ((bx aW).drop 9) D [Yb (.ref fe),Yb (.ref d),Yb (.ref la),Yb (.int room),Yb (.int down),Yb (.int form),Yb (.int share),Yb (.str x),Yb (.str y),Yb vo,Yb vt,o11,o12,o13] H:=by
 refine fg ((Z5 (Z8 (Zn bO (va aC 5) aB) (Zd (Zp (Zk (Z1 aD (Z1 (va aC 9) (Z1 (va aC 7) (Z1 (va aC 8) (Z1 (va aC 10) (Z1 (Z0 C (Z1 (va aC 0) (Z1 (va aC 1) (Z1 (Zm iW (va aC 2) (Zq (Z1 (va aC 7) (Zc (va aC 8))))) (Z1 (va aC 6) (Z1 (bU jP (va aC 4) aB) aA)))))) aA)))))))))) dz)) ?_
 right
 let hf:=X.sc.ff;let r5:=X.r5;calc kT ?_;intro N1 Y;let last:N1 [Yb (.ref fe),Yb (.ref d),Yb (.ref la),Yb (.int room),Yb (.int down),Yb (.int form),Yb (.int share),Yb (.str x),Yb (.str y),Yb vo,Yb vt,o11,o12,o13] H:=Cut.go Y (LY hj TK C e l hr X k hsh ro go rt gt);clear Y;let Q:=X.hla;let ad:=X.nla;let ac:=X.nlg;let rh:=X.rh;let d1:=X.d1;let dn:=X.dn;let ln:=X.ln;let J:=X.wn;let aa:0<=share:=()
 ext;refine bP (λc=>?_) (λc=>?_)
 .clear last;ext l2 R;let G:=ae R (.Y [.str x,.str y]);let h2:upd H l2 (.Y [.str x,.str y]) l2=Yb (.Y [.str x,.str y]):=af;let v:=G _ _ Q;generalize upd H l2 (.Y [.str x,.str y])=H2 at G h2 v|-;let lc:(ns.map V.str).length+([.str x,.str y]:Yi V).length<=lj:=small (by rw[bM];show ns.length+2<=_;omega);ext l3 p;let ea:ns.map V.str++[.str x,.str y]=(ns++[x,y]).map V.str:=by simp
  rw[ea];let M:=ae p (.Y ((ns++[x,y]).map V.str));let h3:upd H2 l3 (.Y ((ns++[x,y]).map V.str)) l3=Yb (.Y ((ns++[x,y]).map V.str)):=af;let o:=X.sc.Z G;let n3:l3≠fe:=bB o.ff p;let ag:l3≠S.lg:=(au o.lg p).symm;generalize upd H2 l3 (.Y ((ns++[x,y]).map V.str))=H3 at M h3|-;let ab:=o.Z M;let t:=G.trans M
  let Z:∀q∈ns++[x,y],Wo q:=λq hq=>(IF.mp hq).elim (J q) (λz=>by
   simp only[L0,O3,or_false]at z;rcases z with rfl|rfl
   .exact hwx
   .exact hwy)
  let ah:(ns++[x,y]).length+2*(down-1).toNat<=80:=by rw[mu];show ns.length+2+_<=_;omega
  ext v4 H4 L m4 B;let U:=(Kt.Z t).trans B.fr.kt;let O:=ro.kt U;let N:=rt.kt U;let f4:dR [S.lg] fe H H4:=((dR.refl hf).Z t).trans B.fr;ext p5 u;let T:=ae u (.J [.str "fold",vo,.str x,.str y,vt,v4]);let W:=B.g;rw[QO (),show(down-1).toNat=down.toNat-1 by omega]at W;refine k _ _ (.mk (.fold x y) [one,other,L]) m4 (B.sc.Z T) (f4.Z T) ?_ (mO.G9 (z:=share.toNat+(share.toNat+(share.toNat+0))) rfl ?_ (iH ⋯) hwx (λg0=>by show(if x=y then Except.error (Er.tw,x)else Except.ok g0)=_;rw[if_neg hxy]) (jO.jl go (jO.jl gt (jO.cons (b:=[x,y]) W (jO.nil (bs:=[]) (i5 _))))) ())
  .rw[bI];exact Rp.new (K:=K) u (.cons .s (.cons O (.cons .s (.cons .s (.cons N (.one B.r))))))
  .intro b I;let I:b∈[[],[],[x,y]]:=I;simp only[L0,O3,or_false]at I;rcases I with rfl|rfl|rfl
   .exact ON _
   .exact ON _
   .show 2<=5;decide
 .ext;calc last
def EH {P:we}{w:OR}{K:bN}{mg:Yg->Option eF}{base:Heap}{gT gN:Yh}{tfd nfd:EF}{f:Yh}{cdv:eF}{A:OW}{s:fy}{H1:Hp}{n j:Nat}{D:L2.Ends}{H:Hp}{fe d la:Yh}{room down form share:Int}{S:Sn}{kl:Kl}{nm:Yi Yg}{ds:Yi (Yg×Nat)}{ns:Yi Yg}{m m0:Nat}{x y:Yg}{vo:V}{one:Tm}{o10 o11 o12 o13:Option V}(J:1<=j)(L:Za "_law_take" 1 WQ cU gT tfd)(p:Za "_law_named" j WO (fF K n) gN nfd)(e:mg "len"=Yc)(l:mg "int"=Yc)(hr:dU j (A.deeper (OV "_law_named" (ak aW) s⁻¹ f cdv)))(X:x8 K fe d la S kl nm ds ns room down n H m)(k:Aj D K fe d S kl nm ds ns m0 room down H)(hsh:share=(room-1) / 3)(ro:Rp K H (enc one) vo)(go:mO kl ds S.f0 ns m0 m share.toNat (down.toNat-1) one)(hxy:x≠y)(hwx:Wo x)(hwy:Wo y):
  jL (Zl gz WM "_law_named" (ak aW) H1).pB ((bx aW).drop 8) D [Yb (.ref fe),Yb (.ref d),Yb (.ref la),Yb (.int room),Yb (.int down),Yb (.int form),Yb (.int share),Yb (.str x),Yb (.str y),Yb vo,o10,o11,o12,o13] H:=by
 refine fg ((Z5 (Z4 fX.nd iI 10 (Z0 p (Z1 (va aC 0) (Z1 (va aC 1) (Z1 (va aC 2) (Z1 (va aC 6) (Z1 (bU jP (va aC 4) aB) aA))))))) dz)) ?_
 right
 let U:=X.sc.ff;let Q:=X.r5;let N:=X.sc;let I:=X.hla;let C:=X.nla;let B:=X.nlg;let O:=X.rh;let W:=X.d1;let V:=X.dn;let T:=X.ln;let u:=X.wn;let z:0<=share:=()
 let G:ns.length+2*(down-1).toNat<=80:=()
 ext M Y v R o;let q:=ro.kt o.fr.kt;let t:=o.g;rw[QO (),show(down-1).toNat=down.toNat-1 by omega]at t;ext;calc LZ J L p e l hr (X.step o.sc o.fr) (k.step o.fr) hsh q go o.r t hxy hwx hwy
def L3 {P:we}{w:OR}{K:bN}{mg:Yg->Option eF}{base:Heap}{gT gN:Yh}{tfd nfd:EF}{f:Yh}{cdv:eF}{A:OW}{s:fy}{H1:Hp}{n j:Nat}{D:L2.Ends}{H:Hp}{fe d la:Yh}{room down form share:Int}{S:Sn}{kl:Kl}{nm:Yi Yg}{ds:Yi (Yg×Nat)}{ns:Yi Yg}{m m0:Nat}{x y:Yg}{vo:V}{one:Tm}{o10 o11 o12 o13:Option V}(hj:1<=j)(TK:Za "_law_take" 1 WQ cU gT tfd)(Q:Za "_law_named" j WO (fF K n) gN nfd)(l:mg "len"=Yc)(o:mg "int"=Yc)(hr:dU j (A.deeper (OV "_law_named" (ak aW) s⁻¹ f cdv)))(X:x8 K fe d la S kl nm ds ns room down n H m)(k:Aj D K fe d S kl nm ds ns m0 room down H)(hsh:share=(room-1) / 3)(ro:Rp K H (enc one) vo)(go:mO kl ds S.f0 ns m0 m (if form=1 then(room-1).toNat else share.toNat) (down.toNat-1) one)(hxy:x≠y)(hwx:Wo x)(hwy:Wo y):
  jL (Zl gz WM "_law_named" (ak aW) H1).pB ((bx aW).drop 6) D [Yb (.ref fe),Yb (.ref d),Yb (.ref la),Yb (.int room),Yb (.int down),Yb (.int form),Yb (.int share),Yb (.str x),Yb (.str y),Yb vo,o10,o11,o12,o13] H:=by
 refine fg ((Z5 (Z8 (Zn bO (va aC 5) aB) (Zd (Zp (Zk (Z1 (Zh aZ (Zq (Z1 aD (di aD (Zc aD)))) (Z0 TK (di (va aC 0) (Zc aB)))) (Zc (va aC 9))))))) (Z5 (Z8 (Zn bO (va aC 5) aB) (Zd (Zp (Zk (Z1 aD (Z1 (va aC 7) (Z1 (va aC 9) (Z1 (Z0 Q (Z1 (va aC 0) (Z1 (va aC 1) (Z1 (Zm iW (va aC 2) (Zq (Zc (va aC 7)))) (Z1 (va aC 6) (Z1 (bU jP (va aC 4) aB) aA)))))) aA)))))))) dz))) ?_
 right
 let v:=X.sc.ff;let r5:=X.r5;let sc:=X.sc;let Z:=X.hla;let aj:=X.nla;let ai:=X.nlg;let rh:=X.rh;let d1:=X.d1;let dn:=X.dn;let ln:=X.ln;let T:=X.wn;let ac:0<=share:=()
 calc jF ?_;intro N1 N2 c1 c2;let last:form≠1->N2 [Yb (.ref fe),Yb (.ref d),Yb (.ref la),Yb (.int room),Yb (.int down),Yb (.int form),Yb (.int share),Yb (.str x),Yb (.str y),Yb vo,o10,o11,o12,o13] H:=λc=>Cut.go c2 (EH hj TK Q l o hr X k hsh ro (by rw[if_neg c]at go;calc go) hxy hwx hwy);clear c2;ext;refine bP (λc=>?_) (λc=>?_)
 .have c':form=1:=V.int.inj (of_decide_eq_true c);rw[if_pos c']at go;clear last c1;ext;calc nw λl2 H2 u h2 M=>?_;let an:=v.Z u;let n2:=bB v M;ext r3 H3 ah ag x3;let h3:bA K H3 l2 [.str "first",.str "others",.str "long"]:=bA.of (x3.1 _ _ n2 h2);let C:Ext fe H H3:=((Ext.refl v).Z u).trans x3;let Y:=ro.kt (C.kt v)
  obtain⟨z,hh,az,e1,e2,e3,e4,eh,e5,e6⟩:∃(z:Yg) (h:Hd),dZ [V.str "first",V.str "others",V.str "long"] r3=Yb (.str z)/\enc (.mk h [one])=.t [.s z,enc one]/\cM h 1=Yd/\(∀b∈bnd h 1,b.length<=5)/\uL h/\HW h/\(∀g0,eK kl ds g0 ns h 1=.ok g0)/\bnd h 1=[[]]:=by
   rcases(show r3=0\/r3=1\/r3=2 by omega)with rfl|rfl|rfl
   .exact#["first",.first,aF (j:=0) rfl,by rw[bI];rfl,rfl,mQ,iH ⋯,True.intro,λ_=>rfl,rfl]
   .exact⟨"others",.others,aF (j:=1) rfl,by rw[bI];rfl,rfl,mQ,iH ⋯,True.intro,λ_=>rfl,rfl⟩
   .exact⟨"long",.long,aF (j:=2) rfl,by rw[bI];rfl,rfl,mQ,iH ⋯,True.intro,λ_=>rfl,rfl⟩
  ext p4 J;let s4:=ae J (.J [.str z,vo]);let B:=C.Z s4;refine k _ _ (.mk hh [one]) m (sc.ext B) (Ext.uZ v B) ?_ (mO.G9 (z:=(room-1).toNat+0) e2 e3 e4 eh e5 ?_ ())
  .rw[e1];exact Rp.new (K:=K) J (.cons .s (.one Y))
  .show jO kl ds S.f0 ns (bnd hh 1) m0 m _ _ _;rw[e6];exact jO.jl go (jO.nil (i5 _))
 let O:form≠1:=λz=>c (by rw[z];rfl);let e:=last O;rw[if_neg O]at go;clear last;ext;refine bP (λc=>?_) (λc=>?_)
 .clear e;ext;calc nw λl2 H2 u h2 M=>?_;let aa:=u _ _ Z;let lc:(ns.map V.str).length+([.str x]:Yi V).length<=lj:=small (by rw[bM];show ns.length+1<=_;omega);ext;calc nw λl3 H3 s3 h3 L=>?_;let ea:ns.map V.str++[.str x]=(ns++[x]).map V.str:=by simp
  rw[ea]at h3;let p:=X.sc.Z u;let n3:l3≠fe:=bB p.ff L;let al:l3≠S.lg:=(au p.lg L).symm;let ad:=p.Z s3;let G:=u.trans s3;let ab:∀q∈ns++[x],Wo q:=λq hq=>(IF.mp hq).elim (T q) (λz=>by rw[tF.mp z];calc hwx);let am:(ns++[x]).length+2*(down-1).toNat<=80:=by rw[mu];show ns.length+1+_<=_;omega
  ext v4 H4 U m4 N;let k4:=(Kt.Z G).trans N.fr.kt;let W:=ro.kt k4;let f4:dR [S.lg] fe H H4:=((dR.refl v).Z G).trans N.fr;ext p5 I;let s5:=ae I (.J [.str "let",.str x,vo,v4]);let gg:=N.g;rw[QO (),show(down-1).toNat=down.toNat-1 by omega]at gg;refine k _ _ (.mk (.lt x) [one,U]) m4 (N.sc.Z s5) (f4.Z s5) ?_ (mO.G9 (z:=share.toNat+(share.toNat+0)) rfl ?_ (iH ⋯) True.intro (λg0=>rfl) (jO.jl go (jO.cons (b:=[x]) gg (jO.nil (bs:=[]) (i5 _)))) ())
  .rw[bI];exact Rp.new (K:=K) I (.cons .s (.cons .s (.cons W (.one N.r))))
  .intro b R;let R:b∈[[],[x]]:=R;simp only[L0,O3,or_false]at R;rcases R with rfl|rfl
   .exact ON _
   .show 1<=5;decide
 .ext;calc e
def Kg {P:we}{w:OR}{K:bN}{mg:Yg->Option eF}{base:Heap}{gT gN:Yh}{tfd nfd:EF}{f:Yh}{cdv:eF}{A:OW}{s:fy}{H1:Hp}{n j:Nat}{D:L2.Ends}{H:Hp}{fe d la:Yh}{room down form share:Int}{S:Sn}{kl:Kl}{nm:Yi Yg}{ds:Yi (Yg×Nat)}{ns:Yi Yg}{m0:Nat}{x y:Yg}{o9 o10 o11 o12 o13:Option V}(Z:1<=j)(TK:Za "_law_take" 1 WQ cU gT tfd)(p:Za "_law_named" j WO (fF K n) gN nfd)(l:mg "len"=Yc)(e:mg "int"=Yc)(hr:dU j (A.deeper (OV "_law_named" (ak aW) s⁻¹ f cdv)))(X:x8 K fe d la S kl nm ds ns room down n H m0)(k:Aj D K fe d S kl nm ds ns m0 room down H)(hsh:share=(room-1) / 3)(hxy:x≠y)(hwx:Wo x)(hwy:Wo y):
  jL (Zl gz WM "_law_named" (ak aW) H1).pB ((bx aW).drop 5) D [Yb (.ref fe),Yb (.ref d),Yb (.ref la),Yb (.int room),Yb (.int down),Yb (.int form),Yb (.int share),Yb (.str x),Yb (.str y),o9,o10,o11,o12,o13] H:=by
 refine fg ((Z5 (Z4 fX.nd iI 9 (Z0 p (Z1 (va aC 0) (Z1 (va aC 1) (Z1 (va aC 2) (Z1 (Zh aZ (Zq (Z1 (va aC 6) (Z1 (bU jP (va aC 3) aB) aA))) (Z9 iM e P8 (Z1 (jA bO (va aC 5) aB (bz _)) aA))) (Z1 (bU jP (va aC 4) aB) aA))))))) dz)) ?_
 right
 let hf:=X.sc.ff;let r5:=X.r5;let N:=X.sc;let u:=X.hla;let U:=X.nla;let T:=X.nlg;let rh:=X.rh;let d1:=X.d1;let dn:=X.dn;let ln:=X.ln;let I:=X.wn;let L:0<=share:=()
 let W:ns.length+2*(down-1).toNat<=80:=()
 ext;calc nw λl2 H2 t o Y=>?_;let h2:bA K H2 l2 [.int share,.int (room-1)]:=bA.of o;let M:=N.Z t;let C:=t _ _ u
 let aa:dZ [V.int share,V.int (room-1)] (if decide (V.int form=V.int 1)=Yd then 1 else 0)=Yb (.int (if form=1 then room-1 else share)):=by
  by_cases c:form=1
  .rw[if_pos (by rw[c];rfl),if_pos c];exact aF (j:=1) rfl
  .rw[if_neg (λz=>c (V.int.inj (of_decide_eq_true z))),if_neg c];exact aF (j:=0) rfl
 let R:0<=(if form=1 then room-1 else share):=by split<;>omega
 let Q:(if form=1 then room-1 else share)<=100:=by split<;>omega
 let O:1<=(if form=1 then room-1 else share):=by split<;>omega
 ext;calc .inr #[_,rfl,?_];ext v3 H3 J m3 q;let G:dR [S.lg] fe H H3:=((dR.refl hf).Z t).trans q.fr;let v:=q.g;rw[QO (),show(down-1).toNat=down.toNat-1 by omega]at v;let B:(if form=1 then room-1 else share).toNat=if form=1 then(room-1).toNat else share.toNat:=by split<;>rfl
 rw[B]at v;ext;calc L3 Z TK p l e hr (X.step q.sc G) (k.step G) hsh q.r v hxy hwx hwy
def EI {P:we}{w:OR}{K:bN}{mg:Yg->Option eF}{base:Heap}{gT gN gM:Yh}{tfd nfd mfd:EF}{f:Yh}{cdv:eF}{A:OW}{s:fy}{H1:Hp}{n j:Nat}{D:L2.Ends}{H:Hp}{fe d la:Yh}{room down form:Int}{S:Sn}{kl:Kl}{nm:Yi Yg}{ds:Yi (Yg×Nat)}{ns:Yi Yg}{m0:Nat}{o6 o7 o8 o9 o10 o11 o12 o13:Option V}(hj:1<=j)(Z:Za "_law_take" 1 WQ cU gT tfd)(O:Za "_law_named" j WO (fF K n) gN nfd)(N:Za "_law_named_match" (j+1) W5 (uS K n) gM mfd)(l:mg "len"=Yc)(o:mg "int"=Yc)(hr:dU (j+1) (A.deeper (OV "_law_named" (ak aW) s⁻¹ f cdv)))(X:x8 K fe d la S kl nm ds ns room down n H m0)(k:Aj D K fe d S kl nm ds ns m0 room down H):
  jL (Zl gz WM "_law_named" (ak aW) H1).pB ((bx aW).drop 2) D [Yb (.ref fe),Yb (.ref d),Yb (.ref la),Yb (.int room),Yb (.int down),Yb (.int form),o6,o7,o8,o9,o10,o11,o12,o13] H:=by
 refine fg ((Z5 (Z4 fX.nd iI 6 (Zm sJ (bU jP (va aC 3) aB) aB)) (Z5 (@CP _ _ (7) (8) _ _ _ _ _ _ _ _ _ _ _ rfl fX.nd rfl rfl (by decide) rfl rfl (Z1 (Zh aZ (Zi (va aC 1)) (Z0 Z (di (va aC 0) (Zc aB)))) (Z1 (Zh aZ (Zi (va aC 1)) aB) aA)) (by rfl) (by rfl)) (Z5 (Z8 (PW.pt (@ir _ _ _ _ _ _ _ (Zn bO (va aC 5) aB) (@fQ _ _ _ _ (Zg rM (Z2 aM l OS (Z1 (Zi (va aC 1)) aA)) aB (bz _))))) (Zd (Zp (Z0 N (Z1 (va aC 0) (Z1 (va aC 1) (Z1 (va aC 2) (Z1 (Zm sJ (bU jP (va aC 3) aB) aB) (Z1 (bU jP (va aC 4) aB) aA))))))))) dz)))) ?_
 right
 let hf:=X.sc.ff;let r5:=X.r5;let gn:=X.sc.get (uR S);let hn:=X.sc.ln;let l6:=X.sc.l6;let aj:(nm.map V.str).length=6:=by rw[bM];exact l6
 let rh:=X.rh;let d1:=X.d1;let dn:=X.dn;let ln:=X.ln;let R:=X.sc.nf.2.1;let aa:=X.wn;calc uh ?_;intro N1 N2 N3 c1 M Y;ext r2 H2 ag ae Q;let t:=X.ext Q;let am:bA K H2 S.ln (nm.map V.str):=bA.of t.sc.ln;let ao:=t.sc.get (uR S);obtain⟨q,hq,rfl⟩:∃q:Nat,q<5/\r2=q:=#[r2.toNat,(),()];let aq:dZ (nm.map V.str) (q:Int)=Yb (.str (nm[q]'())):=aF (by rw[vv,my ()];rfl);let a5:dZ (nm.map V.str) 5=Yb (.str (nm[5]'())):=aF (j:=5) (by rw[vv,my ()];rfl)
 let p:(nm[q]'())≠(nm[5]'()):=λz=>by
  let:=X.sc.un q 5 (nm[q]'()) (my ()) (by rw[z];calc my ());omega
 let ap:=t.sc.get (zf S);let(ka,I,e,J,L):=t.sc.kd.aS;let ek:S.kd=ka:=V.ref.inj e;rw[<-ek]at J;let G:=L.length;rw[bM]at G;let T:=k.ext hf Q;let v:Wo (nm[q]'()):=X.sc.nw _ (Pu _);let u:Wo (nm[5]'()):=X.sc.nw _ (Pu _);generalize(nm[q]'())=x at aq p v;generalize(nm[5]'())=y at a5 p u;let ad:=t.sc;let U:=t.hla;let ai:=X.nla;let ah:=X.nlg;let last:N3 [Yb (.ref fe),Yb (.ref d),Yb (.ref la),Yb (.int room),Yb (.int down),Yb (.int form),Yb (.int ((room-1) / 3)),Yb (.str x),Yb (.str y),o9,o10,o11,o12,o13] H2:=Cut.go Y (Kg hj Z O l o (hr.mono ()) t T rfl p v u);clear Y;ext;refine bP (λc=>?_) (λc=>?_)
 .ext;refine bP (λM=>?_) (λM=>?_)
  .have ar:(0:Int)<(I.length:Int):=of_decide_eq_true M;let an:0<kl.length:=()
   let ac:1<=(room-1) / 4:=()
   let ab:(room-1) / 4<=100:=()
   let al:ns.length+2+2*(down-1).toNat<=80:=()
   clear last;ext v3 H3 C m3 B;let W:=B.g;rw[show(down-1).toNat=down.toNat-1 by omega]at W;exact T v3 H3 C m3 B.sc B.fr B.r (W.wk () (i5 _))
  .ext;exact last
 .ext;calc last
def EJ (hj:1<=j)(F:jn K "_law_named" "_law_named" aW f fd)(TK:Za "_law_take" 1 WQ cU gT tfd)(Y:Za "_law_named" j WO (fF K n) gN nfd)(X:Za "_law_named_match" (j+1) W5 (uS K n) gM mfd)(Z:Za "_law_named_leaf" 2 Xr (xO K) gL lfd)(p:mg "len"=Yc)(q:mg "int"=Yc):Zt gz (j+2) f fd WO (fF K (n+1)):=by
 refine F.ok fX (λvs H Q E h=>?_) (λcdv A outer s H vs Q E hr h=>?_)
 .have(_,_,_,_,_,_,_,_,_,_,_,rfl,_):=h;rfl
 let(fe,d,la,l,o,S,kl,nm,ds,ns,m,rfl,sc,T,v,N,ac,ab,ag,dn,R,I,k):=h;refine#[_,(Z5 (Z4 fX.nd iI 5 (Z0 TK (di (va aC 0) (Zc aB)))) (Z5 (Z8 (PW.pt (@pX _ _ _ _ _ _ _ (Zn oV (va aC 3) aB) (@pX _ _ _ _ _ _ _ (Zn oV (va aC 4) aB) (@pA _ _ _ _ (Zn bO (va aC 5) aB))))) (Zd (Zp (Z0 Z (Z1 (va aC 0) (Z1 (va aC 1) (Zc (va aC 2)))))))) dz)),?_]
 right
 let hf:=sc.ff;calc jF ?_;intro N1 N2 c1 B;ext D H1 ae ad G;let M:=sc.ext G;let f1:dR [S.lg] fe H H1:=Ext.uZ hf G;let y:=G.1 _ _ v T;calc Cut.go c1 ?_;refine LG (l<5\/o<1\/D=0) (λC W cf=>?_) (λc=>?_) (λc=>?_)
 .ext;refine bP (λc=>?_) (λc=>?_)
  .exact W (.inl (of_decide_eq_true c))
  .ext;refine bP (λB=>?_) (λB=>?_)
   .exact W (.inr (.inl (of_decide_eq_true B)))
   .ext
    by_cases z:D=0
    .rw[show decide (V.int D=V.int 0)=Yd by rw[z];rfl];exact W (.inr (.inr z))
    .rw[show decide (V.int D=V.int 0)=Ye from decide_eq_false λe=>z (V.int.inj e)];exact cf (λw=>w.elim (λw=>c (decide_eq_true w)) λw=>w.elim (λw=>B (decide_eq_true w)) z)
 .have aa:ns.length<=100:=()
  ext J H2 t O u;exact k J H2 t O #[u.sc,f1.trans u.fr,u.r,u.g.wk (UQ _ _) (ON _)]
 .have c5:¬l<5:=λz=>c (.inl z);let cd:¬o<1:=λz=>c (.inr (.inl z));calc Cut.go B ?_;calc EI hj TK Y X p q hr #[M,y,v,N,(),(),(),(),R,I] ?_;intro J H2 t O L U r2 u;calc k J H2 t O #[L,f1.trans U,r2,u.wk (Vf _ _) ()]
theorem EK :∀{l a:Yi Yg},l.Nodup->(∀x∈l,x∉a)->cJ a l=Yc
 | [],_,_,_=>rfl
 |x::r,a,hn,ha=>by
  rw[Qz]at hn;show(if x∈a then Yb x else cJ (a++[x]) r)=Yc;rw[if_neg (ha x (.head _))];calc EK hn.2 λy d z=>?_;rcases IF.mp z with z|z
  .exact ha y (.tail _ d) z
  .exact hn.1 (tF.mp z▸d)
def EL (h:l.Nodup):cJ [] l=Yc:=EK h λ_ _ z=>nomatch z
def HC (h:k.ok ah):iF ah k=Yc:=by
 let d:=Kk.kX.mp h;unfold iF
 cases e:k.core with
 |num=>rfl
 |kd x=>rw[e]at d;calc if_pos d
 |op n=>rw[e]at d;calc absurd d id
 |row j=>rfl
theorem uT {f:d->Option Yg}:∀{l:List d},(∀x∈l,f x=Yc)->fR f l=Yc
 | [],_=>rfl
 |x::r,h=>by
  unfold fR;rw[h x (.head _)];calc uT λy e=>h y (.tail _ e)
theorem Bh :∀{d:Yi (Yg×Yi Kk)}{ta:Yi Yg},(ta++d.map (·.1)).Nodup->(∀t∈d,∀c∈t.2,c.ok ah)->gj ah ta d=Yc
 | [],_,_,_=>rfl
 |t::r,ta,hn,h=>by
  let e:ta++(t::r).map (·.1)=(ta++[t.1])++r.map (·.1):=by simp
  rw[e]at hn;unfold gj;rw[EL (Qc.mp hn).1];dsimp only;rw[uT λc j=>HC (h t (.head _) c j)];calc Bh hn λu g=>h u (.tail _ g)
theorem zg :∀{kl:Kl}{ah ta:Yi Yg},(ah++kl.map (·.1)).Nodup->(ta++jg kl).Nodup->(∀(i:Nat) (k:Yg×Yi (Yg×Yi Kk)),kl[i]?=Yb k->∀t∈k.2,∀c∈t.2,c.ok (ah++(kl.take i).map (·.1)))->cK ah ta kl=Yc
 | [],_,_,_,_,_=>rfl
 |k::r,ah,ta,h1,h2,h3=>by
  let o:ah++(k::r).map (·.1)=(ah++[k.1])++r.map (·.1):=by simp
  let m:ta++jg (k::r)=(ta++k.2.map (·.1))++jg r:=by unfold jg;simp
  rw[o]at h1;rw[m]at h2;unfold cK;rw[EL (Qc.mp h1).1];dsimp only;let d:=h3 0 k rfl;rw[Rv,Qn,O0]at d;rw[Bh (Qc.mp h2).1 d];calc zg h1 h2 λi e j t g c l=>?_;let:=h3 (i+1) e j t g c l;rw[VM,OQ]at this;rw[PC];calc this
def qJ (h:Un xs):xs.Nodup:=by
 unfold List.Nodup;rw[List.pairwise_iff_getElem];intro i j l d g e;let:=h i j xs[i] (my l) (by rw[e];calc my d);omega
def oK (h:Un xs)(n:Nat):Un (xs.drop n):=λi j x e d=>by
 rw[Uj]at e d;let:=h _ _ x e d;omega
def oM (h:Un xs)(n:Nat):Un (xs.take n):=λi j x e d=>by
 rw[Sl]at e d
 split at e
 .split at d
  .exact h _ _ x e d
  .cases d
 .cases e
def EM (d:Un xs)(ok:Cr xs kl):cK [] [] kl=Yc:=by
 refine zg ?_ ?_ ?_
 .rw[QM,ok.nm];exact qJ (oM d _)
 .rw[QM,ok.tg];exact qJ (oM (oK d 3) _)
 .intro i k g t j c l;let m:i<kl.length:=(bH.mp g).1
  let e:(kl.take i).map (·.1)=xs.take i:=by
   rw[QY,ok.nm,List.take_take,Ri ()]
  rw[QM,e];calc((ok.pt i k g).2.2 t j).2 c l
def uU (ok:Cr xs kl)(e:∀x∈xs,Wo x):∀k∈kl,Ho k:=λk g=>by
 let(i,m):=Po g;let(a,b,c):=ok.pt i k m;refine#[a,b,λt d=>(c t d).1,e _ ?_,λt d=>#[e _ ?_,λq l x j=>?_]]
 .have:k.1∈kl.map (·.1):=O6 g;rw[ok.nm]at this;exact Pn this
 .have:t.1∈jg kl:=QD.mpr #[k,g,O6 d];rw[ok.tg]at this;exact Rq (Pn this)
 .have:=Kk.kX.mp ((c t d).2 q l);rw[j]at this;calc e x (Pn this)
def Ak (j:Un xs)(ok:Cr xs kl)(m:kl.length<=3)(g:∀x∈xs,Wo x):IJ kl:=by
 refine#[?_,?_,m,λk d=>?_,λk d=>#[(uU ok g k d).2.2.2.1,λt e=>((uU ok g k d).2.2.2.2 t e).1]]
 .rw[ok.nm];exact qJ (oM j _)
 .rw[ok.tg];exact qJ (oM (oK j 3) _)
 .have(i,l):=Po d;let(a,b,c):=ok.pt i k l;calc#[a,b,λt e=>(c t e).1]
meta def qP(d:Int)(c:Nat):Yi Int:=(QJ c).map λ(i:Nat)=>(d+7*(i:Int)) % 100
def xP (d:Int)(c:Nat):qP d (c+1)=qP d c++[(d+7*(c:Int)) % 100]:=by
 unfold qP;rw[Tq,i4];rfl
def Am (d:Int)(c:Nat):(qP d c).length=c:=by
 unfold qP;rw[bM,SQ]
def Kh (m:c<=3)(l:1<=c):(g+7*(c:Int)) % 100∉(qP g c).drop 1:=λz=>by
 let(i,d):=Po z;rw[Uj]at d;unfold qP at d;rw[vv]at d
 let j:1+i<c:=by
  by_cases h:1+i<c
  .exact h
  .rw[SX (by rw[SQ];omega)]at d
   cases d
 rw[List.getElem?_range j]at d;let e:(g+7*((1+i:Nat):Int)) % 100=(g+7*(c:Int)) % 100:=by simpa using d
 omega
def EN (h:k.ok l):fM l g k=.ok g:=by
 let d:=Kk.kX.mp h;unfold fM
 cases e:k.core with
 |num=>rfl
 |kd x=>rw[e]at d;calc if_pos d
 |op n=>rw[e]at d;calc absurd d id
 |row j=>rfl
def HD (m:1<=c)(h:G4 p (qP d c) k j):∃l,1<=l/\j=qP d l/\fM p ((qP d c).drop 1) k=.ok ((qP d l).drop 1)/\l<=c+1/\(c<=4->l<=4):=by
 rcases h with⟨rfl,h⟩|⟨o,ot,e,h4,hk,rfl⟩
 .exact#[c,m,rfl,EN h,Pc _,id]
 .rw[Am]at h4;obtain⟨g,rfl⟩:∃g,c=g+1:=#[c-1,()]
  let r:o=(d+7*(g:Int)) % 100:=by
   rw[xP]at e;exact(List.append_inj_right' e rfl|> List.singleton_inj.mp).symm
  let q:(o+7) % 100=(d+7*((g+1:Nat):Int)) % 100:=()
  refine#[g+2,(),?_,?_,(),λ_=>by omega]
  .rw[xP d (g+1),q]
  .unfold fM;rw[hk];dsimp only;rw[q,if_neg (Kh () ()),xP d (g+1),List.drop_append_of_le_length (by rw[Am];omega)]
def rH (kl:Kl)(ds:Yi (Yg×Nat))(gs e:Yi Int)(d:Df)(r:Yi Df):jq kl ds gs e (d::r)=if d.1∈ds.map (·.1)then Yb (.tw,d.1)else om kl ds gs d r (cV (kl.map (·.1)) [] e d.2.1):=wD (dl:=d::r) (i:=0) rfl
meta def xQ(dl:Yi Df):Yi (Yg×Nat):=dl.map λd=>(d.1,d.2.1.length)
structure Km(kn:Yi Yg) (xs:Yi Yg) (o0:Int) (c0 c:Nat) (i:Nat) (ps:Yi (Yg×Kk)):Prop where
 nm:ps.map (·.1)=xs.take i
 c1:1<=c
 e:∀r,cV kn [] ((qP o0 c0).drop 1) (ps++r)=cV kn (ps.map (·.1)) ((qP o0 c).drop 1) r
def Km.nil {e:Yi Yg}(h:1<=c):Km e xs d c c 0 []:=#[rfl,h,λ_=>rfl]
def Km.snoc (g:Km m xs l u c i ps)(v:Un xs)(q:xs[i]?=Yb x)(h:G4 m (qP l c) k d):∃o,d=qP l o/\(c<=4->o<=4)/\Km m xs l u o (i+1) (ps++[(x,k)]):=by
 let(o,C,H,G,_,B):=HD g.c1 h;let t:=(bH.mp q).1;let D:xs.take (i+1)=xs.take i++[x]:=by rw[i3 t,(bH.mp q).2]
 calc#[o,H,B,by rw[i4,g.nm,D];rfl,C,λr=>?_];rw[PC,g.e]
 show(if x∈ps.map (·.1)then Except.error (Er.tw,x)else match fM m ((qP l c).drop 1) k with
  |.error f=>.error f
  |.ok d=>cV m (ps.map (·.1)++[x]) d r)=_
 let y:x∉ps.map (·.1):=λz=>by
  rw[g.nm]at z;let(j,p):=Po z;rw[Sl]at p
  split at p
  .have:=v i j x q p;omega
  .cases p
 rw[if_neg y,G];dsimp only;rw[i4];rfl
structure IK(kl:Kl) (xs:Yi Yg) (o0 f0:Int) (c m i:Nat) (dl:Yi Df):Prop where
 nm:dl.map (·.1)=xs.take i
 c1:1<=c
 e:∃gs,(∀x∈gs,x∈pV f0 m)/\∀r,jq kl [] [] [] (dl++r)=jq kl (xQ dl) gs ((qP o0 c).drop 1) r
def IK.nil :IK kl xs d f0 1 0 0 []:=#[rfl,i5 _,[],(λ_ h=>nomatch h),λ_=>rfl]
def IK.snoc (g:IK kl xs d f0 c m i dl)(C:Un xs)(t:xs[i]?=Yb x)(p:Km (kl.map (·.1)) ys d c y q ps)(h:Gd kl (xQ dl) (ps.map (·.1)) (pV f0 m) (pV f0 m') o):IK kl xs d f0 y m' (i+1) (dl++[(x,ps,o)]):=by
 let(B,J,I):=g.e;let(v,H,G):=h B J;let u:=(bH.mp t).1;let L:xs.take (i+1)=xs.take i++[x]:=by rw[i3 u,(bH.mp t).2]
 let N:(xQ dl).map (·.1)=xs.take i:=by unfold xQ;rw[Pz];exact g.nm
 calc#[by rw[i4,g.nm,L];rfl,p.c1,v,G,λr=>?_];rw[PC,I,List.singleton_append,rH]
 let D:x∉(xQ dl).map (·.1):=λz=>by
  rw[N]at z;let(j,l):=Po z;rw[Sl]at l
  split at l
  .have:=C i j x t l;omega
  .cases l
 rw[if_neg D]
 let M:cV (kl.map (·.1)) [] ((qP d c).drop 1) ps=.ok ((qP d y).drop 1):=by
  let:=p.e [];rw[O0]at this;rw[this];rfl
 show om kl (xQ dl) B (x,ps,o) r (cV (kl.map (·.1)) [] ((qP d c).drop 1) ps)=_;rw[M];unfold om;dsimp only;rw[H];dsimp only;unfold xQ;rw[i4];rfl
def IK.none {kl:Kl}{xs:Yi Yg}{d f0:Int}{c m i:Nat}{dl:Yi Df}(g:IK kl xs d f0 c m i dl)(j:cK [] [] kl=Yc):cz kl dl=Yc:=by
 unfold cz;rw[j];dsimp only;let(l,_,e):=g.e;let:=e [];rw[O0]at this;rw[this];rfl
structure Bj(z dp:Nat) (kl:Kl) (dl:Yi Df):Prop where
 k3:kl.length<=3
 kt:∀k∈kl,Ho k
 d1:1<=dl.length
 d3:dl.length<=3
 dd:∀d∈dl,Wn d.2.2/\Ta d.2.2/\d.2.2.size<=z/\d.2.2.depth<=dp/\d.2.1.length<=3
 dw:∀d∈dl,M8 d
meta def Bk(K:bN):Sp:=λo H Q _=>∃(f:Yh) (d:Int),o=[.ref f,.int d]/\dc H f/\1<=d/\d<=40 /\
 ∀(p j:Yh) (pv:V) (e:Hp) (l:Kl) (m:Yi Df) (g:Yi Yg),Ext f H e->H j=Yc->e j=Yb (.Y (g.map V.str))->g.length=24->(∀x∈g,Wo x)->bY K e p [pv,.ref j]->Rp K e (.t [.t (l.map jo),.t (m.map lB)]) pv->Bj d.toNat 6 l m->cz l m=Yc->Q (.ref p) e
def fu.uZ (s:fu K H f d S kl nm ds m)(e:fu K HB f d S kl nm ds' m')(fr:dR M f H H')(v:∀l∈M,HB l=Yc):fu K H' f d S kl nm ds m:=by
 let(C,G,D):=s.ld;let(g,t1,t2):=s.lt;let(_,B,_):=e.ld;let(_,y,_):=e.lt;let(t,r,p,o,j):=s.nf;let n:∀{c:Yh}{u:L2.HO},HB c=Yb u->c∉M:=λq z=>by rw[v _ z]at q;cases q
 calc#[fr.oth _ _ (n e.sd) t s.sd,s.kd.kt fr.kt,fr.oth _ _ (n e.ln) r s.ln,s.l6,s.un,#[C,fr.oth _ _ (n B) p G,D.kt fr.kt],#[g,fr.oth _ _ (n y) j t1,t2.kt fr.kt],fr.oth _ _ (n e.lg) o s.lg,s.m5,s.f0,fr.ff,s.nf,s.ng,s.kk,s.dn,s.dl,s.d3,s.nw,s.dw]
def fu.Ab (s:fu K H f d S kl nm ds m)(hd:H S.ld=Yb (.Y j))(l:bR K H (ds.map EB) j)(g:S.ln≠S.ld/\S.lt≠S.ld)(t:Rp K H (EB (x,n)) (.ref p))(C:x∉ds.map (·.1))(hn:n<=3)(G:ds.length<=7)(D:Wo x):fu K (upd H S.ld (.Y (j++[.ref p]))) f d S kl nm (ds++[(x,n)]) m:=by
 let(r,t1,t2):=s.lt;let(Q,O,B,N,M):=s.nf;let(v,u,o):=s.ff;let k:Kt H (upd H S.ld (.Y (j++[.ref p]))):=Kt.Y hd _;let y:d≠S.ld:=jB s.sd hd nofun
 refine#[by rw[ay y];calc s.sd,s.kd.kt k,by rw[ay g.1];calc s.ln,s.l6,s.un,#[_,af,?_],#[r,by rw[ay g.2];calc t1,t2.kt k],by rw[ay s.ng.2.1.symm];calc s.lg,s.m5,s.f0,#[v,u,by rw[ay B.symm];calc o],s.nf,s.ng,s.kk,?_,?_,?_,s.nw,λq hq=>(IF.mp hq).elim (s.dw q) (λz=>by rw[tF.mp z];calc D)]
 .rw[i4];exact(l.kt k).snoc (t.kt k)
 .rw[i4,Qc];refine#[s.dn,Qz.mpr #[nofun,Vw],λa J b I e=>?_]
  rw[tF.mp I]at e;let L:a=x:=e;exact C (L▸J)
 .rw[mu];exact Q0 G
 .intro q hq;rcases IF.mp hq with hq|hq
  .exact s.d3 q hq
  .rw[tF.mp hq];calc hn
structure M9(K:bN) (fe d:Yh) (S:Sn) (kl:Kl) (nm xs:Yi Yg) (o0:Int) (z:Nat) (lo lf:Yh) (H0:Hp) (i:Nat) (H:Hp) (dl:Yi Df) (us:Yi V) (c m:Nat):Prop where
 sc:fu K H fe d S kl nm (xQ dl) m
 fr:dR [S.lg,S.ld,lo,lf] fe H0 H
 ho:H lo=Yb (.Y ((qP o0 c).map V.int))
 hf:H lf=Yb (.Y us)
 r:bR K H (dl.map lB) us
 g:IK kl (xs.drop 21) o0 S.f0 c m i dl
 li:dl.length=i
 c4:c<=4
 dd:∀d∈dl,Wn d.2.2/\Ta d.2.2/\d.2.2.size<=z/\d.2.2.depth<=6/\d.2.1.length<=3
 dw:∀d∈dl,M8 d
structure OB(K:bN) (fe:Yh) (kl:Kl) (ys:Yi Yg) (o0:Int) (lo:Yh) (H0:Hp) (c i:Nat) (us:Yi V) (H:Hp):Prop where
 x:∃(ps:Yi (Yg×Kk)) (c':Nat),dR [lo] fe H0 H/\H lo=Yb (.Y ((qP o0 c').map V.int))/\bR K H (ps.map DP) us/\Km (kl.map (·.1)) ys o0 c c' i ps/\c'<=4/\∀p∈ps,Wo p.1/\Hl p.2
def aG :Nm WN (ak aQ):=by decide
def bL :Lm WN (ak aQ):=by decide
def bE :aY WN XS (ak aQ):=by ac_rfl
def HE {P:we}{w:OR}{K:bN}{mg:Yg->Option eF}{base:Heap}{gT gN gA:Yh}{tfd nfd afd:EF}{n j:Nat}(hn:6<n)(hj:2<=j){f:Yh}{cdv:eF}{A:OW}{outer:Yi Qp}{s:fy}{H1:Hp}{E:XK}(TK:Za "_law_take" 1 WQ cU gT tfd)(de:Za "_law_named_kind" 2 W4 (mL K) gA afd)(dc:Za "_law_named" j WO (fF K n) gN nfd)(a7:mg "len"=Yc)(z_range:mg "range"=Yc)(O:mg "tuple"=Yc)(hr:dU j (A.deeper (OV "_law_named_program" (ak aQ) s⁻¹ f cdv))){D:L2.Ends}{HB H:Hp}{fe d ln0 lth lo lf:Yh}{room o0:Int}{S:Sn}{kl:Kl}{nm xs:Yi Yg}{kv:V}{o5 o6 bc bb:Option V}(scB:fu K HB fe d S kl nm [] 0)(sc:fu K H fe d S kl nm [] 0)(un:Un xs)(lx:xs.length=24)(wx:∀x∈xs,Wo x)(wk:∀k∈kl,Ho k)(rm1:1<=room)(rm:room<=40)(rk:Rp K H (.t (kl.map jo)) kv)(hB:HB lo=Yc/\HB lf=Yc)(hkn:cK [] [] kl=Yc)(h0:H ln0=Yb (.Y (xs.map V.str)))(n0:ln0≠fe/\ln0≠S.lg/\ln0≠S.ld/\ln0≠lo/\ln0≠lf)(hth:H lth=Yb (.Y ((kl.map (·.1)).map V.str)))(nth:lth≠fe/\lth≠S.lg/\lth≠S.ld/\lth≠lo/\lth≠lf)(ho:H lo=Yb (.Y ((qP o0 1).map V.int)))(nlo:lo≠fe)(hlf:H lf=Yb (.Y []))(nlf:lf≠fe)(nol:lo≠lf)(nld:S.ln≠S.ld/\S.lt≠S.ld)(k:∀(p:Yh) (pv:V) (H':Hp) (dl:Yi Df),dR [S.lg,S.ld,lo,lf] fe H H'->H' ln0=Yb (.Y (xs.map V.str))->bY K H' p [pv,.ref ln0]->Rp K H' (.t [.t (kl.map jo),.t (dl.map lB)]) pv->Bj room.toNat 6 kl dl->cz kl dl=Yc->D.rt (.ref p) H'):
  jL (Zl gz WN "_law_named_program" (ak aQ) H1).pB ((bx aQ).drop 8) D [Yb (.ref fe),Yb (.int room),Yb (.ref ln0),Yb kv,Yb (.ref d),o5,o6,Yb (.ref lth),Yb (.ref lo),Yb (.ref lf),bc,bb] H:=by
 refine fg ((Z5 (Zj O8 (Zr (Z1 (Zm eg aB (Z0 TK (di (va aG 0) (Zc aB)))) aA)) (ga bE.nd bL 10) (Z5 (@nL _ _ _ _ _ _ _ _ _ _ _ _ _ _ _ (ak aQ) WN ["_law_x"] [0,7,8] rfl rfl rfl (by decide) (@jT _ _ _ _ (@b6 _ _ _ _ _ _ _ _ _ _ qg (va aG 2) (bZ aB) (@bZ _ _ _ (Zm eg aB (Z0 TK (di (va aG 0) (Zc aB))))))) (λ_ _ _ _=>(Zx Xa 0)) (λ_ _ _ _=>fZ) (λ_ _ _ _=>(Zk (Z1 (Zw Xa 0) (Z1 (Z0 de (Z1 (Zw Xa 1) (Z1 (Zw Xa 2) (Zc (Zw Xa 3))))) aA)))) (ga bE.nd bL 11) (by kernel_rfl) (by intro _;rfl)) (Z5 (Zo (Z7 (va aG 9) (Z1 (Zk (Z1 (Zh aZ (va aG 2) (bU eg aB (va aG 10))) (Z1 (Z9 cg O Pf (Zc (va aG 11))) (Z1 (Z0 dc (Z1 (va aG 0) (Z1 (va aG 4) (Z1 (Ze (ak aQ) WN XU [] (jT (va aG 11)) (λ_ _ _ _=>(Zb (2) (Zf (Zx XU 0) (Zs (Zx XU 1))))) (λ_ _ _ _=>(Zw XU 0))) (di (va aG 1) (Zc aB)))))) aA)))) aA))) (Zd (Zo (Z7 (Zi (va aG 4)) (Z1 (Zk (Z1 (Zh aZ (va aG 2) (bU eg aB (va aG 10))) (Z1 (Z2 aM a7 OS (Zc (va aG 11))) aA))) aA))))))) (Zd (Zp (Zk (Z1 (Zk (Z1 (va aG 3) (Z1 (Z9 cg O Pf (Zc (va aG 9))) aA))) (Zc (va aG 2)))))))) ?_
 right
 let hf:=sc.ff;let n1:lo≠S.lg:=(au scB.lg hB.1).symm;let n3:lf≠S.lg:=(au scB.lg hB.2).symm;let(eh,cb,_):=scB.ld;let n2:lo≠S.ld:=(au cb hB.1).symm;let n4:lf≠S.ld:=(au cb hB.2).symm;let l3:=sc.kk.l3;let d9:(xs.map V.str).length=24:=by rw[bM];exact lx
 ext mq H2 d5 d4 x2;let i0:M9 K fe d S kl nm xs o0 room.toNat lo lf H 0 H2 [] [] 1 0:=#[sc.ext x2,Ext.uZ hf x2,x2.1 _ _ nlo ho,x2.1 _ _ nlf hlf,.nil,.nil,rfl,by decide,(λ_ h=>nomatch h),λ_ h=>nomatch h]
 ext;refine ju (n:=(1+mq).toNat) (λi σ H3=>∃dl us c m o5 o6 bc bb,σ=[Yb (.ref fe),Yb (.int room),Yb (.ref ln0),Yb kv,Yb (.ref d),o5,o6,Yb (.ref lth),Yb (.ref lo),Yb (.ref lf),bc,bb]/\M9 K fe d S kl nm xs o0 room.toNat lo lf H i H3 dl us c m) #[_,_,_,_,_,_,_,_,rfl,i0] ?_ ?_
 .rintro i σ H3 hi ⟨dl,us,c,m,_,_,_,_,rfl,u⟩
  let nM:∀{b:Yh},b≠fe/\b≠S.lg/\b≠S.ld/\b≠lo/\b≠lf->b∉[S.lg,S.ld,lo,lf]:=λh z=>by
   simp only[L0,O3,or_false]at z;rcases z with z|z|z|z
   .exact h.2.1 z
   .exact h.2.2.1 z
   .exact h.2.2.2.1 z
   .exact h.2.2.2.2 z
  let aq:H3 ln0=Yb (.Y (xs.map V.str)):=u.fr.oth _ _ (nM n0) n0.1 h0;let b0:H3 lth=Yb (.Y ((kl.map (·.1)).map V.str)):=u.fr.oth _ _ (nM nth) nth.1 hth;let ca:=u.sc.ff;ext q4 H4 d0 dz x4;let ef:=x4.1 _ _ n0.1 aq;obtain⟨q,hq,rfl⟩:∃q:Nat,q<=3/\q4=q:=#[q4.toNat,(),()]
  let ec:iE (xs.map V.str) (Yb 18) (Yb (18+(q:Int)))=((xs.drop 18).take q).map V.str:=by
   rw[show(Yb (18:Int))=Yb ((18:Nat):Int)from rfl,show(18+(q:Int))=((18+q:Nat):Int) by omega,yG _ _ _ () (),QY,VR,show 18+q-18=q by omega]
  ext l5 bg;rw[ec];let s5:=ae bg (.Y (((xs.drop 18).take q).map V.str));let h5:upd H4 l5 (.Y (((xs.drop 18).take q).map V.str)) l5=Yb (.Y (((xs.drop 18).take q).map V.str)):=af;let aa:Ext fe H3 (upd H4 l5 (.Y (((xs.drop 18).take q).map V.str))):=x4.Z s5;let cw:l5≠fe:=bB x4.2 bg;let b4:=aa.1 _ _ nlo u.ho;let cv:l5≠lo:=(au (x4.1 _ _ nlo u.ho) bg).symm;let az:=aa.1 _ _ nth.1 b0;generalize upd H4 l5 (.Y (((xs.drop 18).take q).map V.str))=H5 at s5 h5 aa b4 az|-;let bs:((xs.drop 18).take q).length=q:=by rw[x9,P6];omega
  let cx:(((xs.drop 18).take q).map V.str).length=q:=by rw[bM];exact bs
  let cl:Un ((xs.drop 18).take q):=oM (oK un 18) q;let da:=u.c4;ext;refine jw (K:=K) (xs:=((xs.drop 18).take q).map V.str) (λi8 σ o H8=>(∃y,σ=[y,Yb (.ref fe),Yb (.ref lth),Yb (.ref lo)])/\OB K fe kl ((xs.drop 18).take q) o0 lo H5 c i8 o H8) #[#[_,rfl],#[[],c,dR.refl aa.2,b4,.nil,.nil u.g.c1,da,λ_ h=>nomatch h]] ?_ (small ()) ?_ ?_ ?_
  .rintro i8 σ o H8 h ⟨_,⟨W,c',_,_,r8,g8,_,_⟩⟩;let:=congrArg Sq g8.nm;rw[bM,x9]at this;rw[r8.length,bM];omega
  .rintro i8 σ o H8 h ⟨_,⟨W,c',f8,_⟩⟩;exact bA.of (f8.iT cv cw h5)
  .rintro i8 xv σ o H8 hxv ⟨⟨_,rfl⟩,⟨W,c',f8,b3,r8,g8,bh,w8⟩⟩;rw[vv]at hxv;let(I,an,rfl):=ri.mp hxv;let ed:=f8.ff;let dq:=f8.iT nth.2.2.2.1 nth.1 az;let dn:(kl.map (·.1)).length<=100:=by rw[bM];omega
   let d8:(qP o0 c').length<=100:=by rw[Am];omega
   ext v9 H9 k9 d1 f9 ao r9 bq;let(c9,e9,db,g9):=g8.snoc cl an bq
   let ck:Hl k9:=λx hx=>by
    rcases bq with⟨_,z⟩|⟨_,_,_,_,z,_⟩
    .have:=Kk.kX.mp z;rw[hx]at this;let(kk,c5,e):=O2.mp this;rw[<-e];exact(wk kk c5).2.2.2.1
    .rw[hx]at z;cases z
   let ac:Wo I:=wx I (Rq (Pn (xn an)));subst e9;ext aj U;let J:=ae U (.J [.str I,v9]);exact#[#[_,rfl],#[W++[(I,k9)],c9,(f8.trans f9).Z J,J _ _ ao,by rw[i4];calc((r8.kt f9.kt).Z J).snoc (Rp.new (K:=K) (xs:=[.s I,mX k9]) U (.cons .s (.one r9))),g9,db bh,λp hp=>(IF.mp hp).elim (w8 p) (λz=>by rw[tF.mp z];calc#[ac,ck])]]
  .rintro σ o H8 ⟨⟨_,rfl⟩,⟨W,c',f8,b3,r8,g8,bh,w8⟩⟩ p9 hp9;rw[cx]at g8
   let d7:W.length=q:=by
    let:=congrArg Sq g8.nm;rw[bM,x9,bs,RB]at this;exact this
   let ax:=r8.length;rw[bM]at ax;let cf:dR [lo] fe H3 H8:=(Ext.uZ ca aa).trans f8;let a9:fu K H8 fe d S kl nm (xQ dl) m:=u.sc.uZ scB cf λl hl=>by rw[tF.mp hl];exact hB.1
   let ct:p9≠S.lg:=(au a9.lg hp9).symm;let cu:p9≠fe:=bB a9.ff hp9;let cs:p9≠lf:=(au (cf.iT nol.symm nlf u.hf) hp9).symm
   let d2:p9≠S.ld:=by
    let(_,z,_):=a9.ld;exact(au z hp9).symm
   let s9:=ae hp9 (.Y o);let h9:upd H8 p9 (.Y o) p9=Yb (.Y o):=af;let r9:=r8.Z s9;let ab:dR [lo] fe H3 (upd H8 p9 (.Y o)):=((Ext.uZ ca aa).trans f8).Z s9;let ao:=s9 _ _ b3;generalize upd H8 p9 (.Y o)=H9 at s9 h9 r9 ab ao|-;let b8:H9 lf=Yb (.Y us):=ab.iT nol.symm nlf u.hf;let c7:=ab.iT n0.2.2.2.1 n0.1 aq;let cm:fu K H9 fe d S kl nm (xQ dl) m:=u.sc.uZ scB ab λl hl=>by rw[tF.mp hl];exact hB.1
   let eb:i<3:=()
   let bt:21+i<xs.length:=()
   let ai:dZ (xs.map V.str) (21+(0+(i:Int)))=Yb (.str xs[21+i]):=by
    let:=aF (xs:=xs.map V.str) (j:=21+i) (v:=.str xs[21+i]) (by rw[vv,my bt];rfl);rw[show((21+i:Nat):Int)=21+(0+(i:Int)) by omega]at this;exact this
   let xi:(xs.drop 21)[i]?=Yb xs[21+i]:=by rw[Uj,my bt]
   let ac:Wo xs[21+i]:=wx _ (Pu _);generalize xs[21+i]=I at ai xi ac;ext;calc .inl #[bA.of h9,λaj U=>?_];let J:=ae U (.J o);let bp:=Rp.new (K:=K) U r9;let cd:=J _ _ h9;let aw:=r9.Z J;let Z:=cm.Z J;generalize upd H9 aj (.J o)=H10 at J bp cd aw Z|-;ext;refine BU (K:=K) (e:=DP) (φ:=λp=>[.s p.1]) (λσ=>∃a b,σ=[a,b]) cd aw () (λ_=>i5 _) #[_,_,rfl] ?_ ?_
   .rintro p hp x _ H6 N s6 ⟨_,_,rfl⟩ rx kN;let(xa,x1,x2,rfl,du,e1,e2):=(show Rp K H6 (.t [.s p.1,mX p.2]) x from rx).t2;obtain rfl:=e1.aL;ext;exact kN _ _ _ #[#[_,_,rfl],aR.refl _,.one .s]
   intro bv ek df ba a4 ee bo;rw[wZ,show(λp:Yg×Kk=>T.s p.1)=T.s ∘ (·.1)from rfl,<-Pz]at bo;obtain rfl:=bo.lK;let dh:=Z.Z ba;let d3:bv≠fe:=bB Z.ff a4;let dj:bv≠S.lg:=(au Z.lg a4).symm
   let dg:∀x∈W.map (·.1),Wo x:=λx hx=>by
    let(p,hp,rfl):=O2.mp hx;exact(w8 p hp).1
   let dx:0<=room:=()
   let cn:room<=100:=()
   let ej:(0:Int)<=6:=by decide
   let ei:(6:Int)<n:=()
   let dk:(W.map (·.1)).length+2*(6:Int).toNat<=80:=by rw[bM];show W.length+12<=80;omega
   ext a8 X Y br G;let gg:=G.g;rw[QO ()]at gg;let c2:=(Kt.Z ba).trans G.fr.kt;let cr:=bp.kt c2;let C:=J.trans ba;let bf:X lf=Yb (.Y us):=G.fr.iT n3 nlf (C _ _ b8);let b7:X lo=Yb (.Y ((qP o0 c').map V.int)):=G.fr.iT n1 nlo (C _ _ ao);let ce:X ln0=Yb (.Y (xs.map V.str)):=G.fr.iT n0.2.1 n0.1 (C _ _ c7);let cp:=(u.r.kt ab.kt).kt ((Kt.Z C).trans G.fr.kt);let ch:dR [S.lg,S.ld,lo,lf] fe H X:=(u.fr.trans ((ab.Z C).sub λz hz=>by rw[tF.mp hz];simp)).trans (G.fr.sub λz hz=>by rw[tF.mp hz];simp);let dy:=r9.kt ((Kt.Z C).trans G.fr.kt);let cc:X p9=Yb (.Y o):=G.fr.iT ct cu (C _ _ h9);let bj:=G.sc;let d6:us.length<lj:=aV (by rw[u.r.length,bM,u.li];omega);ext B a1;let R:=ae a1 (.J [.str I,.ref aj,a8]);let bn:Rp K (upd X B (.J [.str I,.ref aj,a8])) (lB (I,W,Y)) (.ref B):=Rp.new (K:=K) (xs:=[.s I,.t (W.map DP),enc Y]) a1 (.cons .s (.cons cr (.one G.r)));let ar:=bj.Z R;let L:=R _ _ bf;let a3:=R _ _ b7;let a6:=R _ _ ce;let a5:=R _ _ cc;let as:=cp.Z R;let cj:=ch.Z R;generalize upd X B (.J [.str I,.ref aj,a8])=H13 at R bn ar L a3 a6 a5 as cj|-;let ag:fu K (upd H13 lf (.Y (us++[.ref B]))) fe d S kl nm (xQ dl) br:=ar.other scB hB.2 L _;let bw:Kt H13 (upd H13 lf (.Y (us++[.ref B]))):=Kt.Y L _;let c8:dR [S.lg,S.ld,lo,lf] fe H (upd H13 lf (.Y (us++[.ref B]))):=cj.upd (by simp) nlf L;let be:upd H13 lf (.Y (us++[.ref B])) lf=Yb (.Y (us++[.ref B])):=af;let b5:upd H13 lf (.Y (us++[.ref B])) lo=Yb (.Y ((qP o0 c').map V.int)):=by rw[ay nol];exact a3
   let ds:upd H13 lf (.Y (us++[.ref B])) ln0=Yb (.Y (xs.map V.str)):=by rw[ay n0.2.2.2.2];exact a6
   let dr:upd H13 lf (.Y (us++[.ref B])) p9=Yb (.Y o):=by rw[ay cs];exact a5
   let cq:=(as.kt bw).snoc (bn.kt bw);let dt:=ag.get (xN S);let(dv,c6,bl):=ag.ld;let cy:=bl.length;rw[bM]at cy;let ea:(xQ dl).length=i:=by unfold xQ;rw[bM,u.li]
   let dm:dv.length<lj:=aV ();ext am a0;let Q:=ae a0 (.J [.str I,.int o.length])
   let bm:Rp K (upd (upd H13 lf (.Y (us++[.ref B]))) am (.J [.str I,.int o.length])) (EB (I,W.length)) (.ref am):=by
    rw[ax];exact Rp.new (K:=K) (xs:=[.s I,.i (W.length:Nat)]) a0 (.cons .s (.one .i))
   let ad:=ag.Z Q;let M:=Q _ _ c6;let ah:=bl.Z Q;let ci:=c8.Z Q;let a2:=Q _ _ b5;let al:=Q _ _ be;let av:=cq.Z Q;generalize upd (upd H13 lf (.Y (us++[.ref B]))) am (.J [.str I,.int o.length])=H15 at Q bm ad M ah ci a2 al av|-
   let an:I∉(xQ dl).map (·.1):=λz=>by
    let e:(xQ dl).map (·.1)=(xs.drop 21).take i:=by unfold xQ;rw[Pz];exact u.g.nm
    rw[e]at z;let(jj,ap):=Po z;rw[Sl]at ap
    split at ap
    .have:=oK un 21 i jj I xi ap;omega
    .cases ap
   let bi:=ad.Ab M ah nld bm an () () ac;let c0:Kt H15 (upd H15 S.ld (.Y (dv++[.ref am]))):=Kt.Y M _;ext;refine M9.mk (dl:=dl++[(I,W,Y)]) (us:=us++[.ref B]) (c:=c') (m:=br) ?_ (ci.upd (by simp) ad.nf.2.2.1 M) (by rw[ay n2];calc a2) (by rw[ay n4];calc al) ?_ (u.g.snoc (oK un 21) xi g8 gg.gd) (by rw[mu,u.li];rfl) bh ?_ (λdd hdd=>(IF.mp hdd).elim (u.dw dd) (λz=>by rw[tF.mp z];calc#[ac,w8]))
   .have e:xQ (dl++[(I,W,Y)])=xQ dl++[(I,W.length)]:=by unfold xQ;rw[i4];rfl
    rw[e];exact bi
   .rw[i4];exact av.kt c0
   .intro dd hdd;rcases IF.mp hdd with hdd|hdd
    .exact u.dd dd hdd
    .rw[tF.mp hdd];exact#[gg.wn,gg.ta,gg.sz,gg.dp,by show W.length<=3;omega]
 .rintro σ H3 ⟨dl,us,c,m,_,_,_,_,rfl,u⟩;let co:=rk.kt u.fr.kt
  let aq:H3 ln0=Yb (.Y (xs.map V.str)):=u.fr.oth _ _ (λz=>by
   simp only[L0,O3,or_false]at z;rcases z with z|z|z|z
   .exact n0.2.1 z
   .exact n0.2.2.1 z
   .exact n0.2.2.2.1 z
   .exact n0.2.2.2.2 z) n0.1 h0
  let b9:=u.hf;ext;calc .inl #[bA.of b9,λp4 b2=>?_];let s4:=ae b2 (.J us);let r4:=Rp.new (K:=K) b2 u.r;generalize upd H3 p4 (.J us)=H4 at s4 r4|-;ext p5 b1;let s5:=ae b1 (.J [kv,.ref p4]);let r5:=Rp.new (K:=K) (xs:=[.t (kl.map jo),.t (dl.map lB)]) b1 (.cons (co.Z s4) (.one r4));generalize upd H4 p5 (.J [kv,.ref p4])=H5 at s5 r5|-;ext p6 c3;let s6:=ae c3 (.J [.ref p5,.ref ln0]);let bk:=(s4.trans s5).trans s6;calc k p6 (.ref p5) _ dl (u.fr.Z bk) (bk _ _ aq) (bY.of af) (r5.Z s6) #[sc.kk.l3,wk,by rw[u.li];omega,by rw[u.li];omega,u.dd,u.dw] (u.g.none hkn)
end G15
namespace L2
open PySem
end L2
namespace HT
open PySem PyProof.Rows
section
open PySem.SeqAt
open PySem.AutoSeq1 (wpAny_loadPart')
open PySem.MeetsSeq PySem.MeetsSeq2 PySem.MeetsSeq3
end
end HT
namespace L2
open PySem PySem.Spec PyProof.Rows
def zh {pos:Pos}{B z y v u l j g e d:Expr}{t1 t2 t3 t4 m t r q p o:TE}(O:PE X B t1)(I:PE X l t)(N:PE X z t2)(H:PE X j r)(M:PE X y t3)(G:PE X g q)(L:PE X v t4)(D:PE X e p)(J:PE X u m)(C:PE X d o):
  PE X (.Dict [Yb B,Yb z,Yb y,Yb v,Yb u] [l,j,g,e,d] pos) (Ir [(t1,t),(t2,r),(t3,q),(t4,p),(m,o)]) :=
 FG (nH O I (nH N H (nH M G (nH L D (nH J C FF))))) rfl rfl (List.cons_ne_nil _ _) (by show 5<=15;decide)
end L2
namespace G15
open PySem L2
structure HF(K:bN) (H:Hp) (f d:Yh) (S:Sn) (kl:Kl) (nm:Yi Yg):Prop where
 sd:H d=Yb (.dK (Ai S))
 kd:Rp K H (.t (kl.map jo)) (.ref S.kd)
 ln:H S.ln=Yb (.Y (nm.map V.str))
 l6:nm.length=6
 un:Un nm
 ld:H S.ld=Yb (.Y [])
 lg:H S.lg=Yb (.Y [])
 f0:0<=S.f0/\S.f0<100
 ff:dc H f
 nf:d≠f/\S.ln≠f/\S.ld≠f/\S.lg≠f/\S.lt≠f
 ng:S.ln≠S.lg/\S.ld≠S.lg/\S.lt≠S.lg
 nt:d≠S.lt/\S.ln≠S.lt/\S.ld≠S.lt
 nd:S.ln≠S.ld
 kk:IJ kl
 nw:∀x∈nm,Wo x
def HF.go (s:HF K H f d S kl e)(fr:dR [S.lt] f H g):HF K g f d S kl e :=
 #[fr.iT s.nt.1 s.nf.1 s.sd,s.kd.kt fr.kt,fr.iT s.nt.2.1 s.nf.2.1 s.ln,s.l6,s.un,fr.iT s.nt.2.2 s.nf.2.2.1 s.ld,fr.iT s.ng.2.2.symm s.nf.2.2.2.1 s.lg,s.f0,fr.ff,s.nf,s.ng,s.nt,s.nd,s.kk,s.nw]
def HF.get (s:HF K H f d S kl g)(e:cZ (Ai S) (ky y)=Yb v):cF H d (.str y) (Yb v):=by
 let h:=cF.k (k:=ky y) s.sd;rw[e]at h;calc h
def HF.fin (s:HF K H f d S kl e)(h:H S.lt=Yb (.Y vs))(r:bR K H ((xZ kl).map EB) vs):fu K H f d S kl e [] 0 :=
 #[s.sd,s.kd,s.ln,s.l6,s.un,#[[],s.ld,.nil],#[vs,h,r],s.lg,ON _,s.f0,s.ff,s.nf,s.ng,s.kk,Vw,ON _,(λ_ h=>nomatch h),s.nw,(λ_ h=>nomatch h)]
structure Nu(K:bN) (fe:Yh) (S:Sn) (kl:Kl) (H0:Hp) (i:Nat) (H:Hp) (vs:Yi V):Prop where
 fr:dR [S.lt] fe H0 H
 h:H S.lt=Yb (.Y vs)
 r:bR K H ((xZ (kl.take i)).map EB) vs
def HG {P:we}{w:OR}{K:bN}{mg:Yg->Option eF}{base:Heap}{gT gN gA:Yh}{tfd nfd afd:EF}{n j:Nat}(hn:6<n)(hj:2<=j){f:Yh}{cdv:eF}{A:OW}{outer:Yi Qp}{s:fy}{H1:Hp}{E:XK}(TK:Za "_law_take" 1 WQ cU gT tfd)(aw:Za "_law_named_kind" 2 W4 (mL K) gA afd)(av:Za "_law_named" j WO (fF K n) gN nfd)(J:mg "len"=Yc)(z_range:mg "range"=Yc)(m:mg "tuple"=Yc)(hr:dU j (A.deeper (OV "_law_named_program" (ak aQ) s⁻¹ f cdv))){D:L2.Ends}{H:Hp}{fe d ln0:Yh}{room:Int}{S:Sn}{kl:Kl}{nm xs:Yi Yg}{kv:V}{o5 o6 o7 o8 o9 o10 o11:Option V}(sc:fu K H fe d S kl nm [] 0)(un:Un xs)(lx:xs.length=24)(wx:∀x∈xs,Wo x)(wk:∀k∈kl,Ho k)(rm1:1<=room)(rm:room<=40)(rk:Rp K H (.t (kl.map jo)) kv)(hkn:cK [] [] kl=Yc)(h0:H ln0=Yb (.Y (xs.map V.str)))(n0:ln0≠fe/\ln0≠S.lg/\ln0≠S.ld)(nld:S.ln≠S.ld/\S.lt≠S.ld)(k:∀(p:Yh) (pv:V) (W:Hp) (dl:Yi Df),dR [S.lg,S.ld] fe H W->W ln0=Yb (.Y (xs.map V.str))->bY K W p [pv,.ref ln0]->Rp K W (.t [.t (kl.map jo),.t (dl.map lB)]) pv->Bj room.toNat 6 kl dl->cz kl dl=Yc->D.rt (.ref p) W):
  jL (Zl gz WN "_law_named_program" (ak aQ) H1).pB ((bx aQ).drop 5) D [Yb (.ref fe),Yb (.int room),Yb (.ref ln0),Yb kv,Yb (.ref d),o5,o6,o7,o8,o9,o10,o11] H:=by
 refine fg ((Z5 (Z4 bE.nd bL 7 (Ze (ak aQ) WN XO [] (cG (va aG 3)) (λ_ _ _ _=>(Zb (2) (Zf (Zx XO 0) (Zs (Zx XO 1))))) (λ_ _ _ _=>(Zw XO 0)))) (Z5 (Z4 bE.nd bL 8 (Zq (Z1 (Z0 TK (di (va aG 0) (Zc aB))) aA))) (Z5 (sa bE.nd bL 9 (dH aA)) dz)))) ?_
 right
 let(ka,a2,rfl,ap,aq):=rk.aS;let l3:=sc.kk.l3;ext;refine vV (K:=K) (e:=jo) (φ:=λk=>[.s k.1]) (λσ=>∃a b,σ=[a,b]) ap aq () (λ_=>i5 _) #[_,_,rfl] ?_ ?_
 .rintro p hp x _ H6 N s6 ⟨_,_,rfl⟩ rx kN;let(xa,x1,x2,rfl,ax,e1,e2):=(show Rp K H6 (.t [.s p.1,.t (p.2.map qA)]) x from rx).t2;obtain rfl:=e1.aL;ext;exact kN _ _ _ #[#[_,_,rfl],aR.refl _,.one .s]
 intro q H2 az Z u h2 r2;rw[wZ,show(λp:Yg×Yi (Yg×Yi Kk)=>T.s p.1)=T.s ∘ (·.1)from rfl,<-Pz]at r2;obtain rfl:=r2.lK;let O:=sc.Z Z;let ar:=O.ff;let G:q≠fe:=bB sc.ff u;let aa:q≠S.lg:=(au sc.lg u).symm;let(dv,as,_):=sc.ld;let ab:q≠S.ld:=(au as u).symm;ext C H3 a1 a0 X;let M:=O.ext X;ext B g;let Y:=ae g (.Y [.int C])
 let h4:upd H3 B (.Y [.int C]) B=Yb (.Y ((qP C 1).map V.int)):=by
  rw[af]
  let:qP C 1=[C]:=by
   show [(C+7*((0:Nat):Int)) % 100]=[C]
   congr 1
   omega
  rw[this];rfl
 let ac:B≠fe:=bB M.ff g;let v:=X.1 _ _ G h2;let U:=X.1 _ _ n0.1 (Z _ _ h0);let ad:ln0≠B:=au U g;let R:q≠B:=au v g;generalize upd H3 B (.Y [.int C])=H4 at Y h4|-;let am:=M.Z Y;ext y l;let s5:=ae l (.Y []);let h5:upd H4 y (.Y []) y=Yb (.Y []):=af;let ag:y≠fe:=bB am.ff l;let an:B≠y:=au h4 l;let ao:ln0≠y:=au (Y _ _ U) l;let ah:q≠y:=au (Y _ _ v) l;generalize upd H4 y (.Y [])=H5 at s5 h5|-;let Q:=Y.trans s5;let L:Ext fe H2 H5:=X.Z Q;let k5:=(Kt.Z Z).trans (L.kt ar);let al:dR [S.lg,S.ld] fe H H5:=((dR.refl sc.ff).Z Z).ext L;let I:H3 y=Yc:=Y.free l;ext;calc HE hn hj TK aw av J z_range m hr M (O.ext L) un lx wx wk rm1 rm (rk.kt k5) #[g,I] hkn (Q _ _ U) #[n0.1,n0.2.1,n0.2.2,ad,ao] (Q _ _ v) #[G,aa,ab,R,ah] (s5 _ _ h4) ac h5 ag an nld λp pv W dl fr hl sq r b e=>k p pv W dl ?_ hl sq r b e;let ai:H B=Yc:=Z.free (G15.Ext.free X g);let aj:H y=Yc:=Z.free (G15.Ext.free X I);refine#[λb o m1 m2 e=>(al.sub (M':=[S.lg,S.ld,B,y]) (λz hz=>by simp only[L0,O3,or_false]at hz|-;rcases hz with h|h;calc .inl h;calc .inr (.inl h))|>.trans fr).oth b o (λz=>?_) m2 e,al.kt.trans fr.kt,fr.ff]
 simp only[L0,O3,or_false]at z;rcases z with z|z|z|z
 .exact m1 (by rw[z];calc .head _)
 .exact m1 (by rw[z];simp)
 .rw[z,ai]at e;cases e
 .rw[z,aj]at e;cases e
def HH {P:we}{w:OR}{K:bN}{mg:Yg->Option eF}{base:Heap}{gT gN gA:Yh}{tfd nfd afd:EF}{n j:Nat}(hn:6<n)(hj:2<=j){f:Yh}{cdv:eF}{A:OW}{outer:Yi Qp}{s:fy}{H1:Hp}{E:XK}(TK:Za "_law_take" 1 WQ cU gT tfd)(al:Za "_law_named_kind" 2 W4 (mL K) gA afd)(aj:Za "_law_named" j WO (fF K n) gN nfd)(m:mg "len"=Yc)(z_range:mg "range"=Yc)(l:mg "tuple"=Yc)(hr:dU j (A.deeper (OV "_law_named_program" (ak aQ) s⁻¹ f cdv))){D:L2.Ends}{H:Hp}{fe d ln0:Yh}{room:Int}{S:Sn}{kl:Kl}{nm xs:Yi Yg}{kv:V}{Z Y o7 o8 o9 o10 o11:Option V}(sq:HF K H fe d S kl nm)(hlt:H S.lt=Yb (.Y []))(un:Un xs)(lx:xs.length=24)(wx:∀x∈xs,Wo x)(wk:∀k∈kl,Ho k)(rm1:1<=room)(rm:room<=40)(rk:Rp K H (.t (kl.map jo)) kv)(hkn:cK [] [] kl=Yc)(h0:H ln0=Yb (.Y (xs.map V.str)))(n0:ln0≠fe/\ln0≠S.lg/\ln0≠S.ld/\ln0≠S.lt)(k:∀(p:Yh) (pv:V) (u:Hp) (dl:Yi Df),dR [S.lt,S.lg,S.ld] fe H u->u ln0=Yb (.Y (xs.map V.str))->bY K u p [pv,.ref ln0]->Rp K u (.t [.t (kl.map jo),.t (dl.map lB)]) pv->Bj room.toNat 6 kl dl->cz kl dl=Yc->D.rt (.ref p) u):
  jL (Zl gz WN "_law_named_program" (ak aQ) H1).pB ((bx aQ).drop 4) D [Yb (.ref fe),Yb (.int room),Yb (.ref ln0),Yb kv,Yb (.ref d),Z,Y,o7,o8,o9,o10,o11] H:=by
 refine fg ((Z5 (Zj O8 (cG (va aG 3)) (Zb (2) (Zf (ga bE.nd bL 5) (Zs (ga bE.nd bL 6)))) (Zd (Zo (@yk _ _ _ _ _ _ _ _ _ _ _ _ Rw UJ UK vK (Zi (va aG 4)) (Z1 (Ze (ak aQ) WN Xm [] (cG (va aG 6)) (λ_ _ _ _=>(Zb (2) (Zf (Zx Xm 0) (Zs (Zx Xm 1))))) (λ_ _ _ _=>(Zk (Z1 (Zw Xm 0) (Z1 (Z2 (pe K rfl) m OS (Zc (Zw Xm 1))) aA))))) aA) (by rfl) (by rfl) (by rfl) (by rfl) (by rfl))))) dz)) ?_
 right
 calc kT ?_;intro N1 c1;let(ka,aa,rfl,ab,I):=rk.aS;let C:=I.length;rw[bM]at C;let l3:=sq.kk.l3;ext;refine eY (K:=K) (xs:=aa) (λi v M=>∃Z Y vs,v=[Yb (.ref fe),Yb (.int room),Yb (.ref ln0),Yb (.ref ka),Yb (.ref d),Z,Y,o7,o8,o9,o10,o11]/\Nu K fe S kl H i M vs) #[_,_,[],rfl,dR.refl sq.ff,hlt,.nil] ?_ ?_ ?_
 .rintro i v M hi ⟨_,_,_,_,g⟩;exact ab.kt g.fr.kt
 .rintro i xv v M hxv ⟨_,_,vs,rfl,g⟩;let(t,ht,W):=I.get' hxv;rw[vv]at ht;let(kd,q,rfl):=ri.mp ht;let ah:=(bH.mp q).1;let ai:kl.take (i+1)=kl.take i++[kd]:=by rw[i3 ah,(bH.mp q).2]
  let(as,ar,aq):=sq.kk.pt kd (xn q);let(qa,w1,w2,rfl,X,q1,q2):=(show Rp K H (.t [.s kd.1,.t (kd.2.map qA)]) xv from W).t2;obtain rfl:=q1.aL;let(ta,ao,rfl,O,Q):=q2.aS;let k3:=g.fr.kt;let am:=X.kt k3;let y:=O.kt k3;let B:=Q.kt k3;let T:=sq.go g.fr;let aw:=T.get (Bg S);let ag:=g.h;ext;refine vV (K:=K) (e:=qA) (φ:=λt=>[EB (t.1,t.2.length)]) (λv=>∃a b,v=[a,b]) y B () (λ_=>i5 _) #[_,_,rfl] ?_ ?_
  .rintro p hp x _ H6 N s6 ⟨_,_,rfl⟩ W kN;let(xa,x1,x2,rfl,an,e1,e2):=(show Rp K H6 (.t [.s p.1,.t (p.2.map mX)]) x from W).t2;obtain rfl:=e1.aL;let(ia,ac,rfl,au,ad):=e2.aS;let G:=ad.length;rw[bM]at G;ext p7 L;let s7:=ae L (.J [.str p.1,.int ac.length]);exact kN _ _ _ #[#[_,_,rfl],s7,.one (by rw[G];calc Rp.new (K:=K) (xs:=[.s p.1,.i (p.2.length:Nat)]) L (.cons .s (.one .i)))]
  intro l4 H4 o U av h4 r4;rw[wZ]at r4;let J:=U _ _ ag;let lw:=r4.length;rw[bM]at lw;let lv:=g.r.length
  let ap:(xZ (kl.take i)).length<=9:=by
   let:=EA sq.kk
   let e:xZ kl=xZ (kl.take i)++xZ (kl.drop i):=by
    unfold xZ;rw[<-Pk,Rb]
   rw[e,mu]at this;omega
  rw[bM]at lv;let lc:vs.length+o.length<=lj:=small ();let k5:Kt H4 (upd H4 S.lt (.Y (vs++o))):=Kt.Y J _;ext;refine Nu.mk (vs:=vs++o) ((g.fr.Z U).upd (.head _) sq.nf.2.2.2.2 J) af ?_
  let e:xZ (kl.take (i+1))=xZ (kl.take i)++kd.2.map λt=>(t.1,t.2.length):=by
   rw[ai];unfold xZ;rw[Pk];simp
  rw[e,i4,Pz];exact((g.r.Z U).kt k5).append (r4.kt k5)
 .rintro v M ⟨_,_,vs,rfl,g⟩;let r3:=g.r;rw[C,OO]at r3;calc Cut.go c1 ?_;refine HG hn hj TK al aj m z_range l hr ((sq.go g.fr).fin g.h r3) un lx wx wk rm1 rm (rk.kt g.fr.kt) hkn (g.fr.iT n0.2.2.2 n0.1 h0) #[n0.1,n0.2.1,n0.2.2.1] #[sq.nd,sq.nt.2.2.symm] λp pv u dl fr hl R r b e=>k p pv u dl ((g.fr.sub ?_).trans (fr.sub ?_)) hl R r b e
  .intro z hz;rw[tF.mp hz];exact .head _
  .intro z hz;calc .tail _ hz
meta def CM(kd d g e:Yh)(f0:Int):Yi (Key×V):=[(ky "kinds",.ref kd),(ky "names",.ref d),(ky "defs",.ref g),(ky "gaps",.ref e),(ky "first",.int f0)]
def Kn (kd d g e:Yh)(f0:Int):pK [] (CM kd d g e f0)=CM kd d g e f0:=by kernel_rfl
def Ko (kd d g e lt:Yh)(f0:Int):putK (CM kd d g e f0) (ky "tags") (.ref lt)=Ai #[kd,d,g,e,lt,f0]:=by kernel_rfl
def EO {P:we}{w:OR}{K:bN}{mg:Yg->Option eF}{base:Heap}{gT gN gA:Yh}{tfd nfd afd:EF}{n j:Nat}(hn:6<n)(hj:2<=j){f:Yh}{cdv:eF}{A:OW}{outer:Yi Qp}{s:fy}{H1:Hp}{E:XK}(TK:Za "_law_take" 1 WQ cU gT tfd)(a4:Za "_law_named_kind" 2 W4 (mL K) gA afd)(a3:Za "_law_named" j WO (fF K n) gN nfd)(R:mg "len"=Yc)(z_range:mg "range"=Yc)(B:mg "tuple"=Yc)(hr:dU j (A.deeper (OV "_law_named_program" (ak aQ) s⁻¹ f cdv))){D:L2.Ends}{H:Hp}{fe ln0:Yh}{room:Int}{kl:Kl}{xs:Yi Yg}{kv:V}{o4 o5 o6 o7 o8 o9 o10 o11:Option V}(hf:dc H fe)(un:Un xs)(lx:xs.length=24)(wx:∀x∈xs,Wo x)(rm1:1<=room)(rm:room<=40)(rk:Rp K H (.t (kl.map jo)) kv)(ok:Cr xs kl)(k3:kl.length<=3)(h0:H ln0=Yb (.Y (xs.map V.str)))(n0:ln0≠fe)(k:∀(p:Yh) (pv:V) (H':Hp) (dl:Yi Df),Ext fe H H'->H' ln0=Yb (.Y (xs.map V.str))->bY K H' p [pv,.ref ln0]->Rp K H' (.t [.t (kl.map jo),.t (dl.map lB)]) pv->Bj room.toNat 6 kl dl->cz kl dl=Yc->D.rt (.ref p) H'):
  jL (Zl gz WN "_law_named_program" (ak aQ) H1).pB ((bx aQ).drop 2) D [Yb (.ref fe),Yb (.int room),Yb (.ref ln0),Yb kv,o4,o5,o6,o7,o8,o9,o10,o11] H:=by
 refine fg ((Z5 (Z4 bE.nd bL 4 (@zh _ _ _ _ _ _ _ _ _ _ _ _ _ _ _ _ _ _ _ _ _ _ aD (va aG 3) aD (b6 qg (va aG 2) (bZ aB) (bZ aB)) aD (dH aA) aD (dH aA) aD (Z0 TK (di (va aG 0) (Zc aB))))) (Z5 (qj (gJ hr) (va aG 4) aD (dH aA) (by rfl)) dz))) ?_
 right
 let e3:iE (xs.map V.str) (Yb 12) (Yb 18)=((xs.drop 12).take 6).map V.str:=by
  rw[show(Yb (12:Int))=Yb ((12:Nat):Int)from rfl,show(Yb (18:Int))=Yb ((18:Nat):Int)from rfl,yG _ _ _ (by rw[bM];omega) (),QY,VR]
 let(q,a6,rfl,a7,a8):=rk.aS;ext d hd;let G:=ae hd (.dK []);let h1:upd H d (.dK []) d=Yb (.dK []):=af;let ap:=G _ _ h0;generalize upd H d (.dK [])=H1 at G h1 ap|-;ext m J;rw[e3];let W:=ae J (.Y (((xs.drop 12).take 6).map V.str));let h2:upd H1 m (.Y (((xs.drop 12).take 6).map V.str)) m=Yb (.Y (((xs.drop 12).take 6).map V.str)):=af;generalize upd H1 m (.Y (((xs.drop 12).take 6).map V.str))=H2 at W h2|-;ext l L;let U:=ae L (.Y []);let h3:upd H2 l (.Y []) l=Yb (.Y []):=af;generalize upd H2 l (.Y [])=H3 at U h3|-;ext g C;let s4:=ae C (.Y []);let h4:upd H3 g (.Y []) g=Yb (.Y []):=af;generalize upd H3 g (.Y [])=H4 at s4 h4|-;let X:=((G.trans W).trans U).trans s4;let a9:=hf.Z X;ext u Q a0 az x5;let nd:d≠fe:=bB hf hd;let nn:m≠fe:=bB (hf.Z G) J;let nl:l≠fe:=bB (hf.Z (G.trans W)) L;let ng:g≠fe:=bB (hf.Z ((G.trans W).trans U)) C;let an:=x5.1 _ _ nd (s4 _ _ (U _ _ (W _ _ h1)));let aj:=x5.1 _ _ nn (s4 _ _ (U _ _ h2));let al:=x5.1 _ _ nl (s4 _ _ h3);let am:=x5.1 _ _ ng h4;let ao:=x5.1 _ _ n0 (X _ _ h0);let ar:Ext fe H Q:=((Ext.refl hf).Z X).trans x5;let a5:=rk.kt (ar.kt hf);let m1:m≠l:=au h2 L;let m2:m≠g:=au (U _ _ h2) C;let m3:l≠g:=au h3 C;let z1:H m=Yc:=G.free J;let z2:H l=Yc:=(G.trans W).free L;let z3:H g=Yc:=((G.trans W).trans U).free C;let ba:ln0≠m:=au ap J;let a2:ln0≠l:=au h0 z2;let a1:ln0≠g:=au h0 z3;ext
 .exact(show _=(CM q m l g u).map (λkv=>(kV kv.1,kv.2))from rfl)
 calc#[by show 5<=15;decide,?_];rw[Kn];let y:∀{b:Yh}{us:Yi V},Q b=Yb (.Y us)->b≠d:=λe=>jB e an nofun
 let O:dR [] fe H (upd Q d (.dK (CM q m l g u))):=(Ext.uZ hf ar).Iw hd nd an;let ah:upd Q d (.dK (CM q m l g u)) d=Yb (.dK (CM q m l g u)):=af;let ac:upd Q d (.dK (CM q m l g u)) m=Yb (.Y (((xs.drop 12).take 6).map V.str)):=by rw[ay (y aj)];exact aj
 let ad:upd Q d (.dK (CM q m l g u)) l=Yb (.Y []):=by rw[ay (y al)];exact al
 let ag:upd Q d (.dK (CM q m l g u)) g=Yb (.Y []):=by rw[ay (y am)];exact am
 let ai:upd Q d (.dK (CM q m l g u)) ln0=Yb (.Y (xs.map V.str)):=by rw[ay (y ao)];exact ao
 generalize upd Q d (.dK (CM q m l g u))=H6 at O ah ac ad ag ai|-;ext lt o;let T:=ae o (.Y []);let h7:upd H6 lt (.Y []) lt=Yb (.Y []):=af;let M:=T _ _ ah;let q1:d≠lt:=au ah o;let q2:m≠lt:=au ac o;let q3:l≠lt:=au ad o;let q4:g≠lt:=au ag o;let q5:ln0≠lt:=au ai o;let q6:lt≠fe:=bB O.ff o;let z4:H lt=Yc:=O.free o nofun
 let aq:=O.Z T;let Y:=T _ _ ac;let Z:=T _ _ ad;let aa:=T _ _ ag;let ab:=T _ _ ai;generalize upd H6 lt (.Y [])=H7 at T h7 M aq Y Z aa ab|-;let dp:=oO.k (k:=ky "tags") (v:=.ref lt) M (by show 5<lj;decide);rw[Ko]at dp;let I:∀{b:Yh}{us:Yi V},H7 b=Yb (.Y us)->b≠d:=λe=>jB e M nofun
 let N:dR [] fe H (upd H7 d (.dK (Ai #[q,m,l,g,lt,u]))):=aq.Iw hd nd M;let as:Un ((xs.drop 12).take 6):=oM (oK un 12) 6;let l6:((xs.drop 12).take 6).length=6:=by rw[x9,P6];omega
 let sq:HF K (upd H7 d (.dK (Ai #[q,m,l,g,lt,u]))) fe d #[q,m,l,g,lt,u] kl ((xs.drop 12).take 6):=#[af,rk.kt N.kt,by show upd _ _ _ m=_;rw[ay (I Y)];exact Y,l6,as,by show upd _ _ _ l=_;rw[ay (I Z)];exact Z,by show upd _ _ _ g=_;rw[ay (I aa)];calc aa,#[a0,az],N.ff,#[nd,nn,nl,ng,q6],#[m2,m3,q4.symm],#[q1,q2,q3],m1,Ak un ok k3 wx,λx hx=>wx x (Rq (Pn hx))];let aw:upd H7 d (.dK (Ai #[q,m,l,g,lt,u])) lt=Yb (.Y []):=by rw[ay q1.symm];exact h7
 let ax:upd H7 d (.dK (Ai #[q,m,l,g,lt,u])) ln0=Yb (.Y (xs.map V.str)):=by rw[ay (I ab)];exact ab
 ext;calc HH (S:=#[q,m,l,g,lt,u]) hn hj TK a4 a3 R z_range B hr sq aw un lx wx (uU ok wx) rm1 rm (rk.kt N.kt) (EM un ok) ax #[n0,a1,a2,q5] λp pv H' dl fr hl av r b e=>k p pv H' dl ?_ hl av r b e;let ft:=(N.sub (M':=[lt,g,l]) (λz hz=>nomatch hz)).trans fr
 calc((ft.drop z4).drop z3).drop z2|>.ex
def ER (hn:6<n)(hj:3<=j)(F:jn K "_law_named_program" "_law_named_program" aQ f J)(TK:Za "_law_take" 1 WQ cU gT tfd)(NM:Za "_law_names" 2 WQ A8 gM mfd)(z:Za "_law_heads" 3 XJ (Bc K) gH hfd)(y:Za "_law_named_kind" 2 W4 (mL K) gA afd)(v:Za "_law_named" j WO (fF K n) gN nfd)(l:mg "len"=Yc)(z_range:mg "range"=Yc)(d:mg "tuple"=Yc):Zt gz (j+1) f J XS (Bk K):=by
 refine F.ok bE (λM H Q E h=>?_) (λcdv A outer s H M Q E hr h=>?_)
 .have(_,_,rfl,_):=h;rfl
 let(Y,D,rfl,W,t,O,k):=h;refine#[_,(Z5 (Z4 bE.nd bL 2 (Z0 NM (di (va aG 0) (Zc aB)))) (Z5 (Z4 bE.nd bL 3 (Z0 z (Z1 (va aG 0) (Zc (va aG 2))))) dz)),?_]
 right
 ext o H1 B C g u S I un;let m:B.length=24:=S;let V:=C.2;let G:o≠Y:=bB W g;ext kv H2 T q ok U R;ext;calc EO hn () TK y v l z_range d hr q.2 un m I t O R ok U (q.1 _ _ G u) G λp pv H' Z L X N r b e=>k p o pv H' T Z B ((C.trans q).trans L) g X m I N r b e
def uV (x:Yg)(h:(x.cps.toList.all λc=>decide (c<1000))=Yd):Lo x:=λc d=>of_decide_eq_true (Pj.mp h c d)
def Kp :Wo "?":=#[by decide,uV _ (by decide)]
def zj :Wo "match":=#[by decide,uV _ (by decide)]
theorem sX :∀{l a:Yi Yg}{x:Yg},cJ a l=Yb x->x∈l
 |y::r,a,x,h=>by
  let h:(if y∈a then Yb y else cJ (a++[y]) r)=Yb x:=h
  by_cases c:y∈a
  .rw[if_pos c]at h;cases h;exact .head _
  .rw[if_neg c]at h;calc .tail _ (sX h)
def HK (w:Hl k)(h:iF ah k=Yb n):Wo n:=by
 unfold iF at h
 cases e:k.core with
 |num=>rw[e]at h;cases h
 |row j=>rw[e]at h;cases h
 |op m=>rw[e]at h;cases h;calc Kp
 |kd x =>
  rw[e]at h;let h:(if x∈ah then Yc else Yb x)=Yb n:=h
  by_cases c:x∈ah
  .rw[if_pos c]at h;cases h
  .rw[if_neg c]at h;obtain rfl:=OL h;calc w _ e
theorem zk :∀{ks:Yi Kk}{n:Yg},(∀k∈ks,Hl k)->fR (iF ah) ks=Yb n->Wo n
 |k::r,n,w,h=>by
  unfold fR at h
  cases e:iF ah k with
  |some m=>rw[e]at h;cases h;calc HK (w k (.head _)) e
  |none=>rw[e]at h;calc zk (λx d=>w x (.tail _ d)) h
theorem Bl :∀{j:Yi (Yg×Yi Kk)}{ta:Yi Yg}{f:Flt},(∀t∈j,Wo t.1/\∀c∈t.2,Hl c)->(∀x∈ta,Wo x)->gj ah ta j=Yb f->Wo f.2
 |t::r,ta,f,w,wt,h=>by
  unfold gj at h;let d:∀x∈ta++[t.1],Wo x:=λx g=>(IF.mp g).elim (wt x) (λz=>by rw[tF.mp z];calc(w t (.head _)).1)
  cases e:cJ [] (ta++[t.1])with
  |some x=>rw[e]at h;cases h;calc d x (sX e)
  |none =>
   rw[e]at h;dsimp only at h
   cases e2:fR (iF ah) t.2 with
   |some n=>rw[e2]at h;cases h;calc zk (w t (.head _)).2 e2
   |none=>rw[e2]at h;calc Bl (λx g=>w x (.tail _ g)) d h
theorem zl :∀{kl:Kl}{ah ta:Yi Yg}{f:Flt},(∀k∈kl,Ho k)->(∀x∈ah,Wo x)->(∀x∈ta,Wo x)->cK ah ta kl=Yb f->Wo f.2
 |k::r,ah,ta,f,w,wa,wt,h=>by
  unfold cK at h;let wk:=w k (.head _);let d:∀x∈ah++[k.1],Wo x:=λx g=>(IF.mp g).elim (wa x) (λz=>by rw[tF.mp z];calc wk.2.2.2.1);let j:∀x∈ta++k.2.map (·.1),Wo x:=λx g=>(IF.mp g).elim (wt x) (λz=>by let(t,l,rfl):=O2.mp z;calc(wk.2.2.2.2 t l).1)
  cases e:cJ [] (ah++[k.1])with
  |some x=>rw[e]at h;cases h;calc d x (sX e)
  |none =>
   rw[e]at h;dsimp only at h
   cases e2:gj ah ta k.2 with
   |some n=>rw[e2]at h;cases h;calc Bl wk.2.2.2.2 wt e2
   |none=>rw[e2]at h;calc zl (λx g=>w x (.tail _ g)) d j h
def ES (w:Hl k)(h:fM g d k=.error f):Wo f.2:=by
 unfold fM at h
 cases e:k.core with
 |num=>rw[e]at h;cases h
 |row j=>rw[e]at h;cases h
 |op m =>
  rw[e]at h;let h:(if m∈d then Except.error (Er.tw,("?":Yg))else Except.ok (d++[m]))=.error f:=h
  by_cases c:m∈d
  .rw[if_pos c]at h;cases h;exact Kp
  .rw[if_neg c]at h;cases h
 |kd x =>
  rw[e]at h;let h:(if x∈g then Except.ok d else Except.error (Er.nn,x))=.error f:=h
  by_cases c:x∈g
  .rw[if_pos c]at h;cases h
  .rw[if_neg c]at h;cases h;calc w x e
theorem wH :∀{ps:Yi (Yg×Kk)}{ah:Yi Yg}{d:Yi Int}{f:Flt},(∀p∈ps,Wo p.1/\Hl p.2)->cV j ah d ps=.error f->Wo f.2
 | [],_,_,_,_,h=>by cases h
 |p::r,ah,d,f,w,h=>by
  let h:(if p.1∈ah then Except.error (Er.tw,p.1)else match fM j d p.2 with
   |.error f=>.error f
   |.ok os'=>cV j (ah++[p.1]) os' r)=.error f:=h
  by_cases c:p.1∈ah
  .rw[if_pos c]at h;cases h;exact(w p (.head _)).1
  .rw[if_neg c]at h
   cases e:fM j d p.2 with
   |error g=>rw[e]at h;cases h;calc ES (w p (.head _)).2 e
   |ok os'=>rw[e]at h;calc wH (λx l=>w x (.tail _ l)) h
def HL (w:∀a∈arms,Wo a.1/\∀x∈a.2,Wo x)(h:fz kl arms=Yb f):Wo f.2:=by
 cases arms with
 |nil=>cases h;calc zj
 |cons a r =>
  unfold fz at h;dsimp only at h
  split at h
  .next b d=>cases h;exact(w b (Qg d)).1
  .split at h
   .have(b,d,e):=List.exists_of_findSome?_eq_some h;unfold jy at e
    split at e
    .cases e;exact(w b d).1
    .split at e
     .cases q:cJ [] b.2 with
      |none=>rw[q]at e;cases e
      |some x=>rw[q]at e;cases e;exact(w b d).2 x (sX q)
     .cases e;exact(w b d).1
   .cases h;calc zj
def HM (w:HW h)(e:eK kl ds gs ns h n=.error f):Wo f.2:=by
 cases h with
 |name x =>
  let e:(if x∈ns then Except.ok gs else .error (Er.nn,x))=.error f:=e
  by_cases c:x∈ns
  .rw[if_pos c]at e;cases e
  .rw[if_neg c]at e;cases e;calc w
 |tag t =>
  let e:(match jR kl t with
   |none=>Except.error (Er.nn,t)
   |some y=>if n=y.2.2.length then Except.ok gs else .error (.wr,t))=.error f:=e
  split at e
  .cases e;exact w
  .split at e
   .cases e
   .cases e;calc w
 |call t =>
  let e:(match ds.find? (λd=>decide (d.1=t))with
   |none=>Except.error (Er.nn,t)
   |some y=>if n=y.2 then Except.ok gs else .error (.wr,t))=.error f:=e
  split at e
  .cases e;exact w
  .split at e
   .cases e
   .cases e;calc w
 |mat arms =>
  let e:(match fz kl arms with
   |some f=>Except.error f
   |none=>Except.ok gs)=.error f:=e
  cases q:fz kl arms with
  |none=>rw[q]at e;cases e
  |some g=>rw[q]at e;cases e;calc HL w q
 |fold x y =>
  let e:(if x=y then .error (Er.tw,x)else Except.ok gs)=.error f:=e
  by_cases c:x=y
  .rw[if_pos c]at e;cases e;exact w
  .rw[if_neg c]at e;cases e
 |gap m =>
  let e:(if m∈gs then .error (Er.tw,("?":Yg))else Except.ok (gs++[m]))=.error f:=e
  by_cases c:m∈gs
  .rw[if_pos c]at e;cases e;exact Kp
  .rw[if_neg c]at e;cases e
 |num _=>cases e
 |op _=>cases e
 |row=>cases e
 |more=>cases e
 |first=>cases e
 |others=>cases e
 |long=>cases e
 |ife=>cases e
 |lt _=>cases e
def L5 :Ta d->∀{gs:Yi Int}{ns:Yi Yg}{f:Flt},sH kl ds gs ns d=.error f->Wo f.2:=by
 refine Tm.induct (P:=λd=>Ta d->∀{gs:Yi Int}{ns:Yi Yg}{f:Flt},sH kl ds gs ns d=.error f->Wo f.2) (λh ks o t gs ns f e=>?_) d
 cases t with
 |mk _ w wk =>
 rw[rG]at e
 cases q:eK kl ds gs ns h ks.length with
 |error g=>rw[q]at e;cases e;calc HM w q
 |ok gs' =>
  rw[q]at e
  let j:∀(l:Yi Tm),(∀k∈l,k∈ks)->∀(bs:Yi (Yi Yg)) (gs:Yi Int),jM kl ds gs ns bs l=.error f->Wo f.2:=by
   intro l
   induction l with
   |nil=>intro _ bs gs e;rw[kI]at e;cases e
   |cons k r ihl =>
    intro m bs gs e
    cases bs with
    |nil=>unfold jM at e;cases e
    |cons b bs =>
     rw[iR]at e
     cases q2:sH kl ds gs (ns++b) k with
     |error g=>rw[q2]at e;cases e;calc o k (m k (.head _)) (wk k (m k (.head _))) q2
     |ok g'=>rw[q2]at e;exact ihl (λx p=>m x (.tail _ p)) bs g' e
  calc j ks (λ_ h=>h) _ gs' e
theorem Bm :∀{dl:Yi Df}{ds:Yi (Yg×Nat)}{gs j:Yi Int}{f:Flt},(∀d∈dl,M8 d/\Ta d.2.2)->jq kl ds gs j dl=Yb f->Wo f.2
 | [],_,_,_,_,_,h=>by cases h
 |d::r,ds,gs,j,f,w,h=>by
  rw[rH]at h;let((o,m),l):=w d (.head _)
  by_cases c:d.1∈ds.map (·.1)
  .rw[if_pos c]at h;cases h;exact o
  .rw[if_neg c]at h
   cases e:cV (kl.map (·.1)) [] j d.2.1 with
   |error g=>rw[e]at h;cases h;calc wH m e
   |ok os' =>
    rw[e]at h;unfold om at h;dsimp only at h
    cases e2:sH kl ds gs (d.2.1.map (·.1)) d.2.2 with
    |error g=>rw[e2]at h;cases h;calc L5 l e2
    |ok gs'=>rw[e2]at h;calc Bm (λx p=>w x (.tail _ p)) h
def HN (b:Bj z dp kl dl)(h:cz kl dl=Yb f):Wo f.2:=by
 unfold cz at h
 cases e:cK [] [] kl with
 |some g=>rw[e]at h;cases h;calc zl (ah:=[]) (ta:=[]) b.kt (λ_ h=>nomatch h) (λ_ h=>nomatch h) e
 |none=>rw[e]at h;calc Bm (λd hd=>#[b.dw d hd,(b.dd d hd).2.1]) h
def Bj.Nv (b:Bj z dp kl dl):xY kl:=#[by let:=b.k3;omega,λk d=>#[by let:=(b.kt k d).2.1;omega,λt e=>by let:=(b.kt k d).2.2.1 t e;omega]]
def Bj.Nx (b:Bj z dp kl dl)(j:z<=80)(hn:dp<n):Mt n dl:=#[by let:=b.d3;omega,λd hd=>by
 let(a,c,e,g,i):=b.dd d hd;calc#[#[a,c,(),()],()]]
abbrev Al:=Yg×Yi Yg×Tm
meta def xR(a:Al):T:=.t [.s a.1,.t (a.2.1.map .s),enc a.2.2]
structure E9(q:Nat) (al:Yi Al):Prop where
 len:al.length<=3+q
 w:∀a∈al,Wo a.1/\(∀x∈a.2.1,Wo x)/\a.2.1.length<=2+q
meta def yb(d:Yi Al):Nat:=Tm.sizes (d.map λa=>a.2.2)
def sY (a b:Yi Al):yb (a++b)=yb a+yb b:=by unfold yb;rw[i4,Tm.er]
def rK (d:Yi Al)(i:Nat):yb (d.take i)+yb (d.drop i)=yb d:=by rw[<-sY,Rb]
def Kq (h:d[i]?=Yb a):yb (d.take i)+(a.2.2.size+yb (d.drop (i+1)))=yb d:=by
 let e:=(bH.mp h);let:d.drop i=a::d.drop (i+1):=by rw[O5 e.1,e.2]
 rw[<-rK d i,this];unfold yb;rw[OQ,Tm.bQ]
meta def Bo(K:bN):Sp:=λm H Q _=>∃(f:Yh) (v:V) (j:Yg) (e:Yi Al) (q:Nat),m=[.ref f,v,.str j]/\dc H f/\Rp K H (.t (e.map xR)) v/\E9 q e/\q<=4/\Wo j /\
 ∀(l:V) (g:Hp) (d:Yi Al),Ext f H g->Rp K g (.t (d.map xR)) l->E9 (q+1) d->(∀o∈d,∃a∈e,o.2.2=a.2.2)->yb d<=2*yb e->Q l g
def qK (xs:Yi V):iE xs Yc (Yb (-1))=xs.dropLast:=by
 rcases Rc xs with rfl|⟨ys,y,rfl⟩
 .rfl
 .have h:(-1+(((ys.length:Nat):Int)+1)).toNat=ys.length:=()
  rw[S2,Tj];unfold iE HT.iw;simp;rw[h];simp
def E9.up (h:E9 q e):E9 (q+1) e:=#[by let:=h.len;omega,λa d=>#[(h.w a d).1,(h.w a d).2.1,by let:=(h.w a d).2.2;omega]]
def E9.sub (h:E9 q d)(s:∀a∈bl,a∈d)(l:bl.length<=4+q):E9 (q+1) bl:=#[(),λa e=>h.up.w a (s a e)]
theorem _root_.L2.bR.rep {K:bN}{H:Hp}{xs:Yi T}{us:Yi V}(r:bR K H xs us):∀n:Nat,bR K H (L1 n xs).flatten (L1 n us).flatten:=by
 intro n
 induction n with
 |zero=>calc .nil
 |succ n ih =>
  rw[Qi,Qi,Rn,Rn];calc r.append ih
def aJ :Nm W8 (ak gY):=by decide
def cy :Lm W8 (ak gY):=by decide
def bX :aY W8 XI (ak gY):=by ac_rfl
def EU (F:jn K "_law_other_arms" "_law_other_arms" gY f fd)(TK:Za "_law_take" 1 WQ cU gT tfd)(L:mg "len"=Yc):Zt gz 2 f fd XI (Bo K):=by
 refine F.ok bX (λvs H Q E h=>?_) (λcdv A outer s H vs Q E hr h=>?_)
 .have(_,_,_,_,_,rfl,_):=h;rfl
 let(X,v,W,N,q,rfl,hf,rv,ab,hq,a2,k):=h;refine#[_,(Z5 (Z4 bX.nd cy 3 (Z0 TK (di (va aJ 0) (Zc aB)))) (Z5 (Z8 (PW.pt (@pX _ _ _ _ _ _ _ (Zn oV (va aJ 3) aB) (@pA _ _ _ _ (Zg bO (Z2 aM L OS (Zc (va aJ 1))) aB (bz _))))) (Zd (Zp (Zh aZ (Zq (Z1 (@b6 _ _ _ _ _ _ _ _ _ _ gy (va aJ 1) cQ (bZ (kQ iV aB))) (Z1 (Zm gU (va aJ 1) (b6 gy (va aJ 1) cQ (bZ aB))) (Zc (eJ aA))))) (bU gE (va aJ 3) aB))))) (Z5 (Z4 bX.nd cy 4 (Z0 TK (Z1 (va aJ 0) (Z1 (Z2 aM L OS (Zc (va aJ 1))) aA)))) (Z5 (@iD _ _ _ _ _ _ (jD aI (va aJ 1) (va aJ 4) (λ_ _=>rfl)) (Zb (3) (Zf (ga bX.nd cy 5) (Zf (ga bX.nd cy 6) (Zs (ga bX.nd cy 7))))) (by rfl) (by rfl) (by rfl)) (Z5 (Z8 (Zn bO (va aJ 3) aB) (Zd (sa bX.nd cy 5 (va aJ 2)))) (Z5 (Z8 (Zn bO (va aJ 3) aB) (Zd (Z4 bX.nd cy 5 (Zh aI (Z6 aI (va aJ 1)) aB)))) (Z5 (Z8 (Zn bO (va aJ 3) aB) (Zd (Z4 bX.nd cy 6 (Zm gU (va aJ 6) (Zk (Zc (va aJ 2))))))) (Z5 (Z8 (Zn bO (va aJ 3) aB) (Zd (Z4 bX.nd cy 6 (@b6 _ _ _ _ _ _ _ _ _ _ gy (va aJ 6) cQ (bZ (kQ iV aB)))))) (Z5 (Z8 (Zn bO (va aJ 3) aB) (Zd (Z4 bX.nd cy 6 (Zm Gb (b6 gy (va aJ 6) cQ (bZ aB)) (Z2 aM L OS (Zc (va aJ 6))))))) (Zd (Zp (Zm gU (Zm gU (@b6 _ _ _ _ _ _ _ _ _ _ gy (va aJ 1) cQ (bZ (va aJ 4))) (Zk (Z1 (Zk (Z1 (va aJ 5) (Z1 (va aJ 6) (Zc (va aJ 7))))) aA))) (@b6 _ _ _ _ _ _ _ _ _ _ gy (va aJ 1) (@bZ _ _ _ (bU eg (va aJ 4) aB)) cQ))))))))))))),?_]
 right
 let(a,G,rfl,sq,rs):=id rv.aS;let lw:=rs.length;rw[bM]at lw;let lq:=ab.len;let bv:bA K H a G\/bY K H a G:=.inr sq;calc uq ?_;intro N1 N2 N3 N4 N5 N6 N7 N8 c1 c2 c3 c4 c5 c6 c7 c8;ext T H1 b4 b3 x1;let bw:=x1.2;let ao:=sq.kt (x1.kt hf);let ba:=rs.kt (x1.kt hf);calc c1.go ?_;refine JK (λb H2=>H2=H1/\(b=Ye->0<G.length/\3<=T)) (λC hC=>?_) (λH2 h2=>?_) (λH2 h2=>?_)
 .ext;refine bP (λc=>?_) (λc=>?_)
  .exact hC _ _ #[rfl,λz=>nomatch z]
  let bo:bA K H1 a G\/bY K H1 a G:=.inr ao;ext;refine hC _ _ #[rfl,λz=>#[?_,?_]]
  .have z':=of_decide_eq_false z;let:(G.length:Int)≠0:=λq=>z' (by rw[q]);omega
  .have:¬T<3:=λz=>c (decide_eq_true z);omega
 .have(rfl,_):=h2;ext p3 O s3 h3;rw[qK]at h3;let ar:=ao.Z s3;ext p4 H4 Z h4;rw[show iE G Yc (Yb 1)=G.take 1 from gr G 1]at h4;let bp:=ar.Z Z;let l4:G.length+(G.take 1).length<=lj:=small (by rw[x9];omega);ext p5 H5 s5 h5;ext;calc nw λp6 H6 s6 a4 bt=>?_;let h6:bY K H6 p6 []:=bY.of a4;ext;calc nw λp7 H7 s7 a3 bs=>?_;let h7:bA K H7 p7 [.ref p3,.ref p5,.ref p6]:=bA.of a3;let as:=Z.trans (s5.trans (s6.trans s7));let au:=s3.trans as;let x7:=x1.Z au;let r7:bR K H7 (N.map xR) G:=ba.Z au;let rr:T % 3=0\/T % 3=1\/T % 3=2:=()
  obtain⟨u,hu,U,ru,b',be,kz⟩:∃u,dZ [.ref p3,.ref p5,.ref p6] (T % 3)=Yb u/\∃U:Yi Al,Rp K H7 (.t (U.map xR)) u/\E9 (q+1) U/\(∀a'∈U,∃a∈N,a'.2.2=a.2.2)/\yb U<=2*yb N:=by
   rcases rr with e|e|e<;>rw[e]
   .refine#[.ref p3,aF (j:=0) rfl,N.dropLast,Rp.t (h3.Z as) ?_,ab.sub (λa ha=>RW _ ha) (by rw[Tf];omega),λa' ha=>#[a',RW _ ha,rfl],?_]
    .rw[Ux,PF,PF,bM,<-lw];exact r7.take _
    .rw[PF];let:=rK N (N.length-1);omega
   .refine#[.ref p5,aF (j:=1) rfl,N++N.take 1,Rp.t (h5.Z (s6.trans s7)) ?_,ab.sub (λa ha=>(IF.mp ha).elim id Pn) (by rw[mu,x9];omega),λa' ha=>#[a',(IF.mp ha).elim id Pn,rfl],?_]
    .rw[i4,QY];exact r7.append (r7.take 1)
    .rw[sY];let:=rK N 1;omega
   .exact#[.ref p6,aF (j:=2) rfl,[],Rp.t (h6.Z s7) .nil,#[ON _,λ_ h=>nomatch h],(λ_ h=>nomatch h),ON _]
  ext;exact k _ _ U x7 ru b' be kz
 let(rfl,h2):=h2;let(w0,b2):=h2 rfl;calc c2.go ?_;let bn:bA K H2 a G\/bY K H2 a G:=.inr ao;let wz:G.length<lj:=aV ();ext ra O bc bq x3;let(J,rfl):=Int.eq_ofNat_of_zero_le bc;let bg:J<N.length:=()
 obtain⟨D,am⟩:∃D,N[J]?=Yb D:=#[_,my bg];let an:=x1.trans x3;let ar:=sq.kt (an.kt hf);let ax:=rs.kt (an.kt hf);let(xv,bf,a8):=ax.get (i:=J) (x:=xR D) (by rw[vv,am];rfl);let(ga,u1,u2,u3,rfl,bx,g1,g2,g3):=(show Rp K O (.t [.s D.1,.t (D.2.1.map .s),enc D.2.2]) xv from a8).t3;obtain rfl:=g1.aL;let av:dZ G (J:Int)=Yb (.ref ga):=aF bf;let(a6,aj,ah):=ab.w D (xn am);let aq:=Kq am;let ag:=x3.2
 let R:∀(o:Hp) (g:Yg) (B:V) (d:Yi Yg),Ext X O o->Wo g->Rp K o (.t (d.map .s)) B->(∀x∈d,Wo x)->d.length<=3+q->IU (BB (vU K) (BB (vU K) (Lg (Du K) (jt 1) qf (yj (jt 4))) (u9 (kh (u9 (kh (jt 5) (kh (jt 6) (kh (jt 7) tO)))) tO))) (Lg (Du K) (jt 1) (yj (BB (Ik λi j=>V.int (i+j)) (jt 4) (tC (.int 1)))) qf)) {nx:=λx H'=>Q V.eR H',rt:=Q} [Yb (.ref X),Yb (.ref a),Yb (.str W),Yb (.int T),Yb (.int J),Yb (.str g),Yb B,Yb u3] o:=by
  intro o g B d x wt rn wn ln;let x0:=an.trans x;let a7:=sq.kt (x0.kt hf);let bh:=g3.kt (x.kt ag)
  (try calc Cut.go (by assumption) ?_);refine Gi (R:=λv H'=>Rp K H' (xR (g,d,D.2.2)) v) rfl rfl a7 () (λH' Q' s h=>?_) (λv H1 H2 s r=>r.Z s) (m:=J+1) (λH' Q' s h=>by ext;calc h) λp v H' s a9 hp=>?_
  .have bb:=rn.Z s;let bi:=bh.Z s;ext p hp;let s2:=ae hp (.J [.str g,B,u3]);exact h _ _ s2 (Rp.new (K:=K) (xs:=[.s g,.t (d.map .s),enc D.2.2]) hp (.cons .s (.cons bb (.one bi))))
  .have x':=x0.Z s;let az:=rs.kt (x'.kt hf);refine k _ _ (N.take J++[(g,d,D.2.2)]++N.drop (J+1)) x' (Rp.t hp ?_) #[?_,λb hb=>?_] (λb hb=>?_) ?_
   .rw[i4,i4,QY,VR];exact((az.take J).append (.one a9)).append (az.drop (J+1))
   .rw[mu,mu,x9,P6];show _+1+_<=_;omega
   .rcases IF.mp hb with h|h
    .rcases IF.mp h with h|h
     .exact ab.up.w b (Pn h)
     .rw[tF.mp h];exact#[wt,wn,by show d.length<=_;omega]
    .exact ab.up.w b (Rq h)
   .rcases IF.mp hb with h|h
    .rcases IF.mp h with h|h
     .exact#[b,Pn h,rfl]
     .rw[tF.mp h];exact#[D,xn am,rfl]
    .exact#[b,Rq h,rfl]
   .rw[sY,sY];show yb _+(D.2.2.size+0)+_<=_;omega
 let T7:∀(o:Hp) (g:Yg) (B:V) (d:Yi Yg),Ext X O o->Wo g->Rp K o (.t (d.map .s)) B->(∀x∈d,Wo x)->d.length<=3+q->N8 [Yb (.ref X),Yb (.ref a),Yb (.str W),Yb (.int T),Yb (.int J),Yb (.str g),Yb B,Yb u3] o:=by
  intro o g B d x wt rn wn ln;calc c8.go ?_;calc kT ?_;intro N9 c9;let e9:∀(Hy:Hp) (ak:V) (ad:Yi Yg),Ext X O Hy->Rp K Hy (.t (ad.map .s)) ak->(∀x∈ad,Wo x)->ad.length<=3+q->N9 [Yb (.ref X),Yb (.ref a),Yb (.str W),Yb (.int T),Yb (.int J),Yb (.str g),Yb ak,Yb u3] Hy:=λHy ak ad xy ry wy ly=>c9.go (R Hy g ak ad xy wt ry wy ly);clear c9;let(na,M,rfl,ac,I):=id rn.aS;let S:=I.length;rw[bM]at S;let e0:=e9 o _ d x rn wn ln;ext;refine bP (λc=>?_) (λc=>?_)
  rotate_left
  .ext;exact e0
  let br:bA K o na M\/bY K o na M:=.inr ac;ext p H4 Z h4;rw[show iE M Yc (Yb 1)=M.take 1 from gr M 1]at h4;let bm:bA K H4 na M\/bY K H4 na M:=.inr (ac.Z Z);let k1:(M.length:Int)<=100:=()
  let k9:(M.take 1).length<=9:=by rw[x9];omega
  ext p2 H5 s5 h5;rw[Qa]at h5;let Y:=Z.trans s5
  let e5:=e9 H5 (.ref p2) (L1 M.length (d.take 1)).flatten (x.Z Y) (Rp.t h5 (by
   rw[List.map_flatten,List.map_replicate,QY]
   calc((I.Z Y).take 1).rep _)) (λy hy=>by
    let(l,hl,hy):=List.mem_flatten.mp hy;rw[(Sk.mp hl).2]at hy;calc wn y (Pn hy)) (by
    rw[len_rep,x9];calc OX (Nat.mul_le_mul (i5 _) (Vg ..)) ())
  ext;exact e5
 clear c8
 let T6:∀(o:Hp) (g:Yg) (B:V) (d:Yi Yg),Ext X O o->Wo g->Rp K o (.t (d.map .s)) B->(∀x∈d,Wo x)->d.length<=3+q->N7 [Yb (.ref X),Yb (.ref a),Yb (.str W),Yb (.int T),Yb (.int J),Yb (.str g),Yb B,Yb u3] o:=by
  intro o g B d x wt rn wn ln;let e0:=T7 o g B d x wt rn wn ln;calc c7.go ?_;let(na,M,rfl,ac,I):=id rn.aS;ext;refine bP (λc=>?_) (λc=>?_)
  rotate_left
  .ext;exact e0
  ext p H4 Z h4;rw[qK]at h4;let S:=I.length;rw[bM]at S
  let e5:=T7 H4 g (.ref p) d.dropLast (x.Z Z) wt (Rp.t h4 (by
   rw[Ux,PF,PF,bM,<-S];calc(I.Z Z).take _)) (λy hy=>wn y (RW _ hy)) (by rw[Tf];omega)
  ext;exact e5
 clear c7 T7
 let T5:∀(o:Hp) (g:Yg) (B:V) (d:Yi Yg),Ext X O o->Wo g->Rp K o (.t (d.map .s)) B->(∀x∈d,Wo x)->d.length<=2+q->N6 [Yb (.ref X),Yb (.ref a),Yb (.str W),Yb (.int T),Yb (.int J),Yb (.str g),Yb B,Yb u3] o:=by
  intro o g B d x wt rn wn ln;let e0:=T6 o g B d x wt rn wn ();calc c6.go ?_;let(na,M,rfl,ac,I):=id rn.aS;let S:=I.length;rw[bM]at S;ext;refine bP (λc=>?_) (λc=>?_)
  rotate_left
  .ext;exact e0
  ext;calc nw λp H4 Z bj hp=>?_;let h4:bY K H4 p [.str W]:=bY.of bj;let bl:=ac.Z Z;let l4:M.length+[V.str W].length<=lj:=small (by show M.length+1<=_;omega);ext p5 H5 s5 h5;let Y:=Z.trans s5
  let e5:=T6 H5 g (.ref p5) (d++[W]) (x.Z Y) wt (Rp.t h5 (by
   rw[i4];calc(I.Z Y).append (.one .s))) (λy hy=>(IF.mp hy).elim (wn y) λz=>by rw[tF.mp z];calc a2) (by rw[mu];show _+1<=_;omega)
  ext;exact e5
 clear c6 T6;obtain⟨b0,ap⟩:∃b0,N[0]?=Yb b0:=#[_,my ()];let(a5,a1,aw):=ax.get (i:=0) (x:=xR b0) (by rw[vv,ap];rfl);let(gb,y1,y2,y3,rfl,b1,d1,d2,d3):=(show Rp K O (.t [.s b0.1,.t (b0.2.1.map .s),enc b0.2.2]) a5 from aw).t3;obtain rfl:=d1.aL;let a0:dZ G 0=Yb (.ref gb):=aF (j:=0) a1;calc c3.go ?_;ext
 let T4:Wo b0.1->N5 [Yb (.ref X),Yb (.ref a),Yb (.str W),Yb (.int T),Yb (.int J),Yb (.str D.1),Yb u2,Yb u3] O:=by
  intro wb;let e0:=T5 O D.1 u2 D.2.1 (Ext.refl ag) a6 g2 aj ah;let e1:=T5 O b0.1 u2 D.2.1 (Ext.refl ag) wb g2 aj ah;calc c5.go ?_;ext;refine bP (λc=>?_) (λc=>?_)
  .ext;exact e1
  .ext;exact e0
 let bk:N5 [Yb (.ref X),Yb (.ref a),Yb (.str W),Yb (.int T),Yb (.int J),Yb (.str W),Yb u2,Yb u3] O:=by
  let e0:=T5 O W u2 D.2.1 (Ext.refl ag) a2 g2 aj ah;let e1:=T5 O b0.1 u2 D.2.1 (Ext.refl ag) (ab.w b0 (xn ap)).1 g2 aj ah;calc c5.go ?_;ext;refine bP (λc=>?_) (λc=>?_)
  .ext;exact e1
  .ext;exact e0
 let T4:=T4 (ab.w b0 (xn ap)).1;clear c5 T5;refine bP (λc=>?_) (λc=>?_)
 .ext;exact bk
 .ext;calc T4
meta def KQ(q:Nat)(h:Hd):Prop:=∀d,h=.mat d->d.length<=3+q/\∀a∈d,a.2.length<=2+q
inductive Tb(q:Nat):Tm->Prop
 |mk {h:Hd}{ks:Yi Tm}:cM h ks.length=Yd->HW h->KQ q h->(∀k∈ks,Tb q k)->Tb q (.mk h ks)
def Tb.inv (t:Tb q (.mk h ks)):cM h ks.length=Yd/\HW h/\KQ q h/\∀k∈ks,Tb q k:=by
 cases t with
 |mk a b c d=>calc#[a,b,c,d]
def Tb.wf :Tb q e->Wf e:=by
 calc Tm.induct (P:=λt=>Tb q t->Wf t) (λh ks j w=>?_) e;let(a,_,_,d):=w.inv;calc .mk a λk g=>j k g (d k g)
def KQ.up (a:KQ q h)(l:q<=r):KQ r h:=λd e=>#[by let:=(a d e).1;omega,λx g=>by let:=(a d e).2 x g;omega]
def Tb.up (l:q<=r):Tb q e->Tb r e:=by
 calc Tm.induct (P:=λt=>Tb q t->Tb r t) (λh ks j w=>?_) e;let(a,b,c,d):=w.inv;calc .mk a b (c.up l) λk g=>j k g (d k g)
def Tb.wn (l:q<=3):Tb q e->Wn e:=by
 calc Tm.induct (P:=λt=>Tb q t->Wn t) (λh ks j w=>?_) e;let(a,_,c,d):=w.inv;refine .mk a (λb hb=>?_) λk g=>j k g (d k g)
 cases h with
 |mat arms =>
  rcases L0.mp (show b∈[]::arms.map (·.2)from hb)with rfl|hb
  .exact ON _
  .have(x,m,rfl):=O2.mp hb;let:=(c arms rfl).2 x m;omega
 |lt x =>
  rcases L0.mp (show b∈[[],[x]]from hb)with rfl|hb
  .exact ON _
  .rw[tF.mp hb];calc(by decide:1<=5)
 |fold x y =>
  rcases L0.mp (show b∈[[],[],[x,y]]from hb)with rfl|hb
  .exact ON _
  rcases L0.mp hb with rfl|hb
  .exact ON _
  .rw[tF.mp hb];calc(by decide:2<=5)
 |_=>rw[(Sk.mp (show b∈L1 ks.length []from hb)).2];calc ON _
def Tb.ta (l:q<=9):Tb q j->Ta j:=by
 calc Tm.induct (P:=λt=>Tb q t->Ta t) (λh ks o w=>?_) j;let(_,b,c,d):=w.inv;calc .mk (λg e=>#[by let:=(c g e).1;omega,λx p=>by let:=(c g e).2 x p;omega]) b λk m=>o k m (d k m)
structure KR(q:Nat) (tm tm':Tm):Prop where
 b:Tb (q+1) tm'
 d:tm'.depth<=tm.depth+1
 z:tm'.size<=2*tm.size+3
meta def xS(K:bN):Sp:=λo H Q _=>∃(f j:Yh) (v:V) (g:Tm) (e:Yi Yg) (q:Nat),o=[.ref f,v,.ref j]/\dc H f/\Rp K H (enc g) v/\Tb q g/\q<=4/\g.size<=80/\H j=Yb (.Y (e.map V.str))/\j≠f/\1<=e.length/\e.length<=100/\(∀x∈e,Wo x) /\
 ∀(m:V) (l:Hp) (d:Tm),Ext f H l->Rp K l (enc d) m->KR q g d->Q m l
def HQ {ks:Yi Tm}(m:cM hd ks.length=Yd):∃(d:Yg) (rest:Yi T),ni hd (ks.map enc)=.t (.s d::rest) /\
  (nh (.str d) [.str "tag",.str "call"]=Yd->∃t,rest=[.s t,.t (ks.map enc)]/\((d="tag"/\hd=.tag t)\/(d="call"/\hd=.call t))) /\
  (decide (V.str d=V.str "match")=Yd->∃arms,hd=.mat arms)/\(decide (V.str d=V.str "fold")=Yd->∃x y,hd=.fold x y)/\(decide (V.str d=V.str "let")=Yd->∃x,hd=.lt x):=by
 cases hd<;>refine#[_,_,rfl,λl=>?_,λj=>?_,λg=>?_,λe=>?_]<;>first
  |calc absurd l (by decide)
  |calc absurd j (by decide)
  |calc absurd g (by decide)
  |calc absurd e (by decide)
  |calc#[_,rfl,.inl #[rfl,rfl]]
  |calc#[_,rfl,.inr #[rfl,rfl]]
  |calc#[_,rfl]
  |calc#[_,_,rfl]
theorem zm :∀{arms:Yi (Yg×Yi Yg)}{kr:Yi Tm},arms.length=kr.length->∃d:Yi Al,arms=d.map (λa=>(a.1,a.2.1))/\kr=d.map (λa=>a.2.2)
 | [],[],_=>#[[],rfl,rfl]
 |a::ar,k::kr,h=>by
  let(d,g,e):=zm (arms:=ar) (kr:=kr) (by simpa using h);calc#[(a.1,a.2,k)::d,by rw[g];rfl,by rw[e];rfl]
theorem An :∀d:Yi Al,O9 jE (d.map λa=>(a.1,a.2.1)) ((d.map λa=>a.2.2).map enc)=d.map xR
 | []=>rfl
 |a::r=>by
  rw[OQ,OQ,OQ,Vc,An r];rfl
def Bp (a:cM h 0=Yd)(w:HW h)(c:∀arms,h≠.mat arms):Tb q (.mk h []):=.mk a w (λarms e=>absurd e (c arms)) λ_ h=>nomatch h
def sD (a:cM h ks.length=Yd)(w:HW h)(c:KQ (q+1) h)(d:∀k∈ks,Tb (q+1) k/\k.depth<=e.depth)(z:Tm.sizes ks<=2*e.size+2):KR q e (.mk h ks):=#[.mk a w c λk g=>(d k g).1,Tm.yw λk g=>(d k g).2,by rw[Tm.eO];omega]
def oN (a:cM h 0=Yd)(w:HW h)(c:∀arms,h≠.mat arms):KR q d (.mk h []):=sD a w (λarms e=>absurd e (c arms)) (λ_ h=>nomatch h) (ON _)
def Ao :(Tm.mk h []).depth<=n:=by unfold Tm.depth;calc ON _
def Kr {ks:Yi Tm}(g:ni hd (ks.map enc)=.t (.s d::rest))(j:cM hd ks.length=Yd):rest.length<=ks.length+5:=by
 let e:(ni hd (ks.map enc))=T.t (.s d::rest):=g
 cases hd<;>unfold ni at e<;>cases e<;>simp
def aP :Nm Xe (ak lN):=by decide
def mS :Lm Xe (ak lN):=by decide
def kJ :aY Xe Xw (ak lN):=by ac_rfl
def EV (F:jn K "_law_other" "_law_other" lN f fd)(TK:Za "_law_take" 1 WQ cU gT tfd)(cr:Za "_law_other_arms" 2 XI (Bo K) gO ofd)(ak:mg "len"=Yc)(am:mg "int"=Yc):Zt gz 3 f fd Xw (xS K):=by
 refine F.ok kJ (λvs H Q E h=>?_) (λcdv A outer s H vs Q E hr h=>?_)
 .have(_,_,_,_,_,_,rfl,_):=h;rfl
 let(fe,lw,v,tm,ws,q,rfl,hf,rv,tb,hq,hz,bm,ce,w1,cs,b4,k):=h;refine#[_,(Z5 (Z4 kJ.nd mS 3 (Zh aZ (va aP 2) (Z0 TK (Z1 (va aP 0) (Z1 (Z2 aM ak OS (Zc (va aP 2))) aA))))) (Z5 (Z4 kJ.nd mS 4 (Zh aZ (Zq (Z1 aB (Z1 aB (Z1 aB (di aB (Zc aB)))))) (Z0 TK (di (va aP 0) (Zc aB))))) (Z5 (Z4 kJ.nd mS 5 (Z0 TK (di (va aP 0) (Zc aB)))) (Z5 (Z8 (Zg eB (Z6 aI (va aP 1)) (Zk (Z1 aD (di aD (Zc aD)))) (by rfl')) (Zd (Zp (Zh aZ (Zq (Z1 (Zk (Z1 aD (Zc (va aP 3)))) (Z1 (Zk (Z1 aD (Zc (va aP 4)))) (Z1 (Zk (Z1 aD (Z1 (va aP 3) (Zc (eJ aA))))) (Z1 (Zk (Z1 aD (Z1 (va aP 3) (Zc (eJ aA))))) aA))))) (va aP 5))))) (Z5 (Z8 (Zg eB (Z6 aI (va aP 1)) (Zk (di aD (Zc aD))) (by rfl')) (Z5 (Z4 kJ.nd mS 6 (Zh aZ (Zq (Z1 (@b6 _ _ _ _ _ _ _ _ _ _ gy (Z6 aI (va aP 1)) cQ (bZ (kQ iV aB))) (Z1 (Zm gU (Z6 aI (va aP 1)) (Zk (Z1 (Zk (di aD (Zc aB))) aA))) (Z1 (Z6 aI (va aP 1)) aA)))) (bU gE (va aP 5) aB))) (Zd (Zp (Zk (Z1 (Z6 aI (va aP 1)) (Z1 (Zh aZ (Zq (Z1 (Z6 aI (va aP 1)) (Zc (va aP 3)))) (Z9 iM am P8 (Z1 (jA rM (va aP 5) aB (bz _)) aA))) (Zc (va aP 6))))))))) (Z5 (Z8 (Zg bO (Z6 aI (va aP 1)) aD (bz _)) (Zd (Zp (Zk (Z1 aD (Z1 (Z6 aI (va aP 1)) (Z1 (Z0 cr (Z1 (va aP 0) (Z1 (Z6 aI (va aP 1)) (Zc (va aP 3))))) aA))))))) (Z5 (Z8 (Zg bO (Z6 aI (va aP 1)) aD (bz _)) (Zd (Zp (Zm gU (Zm gU (b6 gy (va aP 1) cQ (bZ aB)) (Zk (Z1 (Zh aZ (Zq (Z1 (Z6 aI (va aP 1)) (Zc (va aP 3)))) (bU gE (va aP 5) aB)) aA))) (b6 gy (va aP 1) (bZ aB) cQ))))) (Z5 (Z8 (Zg bO (Z6 aI (va aP 1)) aD (bz _)) (Zd (Zp (Zm gU (Zk (Z1 aD (Zc (va aP 3)))) (b6 gy (va aP 1) (bZ aB) cQ))))) (Zd (Zp (Zh aZ (Zq (Z1 (Zk (Z1 aD (Zc (va aP 4)))) (Z1 (Zk (Z1 aD (Z1 (Zk (Zc (va aP 1))) aA))) (Z1 (Zk (Z1 aD (Zc (va aP 3)))) (Z1 (Zk (Z1 aD (Z1 (Zk (Z1 aD (Zc (va aP 4)))) (Zc (va aP 1))))) aA))))) (va aP 5)))))))))))),?_]
 right
 let wf:=tb.wf
 cases tm with
 |mk hd ks =>
 let(ar,hw,aq,tk):=tb.inv;let(fm,rest,he,h1,h2,h3,h4):=HQ ar;let rt:=rv;rw[bI,he]at rv;let(a,vs,rfl,hS,bc):=id rv.aS;let(v0,wr,rfl,e0,bk):=bc.inv;obtain rfl:=e0.aL;let cw:=Tm.eO hd ks;calc uq ?_;intro N1 N2 N3 N4 N5 N6 N7 N8 c1 c2 c3 c4 c5 c6 c7 c8;let c0:(ws.map V.str).length=ws.length:=bM ..;let cn:bA K H lw (ws.map V.str):=bA.of bm;let cv:(ws.map V.str).length<lj:=aV ();let w0:(0:Int)<((ws.map V.str).length:Int):=()
 let w2:((ws.map V.str).length:Int)<1073741824:=()
 ext r1 H1 ca b9 x1;let(v1,db,ci):=pQ (xs:=ws.map V.str) ca b9;let(C,cg,rfl):=O2.mp ci;let wo:=b4 C cg;let b1:bA K H1 lw (ws.map V.str):=bA.of (x1.1 _ _ ce bm);ext;calc nw λl2 H2 s2 br bn=>?_;let n2:=bB x1.2 bn;let x2:=x1.Z s2;let dl:=x2.2;ext r3 H3 b8 b7 x3;let cl:bA K H3 l2 [.int 3,.int 10,.int 99,.int 98,.int 50]:=bA.of (x3.1 _ _ n2 br);let(z3,c9,bl):=pQ (xs:=[V.int 3,.int 10,.int 99,.int 98,.int 50]) (k:=r3) b8 b7
 obtain⟨n,rfl⟩:∃n:Int,z3=.int n:=by
  simp only[L0,O3,or_false]at bl;rcases bl with rfl|rfl|rfl|rfl|rfl<;>exact#[_,rfl]
 let a0:=x2.trans x3;let dk:=a0.2;ext g H4 dr dq x4;let an:=a0.trans x4;let dj:=an.2;let av:=an.kt hf;let bq:=hS.kt av;let ad:=bk.kt av;let a9:=rt.kt av;clear hS bk rt cn b1 bn br cl s2 n2;let co:dZ (V.str fm::wr) 0=Yb (.str fm):=aF (j:=0) rfl
 let lv:(V.str fm::wr).length<1000:=by
  let l1:=bc.length;let l2:rest.length<=ks.length+5:=Kr he ar;rw[l1];show rest.length+1<_;let:=rF ks;omega
 let lk:ks.length<900:=by let:=rF ks;omega
 let L4:∀(H5:Hp),aR H4 H5->∀(p1 p2 p3 p4:Yh) (h':Hd) ,True:=λ_ _ _ _ _ _ _=>True.intro;clear L4;calc c3.go ?_;ext;calc nw λp5 H5 s5 bv de=>?_;let h5:bY K H5 p5 [.str "name",.str "num",.str "gap"]:=bY.of bv;let az:=an.Z s5;let bp:=bq.Z s5;let bf:=ad.Z s5;let a8:=a9.Z s5;let cd:bA K H5 p5 [.str "name",.str "num",.str "gap"]\/bY K H5 p5 [.str "name",.str "num",.str "gap"]:=.inr h5;ext;refine bP (λd1=>?_) (λd1=>?_)
 .ext;calc nw λq1 J1 t1 aa ch=>?_;let e1:=Rp.nw (K:=K) (xs:=[.s "name",.s C]) aa t1 (.cons .s (.one .s));ext;calc nw λq2 J2 t2 J bh=>?_;let e2:=Rp.nw (K:=K) (xs:=[.s "gap",.i n]) J t2 (.cons .s (.one .i));ext;calc nw λq3 J3 t3 I bg=>?_;let e3:=Rp.nw (K:=K) (xs:=[]) I t3 .nil;ext;calc nw λq4 J4 t4 Z ad=>?_;let e4:=Rp.nw (K:=K) (xs:=[.s "call",.s C,.t []]) Z t4 (.cons .s (.cons .s (.one e3)));ext;calc nw λq5 J5 D m aj=>?_;let e5:=Rp.nw (K:=K) (xs:=[]) m D .nil;ext;calc nw λq6 J6 t6 bs X=>?_;let e6:=Rp.nw (K:=K) (xs:=[.s "tag",.s C,.t []]) bs t6 (.cons .s (.cons .s (.one e5)));ext;calc nw λq7 J7 t7 Y B=>?_;let h7:bA K J7 q7 [.ref q1,.ref q2,.ref q4,.ref q6]:=bA.of Y;let O:=t6.trans t7;let ao:=t3.trans (t4.trans (D.trans O));let x7:=az.Z (t1.trans (t2.trans ao))
  obtain⟨u,hu,p,ru,ot⟩:∃u,dZ [.ref q1,.ref q2,.ref q4,.ref q6] g=Yb u/\∃p,Rp K J7 (enc p) u/\KR q (.mk hd ks) p:=by
   rcases(show g=0\/g=1\/g=2\/g=3 by omega)with rfl|rfl|rfl|rfl
   .exact#[_,aF (j:=0) rfl,.mk (.name C) [],by rw[bI];calc e1.Z (t2.trans ao),oN rfl wo ⋯]
   .exact#[_,aF (j:=1) rfl,.mk (.gap n) [],by rw[bI];calc e2.Z ao,oN rfl True.intro ⋯]
   .exact⟨_,aF (j:=2) rfl,.mk (.call C) [],by rw[bI];calc e4.Z (D.trans O),oN rfl wo ⋯⟩
   .exact#[_,aF (j:=3) rfl,.mk (.tag C) [],by rw[bI];calc e6.Z t7,oN rfl wo ⋯]
  ext;exact k _ _ p x7 ru ot
 clear d1 h5 cd;let cu:dZ (V.str fm::wr) 0=Yb (.str fm):=co;calc c4.go ?_;ext;calc nw λp6 H6 s6 bt dd=>?_;let h6:bY K H6 p6 [.str "tag",.str "call"]:=bY.of bt;let N:=az.Z s6;let ck:=N.2;let ax:=bp.Z s6;let X:=bf.Z s6;let a7:=a8.Z s6;let cc:bA K H6 p6 [.str "tag",.str "call"]\/bY K H6 p6 [.str "tag",.str "call"]:=.inr h6;clear bp bf a8 bq ad a9;ext;refine bP (λd2=>?_) (λd2=>?_)
 .have(tt,rfl,hh):=h1 d2;let(y1,au,rfl,g1,B):=X.inv;obtain rfl:=g1.aL;let(y2,as,rfl,g2,L):=B.inv;obtain rfl:=L.ik;let(ta,us,rfl,a3,a4):=id g2.aS;let ba:=a4.length;rw[bM]at ba;ext q1 J1 t1 e1;rw[qK]at e1;let ag:=ax.Z t1;let a2:=a3.Z t1;ext;calc nw λq2 J2 t2 J bh=>?_;let e2:=Rp.nw (K:=K) (xs:=[.s "num",.i 1]) J t2 (.cons .s (.one .i));ext;calc nw λq3 J3 t3 I bg=>?_;let e3:bY K J3 q3 [.ref q2]:=bY.of I;let ct:=a2.Z (t2.trans t3);let l3:us.length+[V.ref q2].length<=lj:=small (by show us.length+1<=_;omega);ext q4 J4 t4 e4;let bo:=ag.Z ((t2.trans t3).trans t4);ext;calc nw λq5 J5 D m aj=>?_;let dp:bA K J5 q5 [.ref q1,.ref q4,.ref ta]:=bA.of m;let R:=t1.trans ((t2.trans t3).trans (t4.trans D));let r5:=a4.Z R
  obtain⟨u,hu,G,ru,kd,kz⟩:∃u,dZ [.ref q1,.ref q4,.ref ta] (g % 3)=Yb u/\∃G:Yi Tm,Rp K J5 (.t (G.map enc)) u/\(∀k∈G,Tb (q+1) k/\k.depth<=(Tm.mk hd ks).depth)/\Tm.sizes G<=2*(Tm.mk hd ks).size+2:=by
   let kk:∀k∈ks,Tb (q+1) k/\k.depth<=(Tm.mk hd ks).depth:=λk hk=>#[(tk k hk).up (Pc _),O7 (Tm.jv hk)];rcases(show g % 3=0\/g % 3=1\/g % 3=2 by omega)with e|e|e<;>rw[e]
   .refine#[.ref q1,aF (j:=0) rfl,ks.dropLast,Rp.t (e1.Z ((t2.trans t3).trans (t4.trans D))) ?_,λk hk=>kk k (RW _ hk),?_]
    .rw[Ux,PF,PF,bM,<-ba];exact r5.take _
    .have:=Tm.er (ks.take (ks.length-1)) (ks.drop (ks.length-1));rw[Rb]at this;rw[PF];omega
   .refine#[.ref q4,aF (j:=1) rfl,ks++[.mk (.num 1) []],Rp.t (e4.Z D) ?_,λk hk=>(IF.mp hk).elim (kk k) λz=>by rw[tF.mp z];calc#[Bp rfl True.intro ⋯,Ao],?_]
    .rw[i4];calc r5.append (.one ?_);rw[bI];exact e2.Z (t3.trans (t4.trans D))
    .rw[Tm.er];show _+(1+0)<=_;omega
   .exact#[.ref ta,aF (j:=2) rfl,ks,Rp.t (a3.Z R) r5,kk,()]
  let dm:=bo.Z D;ext;calc nw λq6 J6 t6 M be=>?_;let dn:bA K J6 q6 [.str tt,.str C]:=bA.of M;let a6:=ru.Z t6
  obtain⟨t',dc,a1⟩:∃t':Yg,dZ [V.str tt,V.str C] (if decide (g > 1)=Yd then 1 else 0)=Yb (.str t')/\Wo t':=by
   let b5:Wo tt:=by
    rcases hh with⟨_,e⟩|⟨_,e⟩<;>(rw[e]at hw;calc hw)
   by_cases c:decide (g > 1)=Yd
   .rw[if_pos c];exact#[_,aF (j:=1) rfl,wo]
   .rw[if_neg c];exact#[_,aF (j:=0) rfl,b5]
  ext;calc .inr #[_,rfl,?_];ext q7 o;let t7:=ae o (.J [.str fm,.str t',u]);let x7:=N.Z ((R.trans t6).trans t7);rcases hh with⟨rfl,rfl⟩|⟨rfl,rfl⟩
  .exact k _ _ (.mk (.tag t') G) x7 (by rw[bI];calc Rp.new (K:=K) (xs:=[.s "tag",.s t',.t (G.map enc)]) o (.cons .s (.cons .s (.one a6)))) (sD rfl a1 ⋯ kd kz)
  .exact k _ _ (.mk (.call t') G) x7 (by rw[bI];calc Rp.new (K:=K) (xs:=[.s "call",.s t',.t (G.map enc)]) o (.cons .s (.cons .s (.one a6)))) (sD rfl a1 ⋯ kd kz)
 clear h6 cc d2 h1;calc c5.go ?_;ext;refine bP (λd3=>?_) (λd3=>?_)
 .have(b2,rfl):=h2 d3
  obtain⟨l,kr,rfl⟩:∃l kr,ks=l::kr:=by
   cases ks with
   |nil=>simp[cM]at ar
   |cons y r=>exact#[_,_,rfl]
  let cj:b2.length=kr.length:=by let:=ar;simp[cM]at this;omega
  let(al,rfl,rfl):=zm cj;let S:T.t [.s "match",enc l,.t (O9 jE (al.map λa=>(a.1,a.2.1)) ((al.map λa=>a.2.2).map enc))]=.t (.s fm::rest):=he;rw[An]at S
  cases S
  let(y1,au,rfl,g1,B):=X.inv;let(y2,as,rfl,g2,L):=B.inv;obtain rfl:=L.ik;let(b3,cq):=aq _ rfl;rw[bM]at b3;let ab:E9 q al:=#[b3,λb hb=>#[(hw _ (O6 (f:=λa:Al=>(a.1,a.2.1)) hb)).1,(hw _ (O6 (f:=λa:Al=>(a.1,a.2.1)) hb)).2,cq _ (O6 (f:=λa:Al=>(a.1,a.2.1)) hb)]];ext v' J1 U xJ rJ ah cf kz;let x7:=N.trans xJ;let cm:=g1.kt (xJ.kt ck);ext q7 o;let t7:=ae o (.J [.str "match",y1,v']);let cx:Tm.sizes (l::al.map λa=>a.2.2)=l.size+yb al:=Tm.bQ ..;refine k _ _ (.mk (.mat (U.map λa=>(a.1,a.2.1))) (l::U.map λa=>a.2.2)) (x7.Z t7) ?_ (sD ?_ (λb hb=>?_) (λcp e=>?_) (λkk hk=>?_) ?_)
  .rw[bI];show Rp K _ (.t [.s "match",enc l,.t (O9 jE (U.map λa=>(a.1,a.2.1)) ((U.map λa=>a.2.2).map enc))]) _;rw[An];exact Rp.new (K:=K) (xs:=[.s "match",enc l,.t (U.map xR)]) o (.cons .s (.cons cm (.one rJ)))
  .simp[cM]
  .have(c,hc,rfl):=O2.mp hb;exact#[(ah.w c hc).1,(ah.w c hc).2.1]
  .cases e
   exact#[by rw[bM];exact ah.len,λb hb=>by
    let(c,hc,rfl):=O2.mp hb;calc(ah.w c hc).2.2]
  .have bb:∀kk∈(l::al.map λa=>a.2.2),Tb (q+1) kk/\kk.depth<=(Tm.mk (.mat (al.map λa=>(a.1,a.2.1))) (l::al.map λa=>a.2.2)).depth:=λk hk=>#[(tk k hk).up (Pc _),O7 (Tm.jv hk)];rcases L0.mp hk with rfl|hk
   .exact bb _ (.head _)
   .have(c,hc,rfl):=O2.mp hk;let(d,hd,e):=cf c hc;rw[e];exact bb _ (.tail _ (O6 (f:=λa:Al=>a.2.2) hd))
  .rw[Tm.bQ];show l.size+yb U<=_;omega
 clear d3 h2;calc c6.go ?_;ext;refine bP (λd4=>?_) (λd4=>?_)
 .have(x,y,rfl):=h3 d4
  obtain⟨l,W,k2,rfl⟩:∃l W k2,ks=[l,W,k2]:=by
   rcases ks with _|⟨a,_|⟨b,_|⟨c,_|⟨d,r⟩⟩⟩⟩<;>first|exact#[_,_,_,rfl]|simp[cM]at ar
  let S:T.t [.s "fold",enc l,.s x,.s y,enc W,enc k2]=.t (.s fm::rest):=he
  cases S
  let(y1,au,rfl,g1,B):=X.inv;let(y2,as,rfl,g2,L):=B.inv;let(y3,cb,rfl,g3,aw):=L.inv;let(y4,cz,rfl,g4,bj):=aw.inv;let(y5,cy,rfl,g5,bi):=bj.inv;obtain rfl:=bi.ik;obtain rfl:=g2.aL;obtain rfl:=g3.aL;ext p1 J1 t1 e1;rw[show iE [V.str "fold",y1,.str x,.str y,y4,y5] Yc (Yb 3)=[V.str "fold",y1,.str x]from gr _ 3]at e1;let ag:=ax.Z t1;ext;calc nw λp2 J2 t2 bx dg=>?_;let e2:bA K J2 p2 [.str x,.str C]:=bA.of bx
  obtain⟨y',da⟩:∃y':Yg,dZ [V.str x,V.str C] (g % 2)=Yb (.str y'):=by
   rcases(show g % 2=0\/g % 2=1 by omega)with e|e<;>rw[e]
   .exact#[_,aF (j:=0) rfl]
   .exact#[_,aF (j:=1) rfl]
  ext;calc nw λp3 J3 t3 bw df=>?_;let e3:bY K J3 p3 [.str y']:=bY.of bw;let dt:=(e1.Z t2).Z t3;ext p4 J4 t4 e4;let bo:=ag.Z ((t2.trans t3).trans t4);ext p5 J5 D e5;rw[show iE [V.str "fold",y1,.str x,.str y,y4,y5] (Yb 4) Yc=[y4,y5]from oz _ 4]at e5;let ds:=e4.Z D;let l6:([V.str "fold",y1,V.str x]++[V.str y']).length+[y4,y5].length<=lj:=small (by show 6<=1000;decide);ext p6 J6 t6 e6;let ac:=t1.trans ((t2.trans t3).trans ((t4.trans D).trans t6));refine k _ _ (.mk (.fold x y') [l,W,k2]) (N.Z ac) ?_ (sD rfl hw ⋯ (λk hk=>#[(tk k hk).up (Pc _),O7 (Tm.jv hk)]) ())
  rw[bI];exact Rp.t (xs:=[.s "fold",enc l,.s x,.s y',enc W,enc k2]) e6 (.cons .s (.cons (g1.Z ac) (.cons .s (.cons .s (.cons (g4.Z ac) (.one (g5.Z ac)))))))
 clear d4 h3;calc c7.go ?_;ext;refine bP (λd5=>?_) (λd5=>?_)
 .have(x,rfl):=h4 d5
  obtain⟨l,W,rfl⟩:∃l W,ks=[l,W]:=by
   rcases ks with _|⟨a,_|⟨b,_|⟨c,r⟩⟩⟩<;>first|exact#[_,_,rfl]|simp[cM]at ar
  let S:T.t [.s "let",.s x,enc l,enc W]=.t (.s fm::rest):=he
  cases S
  let(y1,au,rfl,g1,B):=X.inv;let(y2,as,rfl,g2,L):=B.inv;let(y3,cb,rfl,g3,aw):=L.inv;obtain rfl:=aw.ik;obtain rfl:=g1.aL;ext;calc nw λp1 J1 t1 b0 dh=>?_;let e1:bY K J1 p1 [.str "let",.str C]:=bY.of b0;let ag:=ax.Z t1;ext p2 J2 t2 e2;rw[show iE [V.str "let",.str x,y2,y3] (Yb 2) Yc=[y2,y3]from oz _ 2]at e2;let du:=e1.Z t2;let l3:[V.str "let",V.str C].length+[y2,y3].length<=lj:=small (by show 4<=1000;decide);ext p3 J3 t3 e3;let ap:=t1.trans (t2.trans t3);refine k _ _ (.mk (.lt C) [l,W]) (N.Z ap) ?_ (sD rfl True.intro ⋯ (λk hk=>⟨(tk k hk).up (Pc _),O7 (Tm.jv hk)⟩) ())
  rw[bI];exact Rp.t (xs:=[.s "let",.s C,enc l,enc W]) e3 (.cons .s (.cons .s (.cons (g2.Z ap) (.one (g3.Z ap)))))
 clear d5 h4;calc c8.go ?_;ext;calc nw λq1 J1 t1 aa ch=>?_;let e1:=Rp.nw (K:=K) (xs:=[.s "gap",.i n]) aa t1 (.cons .s (.one .i));ext;calc nw λq2 J2 t2 J bh=>?_;let e2:=Rp.nw (K:=K) (xs:=[enc (.mk hd ks)]) J t2 (.one (a7.Z t1));ext;calc nw λq3 J3 t3 I bg=>?_;let e3:=Rp.nw (K:=K) (xs:=[.s "row",.t [enc (.mk hd ks)]]) I t3 (.cons .s (.one e2));ext;calc nw λq4 J4 t4 Z ad=>?_;let e4:=Rp.nw (K:=K) (xs:=[.s "name",.s C]) Z t4 (.cons .s (.one .s));ext;calc nw λq5 J5 D m aj=>?_;let e5:=Rp.nw (K:=K) (xs:=[.s "gap",.i n]) m D (.cons .s (.one .i));let R:=(t1.trans t2).trans ((t3.trans t4).trans D);ext;calc nw λq6 J6 t6 M be=>?_;let e6:=Rp.nw (K:=K) (xs:=[.s "more",.t [.s "gap",.i n],enc (.mk hd ks)]) M t6 (.cons .s (.cons e5 (.one (a7.Z R))));ext;calc nw λq7 J7 t7 Y B=>?_;let h7:bA K J7 q7 [.ref q1,.ref q3,.ref q4,.ref q6]:=bA.of Y;let O:=t6.trans t7;let a5:=t4.trans (D.trans O);let x7:=N.Z (R.trans O);let ai:Tb (q+1) (.mk hd ks)/\(Tm.mk hd ks).depth<=(Tm.mk hd ks).depth:=#[tb.up (Pc _),i5 _]
 obtain⟨u,hu,p,ru,ot⟩:∃u,dZ [.ref q1,.ref q3,.ref q4,.ref q6] g=Yb u/\∃p,Rp K J7 (enc p) u/\KR q (.mk hd ks) p:=by
  rcases(show g=0\/g=1\/g=2\/g=3 by omega)with rfl|rfl|rfl|rfl
  .exact#[_,aF (j:=0) rfl,.mk (.gap n) [],by rw[bI];calc e1.Z (t2.trans (t3.trans a5)),oN rfl True.intro ⋯]
  .exact⟨_,aF (j:=1) rfl,.mk .row [.mk hd ks],by rw[bI];calc e3.Z a5,sD rfl True.intro ⋯ (λk hk=>by rw[tF.mp hk];calc ai) (by rw[Tm.bQ];show _+0<=_;omega)⟩
  .exact⟨_,aF (j:=2) rfl,.mk (.name C) [],by rw[bI];calc e4.Z (D.trans O),oN rfl wo ⋯⟩
  .refine#[_,aF (j:=3) rfl,.mk .more [.mk (.gap n) [],.mk hd ks],?_,sD rfl True.intro ⋯ (λk hk=>?_) (by rw[Tm.bQ,Tm.bQ];show 1+(_+0)<=_;omega)]
   .rw[bI];show Rp K _ (.t [.s "more",enc (.mk (.gap n) []),enc (.mk hd ks)]) _;rw[bI (.gap n)];exact e6.Z t7
   .rcases L0.mp hk with rfl|hk
    .exact#[Bp rfl True.intro ⋯,Ao]
    .rw[tF.mp hk];exact ai
 ext;calc k _ _ p x7 ru ot
def Ks {i:Nat}(h:(O9 jE arms d)[i]?=Yb t):∃x k,arms[i]?=Yb x/\t=jE x k:=by
 rw[RM]at h
 cases e1:arms[i]? with
 |none=>rw[e1]at h;cases h
 |some x =>
  cases e2:d[i]? with
  |none=>rw[e1,e2]at h;cases h
  |some k=>rw[e1,e2]at h;calc#[x,k,rfl,(OL h).symm]
def EW (h:arms.length=ks.length):O9 jE (arms++[a]) (ks++[k])=O9 jE arms ks++[jE a k]:=by
 rw[VJ h];rfl
def Bq {d:Type}{xs:List d}{x:d}(h:xs[i]?=Yb x):xs.take (i+1)=xs.take i++[x]:=by
 rw[i3 (bH.mp h).1,(bH.mp h).2]
theorem _root_.L2.bR.dropLast {K:bN}{H:Hp}{xs:Yi T}{us:Yi V}(r:bR K H xs us):bR K H xs.dropLast us.dropLast:=by
 rw[PF,PF,r.length];calc r.take _
def HR {ks: Yi Tm}(o : cM hd ks.length = Yd): ∃ (e : Yg) (rest : Yi T), ni hd (ks.map enc) = .t (.s e :: rest) ∧
    (nh (.str e) [.str "row", .str "tag", .str "call"] = Yd -> ∃ d, d.length ≤ 1 ∧ rest = d ++ [.t (ks.map enc)] ∧ ∀ g, ni hd g = .t (.s e :: (d ++ [.t g]))) ∧
    (decide (V.str e = V.str "match") = Yd -> ∃ arms, hd = .mat arms) ∧ (decide (V.str e = V.str "fold") = Yd -> ∃ x y, hd = .fold x y) ∧
    (¬ nh (.str e) [.str "row", .str "tag", .str "call"] = Yd -> ¬ decide (V.str e = V.str "match") = Yd -> ¬ decide (V.str e = V.str "fold") = Yd -> ∃ d, d.length ≤ 1 ∧ rest = d ++ ks.map enc ∧ ∀ g : Yi Tm, g.length = ks.length -> ni hd (g.map enc) = .t (.s e :: (d ++ g.map enc))) := by
  cases hd <;> refine #[_, _, rfl, λc => ?_, λc => ?_, λc => ?_, λm l j => ?_]
  all_goals first
    | calc absurd c (by decide)
    | calc absurd (by decide) m
    | calc absurd (by decide) l
    | calc absurd (by decide) j
    | calc #[[], Rf rfl, rfl, λ_ => rfl]
    | calc #[[_], Rf rfl, rfl, λ_ => rfl]
    | calc #[_, rfl]
    | calc #[_, _, rfl]
    | calc #[[], Rf rfl, rfl, λ_ _ => rfl]
    | calc #[[_], Rf rfl, rfl, λ_ _ => rfl]
    | (obtain rfl : ks = [] := by simpa [cM] using o
       calc #[[_], Rf rfl, rfl, λg h => by obtain rfl := QH.mp h; rfl])
meta def Aq(K:bN):Sp:=λm H Q _=>∃(v:V) (l:Yh) (hd:Hd) (ks d:Yi Tm) (j:Yi V),m=[v,.ref l]/\Rp K H (enc (.mk hd ks)) v/\cM hd ks.length=Yd/\H l=Yb (.Y j)/\bR K H (d.map enc) j/\d.length=ks.length/\ks.length<=900 /\
 ∀g e,aR H e->Rp K e (enc (.mk hd d)) g->Q g e
def cP :Nm Xu (ak nQ):=by decide
def Ct :aY Xu Xu (ak nQ):=by ac_rfl
def HS (F:jn K "_law_back" "_law_back" nQ f fd)(aa:mg "zip"=Yc)(m:mg "tuple"=Yc)(D:mg "len"=Yc):Zt gz 1 f fd Xu (Aq K):=by
 refine F.ok Ct (λM H Q E h=>?_) (λcdv A outer s H M Q E hr h=>?_)
 .have(_,_,_,_,_,_,rfl,_):=h;rfl
 let(v,l,hd,ks,js,o,rfl,hv,ar,hl,rs,hk,hz,k):=h;refine#[_,(Z5 (Z8 (Zg eB (Z6 aI (va cP 0)) (Zk (Z1 aD (di aD (Zc aD)))) (by rfl')) (Zd (Zp (Zm gU (@b6 _ _ _ _ _ _ _ _ _ _ gy (va cP 0) cQ (bZ (kQ iV aB))) (Zk (Z1 (Z9 cg m Pf (Zc (va cP 1))) aA)))))) (Z5 (Z8 (Zg bO (Z6 aI (va cP 0)) aD (bz _)) (Zd (Zp (Zk (Z1 aD (Z1 (Z6 aZ (va cP 1)) (Z1 (Z9 cg m Pf (Z1 (Ze (ak nQ) Xu XD [] (DC K rfl (by left) aa (Z1 (Z6 aI (va cP 0)) (Z1 (b6 qg (va cP 1) (bZ aB) cQ) aA))) (λ_ _ _ _=>(Zb (2) (Zf (Zx XD 0) (Zs (Zx XD 1))))) (λ_ _ _ _=>(Zk (Z1 (Z6 (qq K rfl) (Zw XD 0)) (Z1 (Z6 (qq K rfl) (Zw XD 0)) (Zc (Zw XD 1))))))) aA)) aA))))))) (Z5 (Z8 (Zg bO (Z6 aI (va cP 0)) aD (bz _)) (Zd (Zp (Zk (Z1 aD (Z1 (Z6 aZ (va cP 1)) (Z1 (Z6 aI (va cP 0)) (Z1 (Z6 aI (va cP 0)) (Z1 (Z6 aZ (va cP 1)) (Z1 (Z6 aZ (va cP 1)) aA)))))))))) (Zd (Zp (Zm gU (@b6 _ _ _ _ _ _ _ _ _ _ gy (va cP 0) cQ (@bZ _ _ _ (Zm jP (Z2 aM D OS (Zc (va cP 0))) (Z2 aM D OS (Zc (va cP 1)))))) (Z9 cg m Pf (Zc (va cP 1))))))))),?_]
 right
 rw[bI]at hv;let a5:=rs.length;rw[bM]at a5;let(B,rest,he,h1,h2,h3,h4):=HR ar;rw[he]at hv;let(a,M,rfl,hS,ap):=hv.aS;let(v0,wr,rfl,e0,au):=id ap.inv;obtain rfl:=e0.aL;calc uh ?_;intro N1 N2 N3 c1 c2 c3;let bq:dZ (V.str B::wr) 0=Yb (.str B):=aF (j:=0) rfl;ext;calc nw λp5 Z L ax ad=>?_;let h5:bY K Z p5 [.str "row",.str "tag",.str "call"]:=bY.of ax;let ba:=hS.Z L;let U:=ap.Z L;let ag:=L _ _ hl;let O:=rs.Z L;let bc:bA K Z l o:=bA.of ag;let bl:bA K Z p5 [.str "row",.str "tag",.str "call"]\/bY K Z p5 [.str "row",.str "tag",.str "call"]:=.inr h5;let zu:o.length<=lj:=small ();ext;refine bP (λd1=>?_) (λd1=>?_)
 .have(g,pl,rfl,hj):=h1 d1;ext p1 J1 t1 e1;rw[qK]at e1;let R:=(U.dropLast).Z t1;rw[show(T.s B::(g++[T.t (ks.map enc)])).dropLast=.s B::g from Tj (l₁:=T.s B::g) (b:=T.t (ks.map enc))]at R;let l1:=U.length;let G:=R.length;generalize(V.str B::wr).dropLast=w1 at e1 R G;let X:=t1 _ _ ag;ext;calc .inl #[bA.of X,λp2 W=>?_];let t2:=ae W (.J o);let r2:=Rp.new (K:=K) W (O.Z t1);generalize upd J1 p2 (.J o)=J2 at t2 r2|-;ext;calc nw λp3 J3 t3 az bm=>?_;let e3:bY K J3 p3 [.ref p2]:=bY.of az;let bp:=e1.Z (t2.trans t3)
  let l3:w1.length+[V.ref p2].length<=lj:=small (by
   show w1.length+1<=1000;rw[G];show g.length+1+1<=1000;omega)
  ext p4 J4 t4 e4;let N:=t1.trans ((t2.trans t3).trans t4);exact k _ _ (L.trans N) (by rw[bI,hj];calc Rp.t e4 ((R.Z ((t2.trans t3).trans t4)).append (.one (r2.Z (t3.trans t4)))))
 calc c1.go ?_;ext;refine bP (λd2=>?_) (λd2=>?_)
 .have(C,rfl):=h2 d2
  obtain⟨S,kr,j0,jr,rfl,rfl⟩:∃S kr j0 jr,ks=S::kr/\js=j0::jr:=by
   cases ks with
   |nil=>simp[cM]at ar
   |cons y r=>cases js with
    |nil=>cases hk
    |cons z u=>exact#[_,_,_,_,rfl,rfl]
  let Y:C.length=kr.length:=by let:=ar;simp[cM]at this;omega
  let ah:jr.length=kr.length:=by simpa using hk
  let ai:T.t [.s "match",enc S,.t (O9 jE C (kr.map enc))]=.t (.s B::rest):=he
  cases ai
  let(y1,a4,rfl,g1,ac):=(au.Z L).inv;let(y2,a3,rfl,g2,ab):=ac.inv;obtain rfl:=ab.ik;let(b,a1,rfl,aw,ao):=g2.aS;let(u0,ur,rfl,f0,fr):=O.inv;let am:=ao.length;rw[PV,bM,Y,RB]at am;let al:=fr.length;rw[bM]at al;let a0:dZ (u0::ur) 0=Yb u0:=aF (j:=0) rfl;let bf:(u0::ur).length<lj:=aV ();ext;calc nw λl1 H6 s1 aj X=>?_;rw[show iE (u0::ur) (Yb 1) Yc=ur from oz (u0::ur) 1]at aj;let bn:nq K Ye H6 l1 ur:=bA.of aj;let bo:nq K Yd H6 b a1:=aw.Z s1;ext;refine DE (K:=K) (xs:=a1) (ys:=ur) (λi σ o J=>(∃y0 y1,σ=[y0,y1])/\aR H6 J/\bR K J (O9 jE (C.take i) ((jr.take i).map enc)) o/\o.length=i) #[#[_,_,rfl],aR.refl _,.nil,rfl] ?_ (small (by let:=hz;simp at this;omega)) ?_ ?_ ?_ ?_
  .exact λi σ o J _ ⟨_,_,_,e⟩=>U0 e
  .exact λi σ o J _ ⟨_,s2,_⟩=>aw.Z (s1.trans s2)
  .exact λi σ o J _ ⟨_,s2,_⟩=>bA.of (s2 _ _ aj)
  .rintro i xv yv σ o J p hx hy ⟨⟨_,_,rfl⟩,s2,r2,e2⟩ hp;let(ta,a7,ra):=ao.get' hx;let(x,kk,a6,rfl):=Ks a7;let(tk,an,rk):=fr.get' hy;rw[vv]at an;let(jj,a9,rfl):=ri.mp an;let(xa,x1,x2,x3,rfl,a2,q1,q2,q3):=(show Rp K Z (.t [.s x.1,.t (x.2.map .s),kk]) xv from ra).t3;let s3:=ae hp (.J [V.ref xa,yv]);let h3:bY K (upd J p (.J [V.ref xa,yv])) p [V.ref xa,yv]:=bY.of af;generalize upd J p (.J [V.ref xa,yv])=H3 at s3 h3|-;let q:=(s1.trans s2).trans s3;let be:=a2.Z q;ext p4 I;let s4:=ae I (.J [x1,x2,yv]);calc#[#[_,_,rfl],(s2.trans s3).trans s4,?_,by rw[mu,e2];rfl];rw[Bq a6,Bq a9,i4,List.map_singleton,EW (by rw[bM,x9,x9,ah,<-Y])];exact((r2.Z s3).Z s4).snoc (Rp.new (K:=K) (xs:=[.s x.1,.t (x.2.map .s),enc jj]) I (.cons (q1.Z q) (.cons (q2.Z q) (.one (rk.Z q)))))
  .rintro σ M J ⟨⟨_,_,rfl⟩,s2,r2,e2⟩ p hp;rw[am,al,ah,RB,<-Y,OO,Y,<-ah,OO]at r2;let s3:=ae hp (.Y M);let h3:upd J p (.Y M) p=Yb (.Y M):=af;generalize upd J p (.Y M)=H3 at s3 h3|-;let q:=(s1.trans s2).trans s3;ext;calc .inl #[bA.of h3,λp4 I=>?_];let s4:=ae I (.J M);let r4:=Rp.new (K:=K) I (r2.Z s3);generalize upd H3 p4 (.J M)=H4 at s4 r4|-;ext p5 ad;exact k _ _ (L.trans ((q.trans s4).trans (ae ad _))) (by rw[bI];calc Rp.new (K:=K) (xs:=[.s "match",enc j0,.t (O9 jE C (jr.map enc))]) ad (.cons .s (.cons (f0.Z (q.trans s4)) (.one r4))))
 calc c2.go ?_;ext;refine bP (λd3=>?_) (λd3=>?_)
 .have(x,y,rfl):=h3 d3
  obtain⟨S,k1,k2,rfl⟩:∃S k1 k2,ks=[S,k1,k2]:=by
   rcases ks with _|⟨a,_|⟨b,_|⟨c,_|⟨d,r⟩⟩⟩⟩<;>first|exact#[_,_,_,rfl]|simp[cM]at ar
  obtain⟨j0,j1,j2,rfl⟩:∃S k1 k2,js=[S,k1,k2]:=by
   rcases js with _|⟨a,_|⟨b,_|⟨c,_|⟨d,r⟩⟩⟩⟩<;>first|exact#[_,_,_,rfl]|simp at hk
  let ai:T.t [.s "fold",enc S,.s x,.s y,enc k1,enc k2]=.t (.s B::rest):=he
  cases ai
  let(y1,a4,rfl,g1,ac):=(au.Z L).inv;let(y2,a3,rfl,g2,ab):=ac.inv;let(y3,bi,rfl,g3,a8):=ab.inv;let(y4,bh,rfl,g4,as):=a8.inv;let(y5,bg,rfl,g5,aq):=as.inv;obtain rfl:=aq.ik;let(u1,_,rfl,f1,fr):=O.inv;let(u2,_,rfl,f2,fr):=fr.inv;let(u3,_,rfl,f3,fr):=fr.inv;obtain rfl:=fr.ik;ext p hp;exact k _ _ (L.trans (ae hp _)) (Rp.new (K:=K) (xs:=[.s "fold",enc j0,.s x,.s y,enc j1,enc j2]) hp (.cons .s (.cons f1 (.cons g2 (.cons g3 (.cons f2 (.one f3)))))))
 let(g,pl,rfl,hj):=h4 d1 d2 d3;calc c3.go ?_;let bk:bA K Z a (V.str B::wr)\/bY K Z a (V.str B::wr):=.inr ba;let bj:bA K Z l o\/bY K Z l o:=.inl bc;let lv:=U.length;ext p1 J1 t1 e1
 let av:((V.str B::wr).length:Int) - o.length=((g.length+1:Nat):Int):=by
  rw[lv,OT,mu,bM];omega
 rw[av,gr]at e1;let R:=(U.take (g.length+1)).Z t1;rw[show(T.s B::(g++ks.map enc)).take (g.length+1)=.s B::g by rw[VM,List.take_left]]at R;let G:=R.length;generalize(V.str B::wr).take (g.length+1)=w1 at e1 R G;let X:=t1 _ _ ag;ext;calc .inl #[bA.of X,λp2 W=>?_];let t2:=ae W (.J o);let e2:bY K (upd J1 p2 (.J o)) p2 o:=bY.of af;let bb:=e1.Z t2;generalize upd J1 p2 (.J o)=J2 at t2 e2 bb|-
 let l3:w1.length+o.length<=lj:=small (by
  rw[G];show g.length+1+o.length<=1000;omega)
 ext p4 J4 t4 e4;let N:=t1.trans (t2.trans t4);calc k _ _ (L.trans N) (by rw[bI,hj js hk];calc Rp.t e4 ((R.Z (t2.trans t4)).append (O.Z N)))
end G15
namespace L2
open PySem PySem.Spec PyProof.Rows
def EX (B:X.calm=Yd):iL X (.builtin "sum") (λxs H Q=>∃(p:Yh) (ns:Yi Int),xs=[.ref p]/\bA X.K H p (ns.map V.int)/\Q (.int ns.sum) H):=by
 intro g s C H xs D Q I r h;let(p,ns,rfl,y,q):=h;let(u,rfl,t):=vals1 r
 cases t
 let(e,o,v,L):=I.list y;let m:VB e ns:=intsAre_of o;let(xs,d):=m.allInts.items;let l:=v.isList;rw[d]at l;let j:(numsOf (intItems xs).toList)=ns:=by rw[<-d];exact m.numsOf
 rw[nums_intItems]at j;calc sum_intListG (I.ok.hd B) l λM G J z=>?_;calc#[.int _,H,I.kept z,#[_,rfl],?_];rw[preSum_eq,Py (by simp),j];calc q
end L2
namespace G15
open PySem L2
meta def xT(K:bN)(n:Nat):Sp:=λg H Q _=>∃(v:V) (d:Tm),g=[v]/\Rp K H (enc d) v/\Wf d/\d.size<=900/\d.depth<n/\∀(e:Hp),aR H e->Q (.int (d.size:Int)) e
meta def LR(q D:Nat)(ks d:Yi Tm)(e c:Int):Prop:=d.length=ks.length/\(e<0->c<0/\d=ks)/\(0<=e->(0<=c/\d=ks)\/(c<0/\(∀k∈d,Tb (q+1) k/\k.depth<=D+1)/\Tm.sizes d<=2*Tm.sizes ks+3))
meta def TR(q:Nat)(e d:Tm)(g c:Int):Prop:=(g<0->c<0/\d=e)/\(0<=g->(0<=c/\d=e)\/(c<0/\KR q e d))
def LR.nil :LR q D [] [] c c:=#[rfl,λh=>#[h,rfl],λh=>.inl #[h,rfl]]
def LR.snoc (l:LR q D ks p r c)(t:TR q k j c u)(b:∀x∈ks++[k],Tb q x/\x.depth<=D):LR q D (ks++[k]) (p++[j]) r u:=by
 let(l1,l2,l3):=l;refine#[by rw[mu,mu,l1];rfl,λh=>?_,λh=>?_]
 .have(a,e):=l2 h;let(g,m):=t.1 a;exact#[g,by rw[e,m]]
 .have bk:∀x∈ks,Tb (q+1) x/\x.depth<=D+1:=λx hx=>#[(b x (O4 _ hx)).1.up (Pc _),Uw (b x (O4 _ hx)).2];let v:=b k (rj _ (.head _));rcases l3 h with⟨a,e⟩|⟨a,e,z⟩
  .rcases t.2 a with⟨g,m⟩|⟨g,o⟩
   .exact .inl #[g,by rw[e,m]]
   .refine .inr #[g,λx hx=>?_,?_]
    .rcases IF.mp hx with hx|hx
     .rw[e]at hx;exact bk x hx
     .rw[tF.mp hx];exact#[o.b,by let:=o.d;omega]
    .have:=o.z;rw[e,Tm.er,Tm.er,Tm.bQ,Tm.bQ];show _+(_+0)<=2*(_+(_+0))+3;omega
  .have(g,m):=t.1 a;refine .inr #[g,λx hx=>?_,?_]
   .rcases IF.mp hx with hx|hx
    .exact e x hx
    .rw[tF.mp hx,m];exact#[v.1.up (Pc _),Uw v.2]
   .rw[m,Tm.er,Tm.er,Tm.bQ];show _+(_+0)<=2*(_+(_+0))+3;omega
meta def Br(K:bN)(n:Nat):Sp:=λr H Q _=>∃(f d l:Yh) (v:V) (g:Tm) (j:Yi Yg) (q:Nat) (c:Int),r=[.ref f,v,.ref d,.ref l]/\dc H f/\Rp K H (enc g) v/\Tb q g/\q<=4/\g.size<=80/\g.depth<n/\H d=Yb (.Y [.int c])/\d≠f/\H l=Yb (.Y (j.map V.str))/\l≠f/\l≠d/\1<=j.length/\j.length<=100/\(∀x∈j,Wo x) /\
 ∀(o:V) (m:Hp) (e:Tm) (p:Int),dR [d] f H m->m d=Yb (.Y [.int p])->Rp K m (enc e) o->TR q g e c p->Q o m
structure RI(K:bN) (f lc:Yh) (H:Hp) (q D:Nat) (ks:Yi Tm) (c0:Int) (i:Nat) (us:Yi V) (H':Hp):Prop where
 x:∃js c,dR [lc] f H H'/\H' lc=Yb (.Y [.int c])/\bR K H' (js.map enc) us/\LR q D (ks.take i) js c0 c
def Cu :Nm Xd (ak lQ):=by decide
def Cv :aY Xd Xd (ak lQ):=by ac_rfl
def HU (hj:1<=j)(F:jn K "_law_many" "_law_many" lQ f I)(WI:Za "_law_within" 1 Xd (jN K) gW wfd)(MA:Za "_law_many" j Xd (xT K n) gM mfd)(e:mg "sum"=Yc):
  Zt gz (j+1) f I Xd (xT K (n+1)):=by
 refine F.ok Cv (λL H Q E h=>?_) (λcdv A outer s H L Q E hr h=>?_)
 .have(_,_,rfl,_):=h;rfl
 let(v,d,rfl,hv,wf,B,X,k):=h;refine#[_,(Zd (Zp (Zm eg aB (Z2 (EX rfl) e Vl (Z1 (Ze (ak lQ) Xd ["_law_inner"] [] (@jT _ _ _ _ (Z0 WI (Zc (va Cu 0)))) (λ_ _ _ _=>(Zx ["_law_inner"] 0)) (λ_ _ _ _=>(Z0 MA (Zc (Zw ["_law_inner"] 0))))) aA))))),?_]
 right
 ext S H2 o N W Y r2;let l2:=r2.length;rw[bM]at l2;let hk:=wB d;ext;refine jw (K:=K) (a:=S) (xs:=o) (λi m p Hd=>(∃x,m=[x])/\aR H2 Hd/\p=((d.ks.take i).map λk=>(k.size:Int)).map V.int) #[#[_,rfl],aR.refl _,rfl] ?_ (O7 (aV ())) ?_ ?_ ?_
 .rintro i m p Hd hi ⟨_,_,rfl⟩;rw[bM,bM,x9];omega
 .rintro i m p Hd hi ⟨_,l,_⟩;exact bA.of (l _ _ Y)
 .rintro i x m p Hd hi ⟨⟨x0,rfl⟩,l,rfl⟩;let(y,D,R):=r2.get' hi;rw[vv]at D;let(q,G,rfl):=ri.mp D;let t:i<d.ks.length:=(bH.mp G).1;let u:d.ks[i]=q:=(bH.mp G).2;let g:q∈d.ks:=by rw[<-u];exact Pu t
  let T:q.size<=900:=by
   let:=j8 g
   cases d with
   |mk h ks=>rw[Tm.eO]at B;let:q.size<=Tm.sizes ks:=this;omega
  let U:q.depth<n:=by
   cases d with
   |mk h ks=>let:=Tm.jv (h:=h) (ks:=ks) g;omega
  let O:=R.Z l;let J:=Wf.kids wf q g;ext H4 M;ext
  .exact l.trans M
  rw[i3 t,u,i4,i4];rfl
 .rintro m p Hd ⟨_,l,rfl⟩ p9 hp9;let C:=ae hp9 (.Y (((d.ks.take o.length).map λk=>(k.size:Int)).map V.int));rw[l2,OO]at C|-;let h9:upd Hd p9 (.Y ((d.ks.map λk=>(k.size:Int)).map V.int)) p9=Yb (.Y ((d.ks.map λk=>(k.size:Int)).map V.int)):=af
  let Z:1+(d.ks.map λk=>(k.size:Int)).sum=(d.size:Int):=by
   let:∀ks:Yi Tm,(ks.map λk=>(k.size:Int)).sum=((Tm.sizes ks:Nat):Int):=λks=>by
    induction ks with
    |nil=>rfl
    |cons k r ih=>rw[OQ,List.sum_cons,ih,Tm.bQ];omega
   cases d with
   |mk h ks=>rw[Tm.eO];show 1+(ks.map λk=>(k.size:Int)).sum=_;rw[this];omega
  ext;let z:=k _ (N.trans (l.trans C));rw[<-Z]at z;calc z
def fb :Nm WX (ak iO):=by decide
def xU :aY WX WX (ak iO):=by ac_rfl
def Ku (hj:3<=j)(F:jn K "_law_rebuilt" "_law_rebuilt" iO f t)(WI:Za "_law_within" 1 Xd (jN K) gW wfd)(am:Za "_law_other" 3 Xw (xS K) gO ofd)(an:Za "_law_back" 1 Xu (Aq K) gB bfd)(al:Za "_law_rebuilt" j WX (Br K n) gR rfd):
  Zt gz (j+1) f t WX (Br K (n+1)):=by
 refine F.ok xU (λvs H Q E h=>?_) (λcdv A outer s H vs Q E hr h=>?_)
 .have(_,_,_,_,_,_,_,_,rfl,_):=h;rfl
 let(fe,o,lw,v,g,ws,q,c,rfl,hf,rv,tb,hq,hz,hd,Y,T,X,N,O,w1,ao,ar,k):=h;refine#[_,(Z5 (@iD _ _ _ _ _ _ (Zm jP (Z6 aZ (va fb 2)) aB) (pH (va fb 2) aB set_list) (by rfl) (by rfl) (by rfl)) (Z5 (Z8 (Zg bO (Z6 aZ (va fb 2)) (kQ iV aB) (bz _)) (Zd (Zp (Z0 am (Z1 (va fb 0) (Z1 (va fb 1) (Zc (va fb 3)))))))) (Zd (Zp (Z0 an (Z1 (va fb 1) (Z1 (Ze (ak iO) WX ["_law_one"] [0,2,3] (@jT _ _ _ _ (Z0 WI (Zc (va fb 1)))) (λ_ _ _ _=>(Zx Xc 0)) (λ_ _ _ _=>(Z0 al (Z1 (Zw Xc 1) (Z1 (Zw Xc 0) (Z1 (Zw Xc 2) (Zc (Zw Xc 3)))))))) aA))))))),?_]
 right
 let a3:bA K H o [.int c]:=bA.of Y;calc jF ?_;intro N1 N2 c1 c2;ext;let h1:upd H o (.Y ([V.int c].set (Int.toNat 0) ((λi j=>V.int (i-j)) c 1))) o=Yb (.Y [.int (c-1)]):=af;let D:dR [o] fe H (upd H o (.Y ([V.int c].set (Int.toNat 0) ((λi j=>V.int (i-j)) c 1)))):=(dR.refl hf).upd (.head _) T Y;generalize upd H o (.Y ([V.int c].set (Int.toNat 0) ((λi j=>V.int (i-j)) c 1)))=H1 at h1 D|-;let ah:=D.ff;let av:=rv.kt D.kt;let aq:=D.iT O N X;refine bP (λd=>?_) (λd=>?_)
 .have e:c-1=-1:=V.int.inj (of_decide_eq_true d);let az:g.size<=80:=hz;ext v' H2 u x2 r2 ot;exact k _ _ u (c-1) (D.ext x2) (x2.1 _ _ T h1) r2 #[λh=>absurd h (),λ_=>.inr #[(),ot]]
 let e:c-1≠-1:=λz=>d (decide_eq_true (by show V.int (c-1)=V.int (-1);rw[z]));let wf:=tb.wf;let ax:g.size<=900:=()
 ext M H2 I s2 l h2 r2;let l2:=r2.length;rw[bM]at l2;let hk:=wB g;let f2:=D.Z s2;let aj:=s2 _ _ h1
 let J:∀k∈g.ks,Tb q k/\k.depth<g.depth/\k.size<=80:=λx hx=>by
  cases g with
  |mk h ks =>
   let(_,_,_,tk):=tb.inv;exact#[tk x hx,Tm.jv hx,by let:x.size<=Tm.sizes ks:=j8 hx;rw[Tm.eO]at hz;omega]
 let S:M≠o:=λz=>by rw[z,h1]at l;cases l
 let R:M≠fe:=λz=>by
  let(_,_,e):=ah;rw[z,e]at l;cases l
 let ap:H M=Yc:=D.free l (λz=>S (tF.mp z));ext;refine jw (K:=K) (a:=M) (xs:=I) (λi G m Hd=>(∃x,G=[x,Yb (.ref fe),Yb (.ref o),Yb (.ref lw)])/\Hd M=Yb (.Y I)/\Kt H2 Hd/\RI K fe o H q (g.depth-1) g.ks (c-1) i m Hd) #[#[_,rfl],h2,Kt.refl,#[[],c-1,f2,aj,.nil,.nil]] ?_ (O7 (aV ())) ?_ ?_ ?_
 .rintro i G m Hd hi ⟨_,_,_,⟨B,c',_,_,L,p⟩⟩;rw[L.length,bM,p.1,x9];omega
 .rintro i G m Hd hi ⟨_,hd,_⟩;exact bA.of hd
 .rintro i x G m Hd hi ⟨⟨x0,rfl⟩,aa,kd,⟨B,c',t,ab,L,p⟩⟩;let(y,hy,ry):=r2.get' hi;rw[vv]at hy;let(kq,W,rfl):=ri.mp hy;let Z:i<g.ks.length:=(bH.mp W).1;let ac:g.ks[i]=kq:=(bH.mp W).2;let U:kq∈g.ks:=by rw[<-ac];exact Pu Z
  let(tq,dq,zq):=J kq U;let as:=ry.kt kd;let a2:kq.depth<n:=()
  let a0:=t.ff;let a1:=t.iT O N X;ext v' H4 u c4 f4 ai r4 tr;ext
  .exact f4.iT S R aa
  refine#[kd.trans f4.kt,#[B++[u],c4,t.trans f4,ai,?_,?_]]
  .rw[i4];exact(L.kt f4.kt).append (.one r4)
  .rw[i3 Z,ac];refine p.snoc tr λy ag=>?_
   let hm:y∈g.ks:=by
    rcases IF.mp ag with z|z
    .exact Pn z
    .rw[tF]at z;rw[z];exact U
   let(a,b,_):=J y hm;exact#[a,()]
 .rintro G m Hd ⟨_,aa,kd,⟨B,c',t,ab,L,p⟩⟩ p9 hp9;rw[l2,OO]at p;let s9:=ae hp9 (.Y m);let h9:upd Hd p9 (.Y m) p9=Yb (.Y m):=af;let r:=s9 _ _ ab;let ad:=L.Z s9;generalize upd Hd p9 (.Y m)=H9 at s9 h9 r ad|-;let f9:=t.Z s9
  cases g with
  |mk h ks =>
  let(a,b,cc,dd):=tb.inv;let au:=rv.kt f9.kt;let lk:B.length=ks.length:=p.1;let aw:ks.length<=900:=by let:ks.length<(Tm.mk h ks).size:=hk;omega
  ext v' HA sA rA;refine k _ _ (.mk h B) c' (f9.Z sA) (sA _ _ r) rA #[λh0=>?_,λh0=>?_]
  .have(x,y):=p.2.1 ();exact#[x,by rw[y];rfl]
  .rcases p.2.2 ()with⟨x,y⟩|⟨x,y,z⟩
   .exact .inl #[x,by rw[y];rfl]
   .refine .inr #[x,?_,?_,?_]
    .exact .mk (by rw[lk];calc a) b (cc.up (Pc _)) λk C=>(y k C).1
    .cases ks with
     |nil =>
      cases B with
      |nil=>calc Ao
      |cons _ _=>cases lk
     |cons k0 kr =>
      calc OX (Tm.yw (n:=(Tm.mk h (k0::kr)).depth-1+1) λk C=>(y k C).2) ?_;rw[Tm.pN];omega
    .rw[Tm.eO,Tm.eO];let z':Tm.sizes B<=2*Tm.sizes ks+3:=z;omega
structure Pq(q:Nat) (kl:Kl) (dl:Yi Df):Prop where
 b:Bj 40 (6+q) kl dl
 t:∀d∈dl,Tb q d.2.2
theorem bR.L6 {K:bN}{H:Hp}{x:T}{u:V}:∀{xs:Yi T}{us:Yi V}(_:bR K H xs us) (_:Rp K H x u) (i:Nat),bR K H (xs.set i x) (us.set i u)
 | [],us,r,_,_=>by rw[r.ik];calc .nil
 |y::r,us,h,ru,i=>by
  let(v,d,rfl,g,h):=h.inv
  cases i with
  |zero=>calc .cons ru h
  |succ i=>calc .cons g (bR.L6 h ru i)
meta def wI(K:bN):Sp:=λp H Q _=>∃(f j:Yh) (v:V) (g:Kl) (o:Yi Df) (e:Yi Yg) (q:Nat),p=[.ref f,v,.ref j]/\dc H f/\Rp K H (.t [.t (g.map jo),.t (o.map lB)]) v/\Pq q g o/\q<=2/\H j=Yb (.Y (e.map V.str))/\j≠f/\1<=e.length/\e.length<=100/\(∀x∈e,Wo x) /\
 ∀(m:V) (l:Hp) (d:Yi Df),Ext f H l->Rp K l (.t [.t (g.map jo),.t (d.map lB)]) m->Pq (q+1) g d->Q m l
def bF :Nm W6 (ak jJ):=by decide
def iq :Lm W6 (ak jJ):=by decide
def fY :aY W6 XE (ak jJ):=by ac_rfl
def Ar (hn:9<n)(h1:1<=j)(hm:jm<=j)(F:jn K "_law_changed" "_law_changed" jJ f fd)(TK:Za "_law_take" 1 WQ cU gT tfd)(bq:Za "_law_rebuilt" j WX (Br K n) gR rfd)(MA:Za "_law_many" jm Xd (xT K n) gM mfd)(aa:mg "len"=Yc)(J:mg "list"=Yc)(C:mg "tuple"=Yc):Zt gz (j+1) f fd XE (wI K):=by
 refine F.ok fY (λvs H Q E h=>?_) (λcdv A outer s H vs Q E hr h=>?_)
 .have(_,_,_,_,_,_,_,rfl,_):=h;rfl
 let(Y,lw,v,kl,Z,ws,q,rfl,R,r,pq,hq,bj,ap,w1,bv,b6,k):=h;refine#[_,(Z5 (Z4 fY.nd iq 3 (Z9 jU J QW (Z1 (Z6 aI (va bF 1)) aA))) (Z5 (Z4 fY.nd iq 4 (Z0 TK (Z1 (va bF 0) (Z1 (Z2 aM aa OS (Zc (va bF 3))) aA)))) (Z5 (@iD _ _ _ _ _ _ (jD aZ (va bF 3) (va bF 4) (λ_ _=>rfl)) (Zb (3) (Zf (ga fY.nd iq 5) (Zf (ga fY.nd iq 6) (Zs (ga fY.nd iq 7))))) (by rfl) (by rfl) (by rfl)) (Z5 (Z4 fY.nd iq 8 (Z0 bq (Z1 (va bF 0) (Z1 (va bF 7) (Z1 (Zq (Z1 (Z0 TK (Z1 (va bF 0) (Z1 (Z0 MA (Zc (va bF 7))) aA))) aA)) (Zc (va bF 2))))))) (Z5 (Z8 (Zg oV (Z0 MA (Zc (va bF 8))) aB (bz _)) (Zd (@iD _ _ _ _ _ _ (Zk (Z1 (va bF 5) (Z1 (va bF 6) (Zc (va bF 8))))) (pH (va bF 3) (va bF 4) set_list) (by rfl) (by rfl) (by rfl)))) (Zd (Zp (Zk (Z1 (Z6 aI (va bF 1)) (Z1 (Z9 cg C Pf (Zc (va bF 3))) aA)))))))))),?_]
 right
 let(pa,u1,u2,rfl,be,g1,g2):=r.t2;let(da,l,rfl,cr,T):=g2.aS;let ld:=T.length;rw[bM]at ld;let y:=pq.b;let d1:=y.d1;let d3:=y.d3;calc uo ?_;intro N1 N2 N3 N4 N5 c1 c2 c3 c4 c5;ext;calc nw λp H3 s3 a4 U=>?_;let M:=bB R U;let co:=R.Z s3;let b3:bA K H3 p l:=bA.of a4;let cl:(0:Int)<(l.length:Int):=()
 let ck:(l.length:Int)<1073741824:=()
 let lz:l.length<lj:=aV ();let aw:=s3 _ _ bj;ext r4 H4 ch cf x4;obtain⟨g,cp,rfl⟩:∃q:Nat,q<l.length/\r4=q:=#[r4.toNat,(),()];let W:g<Z.length:=()
 let ad:Ext Y H H4:=((Ext.refl R).Z s3).trans x4;let a5:=T.kt (ad.kt R);let(dv,bk,an):=a5.get (i:=g) (x:=lB Z[g]) (by rw[vv,my W];rfl);let S:Z[g]∈Z:=Pu W;generalize Z[g]=d0 at an S;let(bw,bt,bs,bd,bp):=y.dd d0 S;let am:=pq.t d0 S;let av:dZ l (g:Int)=Yb dv:=aF bk;let(qa,ca,ag,al,rfl,ci,q1,q2,q3):=(show Rp K H4 (.t [.s d0.1,.t (d0.2.1.map DP),enc d0.2.2]) dv from an).t3;obtain rfl:=q1.aL;let a3:=x4.1 _ _ M a4;let b4:bA K H4 p l:=bA.of a3;let as:=x4.1 _ _ ap aw;let b7:=am.wf;let br:d0.2.2.size<=900:=()
 let dn:d0.2.2.depth<n:=()
 let O:=x4.2;ext H5 s5;let cd:=Tm.size_pos d0.2.2;let cc:(0:Int)<(d0.2.2.size:Int):=()
 let cb:(d0.2.2.size:Int)<1073741824:=()
 let cn:=O.Z s5;ext r6 H6 a9 ce x6;ext N G;let s7:=ae G (.Y [.int r6]);let bn:upd H6 N (.Y [.int r6]) N=Yb (.Y [.int r6]):=af;let B:Ext Y H4 H6:=((Ext.refl O).Z s5).trans x6;let bg:=bB x6.2 G;let a2:=B.1 _ _ M a3;let a1:=B.1 _ _ ap as;let cj:lw≠N:=au a1 G;let bh:p≠N:=au a2 G;let a0:=s7 _ _ a2;let bm:=s7 _ _ a1;let ac:Ext Y H (upd H6 N (.Y [.int r6])):=(ad.trans B).Z s7
 let az:H N=Yc:=by
  cases hc:H N with
  |none=>rfl
  |some o=>let:=(ad.trans B).1 N o bg hc;rw[G]at this;cases this
 let ax:H p=Yc:=U;let bb:=(q3.kt (B.kt O)).Z s7;generalize upd H6 N (.Y [.int r6])=H7 at s7 bn a0 bm ac bb|-;let cm:=ac.2;let b5:d0.2.2.size<=80:=()
 let q4:q<=4:=()
 ext v8 H8 m c8 f8 cq r8 tr
 let a8:Ext Y H H8:=by
  calc#[λb o nb hb=>?_,f8.ff];let h7:=ac.1 b o nb hb;exact f8.iT (au hb az) nb h7
 let bl:=f8.iT bh M a0
 let bf:Tb (q+1) m/\m.depth<=d0.2.2.depth+1/\m.size<=2*d0.2.2.size+3:=by
  rcases tr.2 a9 with⟨_,e⟩|⟨_,o⟩
  .rw[e];exact#[am.up (Pc _),(),()]
  .exact#[o.b,o.d,o.z]
 let(L,cs,b1):=bf;let b8:=L.wf;let b2:m.size<=900:=()
 let ct:m.depth<n:=()
 let fin:∀(H':Hp) (u:Yi V) (I:Yi Df) (o4 o5 o6 o7 o8:Option V),Ext Y H H'->H' p=Yb (.Y u)->bR K H' (I.map lB) u->Pq (q+1) kl I->N5 [Yb (.ref Y),Yb (.ref pa),Yb (.ref lw),Yb (.ref p),o4,o5,o6,o7,o8] H':=by
  intro H' u I o4 o5 o6 o7 o8 x h rr pp;calc c5.go ?_;let bx:=be.kt (x.kt R);let bo:=g1.kt (x.kt R);ext;calc .inl #[bA.of h,λp2 ar=>?_];let s2:=ae ar (.J u);let r2:=Rp.new (K:=K) ar rr;generalize upd H' p2 (.J u)=H2 at s2 r2|-;ext p4 aq;let s4:=ae aq (.J [u1,.ref p2]);exact k _ _ I ((x.Z s2).Z s4) (Rp.new (K:=K) (xs:=[.t (kl.map jo),.t (I.map lB)]) aq (.cons (bo.Z s2) (.one r2))) pp
 clear c5;let up:Pq (q+1) kl Z:=#[#[y.k3,y.kt,d1,d3,λd hd=>#[((pq.t d hd).up (Pc _)).wn (),(y.dd d hd).2.1,(y.dd d hd).2.2.1,by let:=(y.dd d hd).2.2.2.1;omega,(y.dd d hd).2.2.2.2],y.dw],λd hd=>(pq.t d hd).up (Pc _)];ext H9 s9;let ab:=a8.Z s9;let ai:=s9 _ _ bl;let b9:bA K H9 p l:=bA.of ai;ext;refine bP (λd=>?_) (λd=>?_)
 rotate_left
 .have e:=fin H9 l Z (Yb (.int g)) (Yb (.str d0.1)) (Yb ag) (Yb al) (Yb v8) ab ai (T.kt (ab.kt R)) up;ext;exact e
 let a6:m.size<=40:=by
  let:=of_decide_eq_true d;omega
 let bc:=(q2.kt (B.kt O));ext;refine nw λD HA ah aj b0=>?_
 let ao:Rp K H9 (.t (d0.2.1.map DP)) ag:=by
  let bi:Kt H7 H9:=f8.kt.trans (Kt.Z s9);exact(bc.Z s7).kt bi
 let ba:Rp K HA (lB (d0.1,d0.2.1,m)) (.ref D):=Rp.nw (K:=K) (xs:=[.s d0.1,.t (d0.2.1.map DP),enc m]) aj ah (.cons .s (.cons ao (.one (r8.Z s9))));let ak:=ab.Z ah;let X:=ah _ _ ai
 let ix:zJ l.length (g:Int)=Yb g:=by
  unfold zJ;simp;omega
 let k7:Kt HA (upd HA p (.Y (l.set g (.ref D)))):=Kt.Y X _;let a7:Ext Y H (upd HA p (.Y (l.set g (.ref D)))):=((Ext.uZ R ak:dR [] Y H HA).Gh ax M X).ex
 let e:=fin (upd HA p (.Y (l.set g (.ref D)))) (l.set g (.ref D)) (Z.set g (d0.1,d0.2.1,m)) (Yb (.int g)) (Yb (.str d0.1)) (Yb ag) (Yb al) (Yb v8) a7 af (by
  rw[List.map_set];calc bR.L6 ((T.kt (ak.kt R)).kt k7) (ba.kt k7) g) #[#[y.k3,y.kt,by rw[Ve];calc d1,by rw[Ve];calc d3,λd hd=>?_,λd hd=>?_],λd hd=>?_]
 ext;exact e
 all_goals rcases List.mem_or_eq_of_mem_set hd with h|h
 .exact up.b.dd d h
 .rw[h];exact#[L.wn (),L.ta (),a6,by show m.depth<=_;omega,bp]
 .exact y.dw d h
 .rw[h];exact y.dw d0 S
 .exact up.t d h
 .rw[h];calc L
def Kv (h:y∈tl kl):∃k∈kl,∃t∈k.2,y.2.2=t.2:=by
 unfold tl at h;let(k,e,h):=QD.mp h;let(t,d,rfl):=O2.mp h;calc#[k,e,t,d,rfl]
def Kw (kt:∀k∈kl,Ho k)(h:fz kl arms=Yc):arms.length<=3/\∀a∈arms,a.2.length<=2:=by
 cases arms with
 |nil=>cases h
 |cons a r =>
  unfold fz at h;dsimp only at h
  split at h
  .cases h
  split at h
  .next g =>
   refine#[?_,λb l=>?_]
   .have e:=(Tu.mp g).length_eq;rw[bM]at e;rw[e]
    cases e2:((jR kl a.1).bind λy=>Ad kl y.2.1)with
    |none=>calc ON _
    |some k =>
     show(k.2.map (·.1)).length<=3;rw[bM];let(y,_,o):=UW.mp e2;exact(kt k (Qg o)).2.1
   .have e:=Ui.mp h b l;unfold jy at e
    split at e
    .cases e
    .next y ey =>
     split at e
     .next m =>
      rw[m];let(k,j,t,d,p):=Kv (Qg ey);rw[p];exact(kt k j).2.2.1 t d
     .cases e
  .cases h
def L7 (kt:∀k∈kl,Ho k):Ta j->Wf j->∀{gs d:Yi Int}{ns:Yi Yg},sH kl ds gs ns j=.ok d->Tb 0 j:=by
 refine Tm.induct (P:=λj=>Ta j->Wf j->∀{gs d:Yi Int}{ns:Yi Yg},sH kl ds gs ns j=.ok d->Tb 0 j) (λh ks y t wf gs d ns e=>?_) j
 cases t with
 |mk _ w wk =>
 cases wf with
 |mk ar wfk =>
 rw[rG]at e
 cases q:eK kl ds gs ns h ks.length with
 |error g=>rw[q]at e;cases e
 |ok g1 =>
  rw[q]at e
  let p:∀(l:Yi Tm),(∀k∈l,k∈ks)->∀(bs:Yi (Yi Yg)) (gs d:Yi Int),bs.length=l.length->jM kl ds gs ns bs l=.ok d->∀k∈l,Tb 0 k:=by
   intro l
   induction l with
   |nil=>intro _ _ _ _ _ _ _ z;cases z
   |cons k r ihl =>
    intro o bs gs d v e
    cases bs with
    |nil=>cases v
    |cons b bs =>
     rw[iR]at e
     cases q2:sH kl ds gs (ns++b) k with
     |error g=>rw[q2]at e;cases e
     |ok g' =>
      rw[q2]at e;intro x hx;rcases L0.mp hx with rfl|hx
      .exact y x (o x (.head _)) (wk x (o x (.head _))) (wfk x (o x (.head _))) q2
      .exact ihl (λx hx=>o x (.tail _ hx)) bs g' d (Nat.succ.inj v) e x hx
  refine .mk ar w (λm B=>?_) (p ks (λ_ h=>h) _ g1 d ?_ e)
  .subst B
   let u:(match fz kl m with
    |some f=>Except.error f
    |none=>Except.ok gs)=.ok g1:=q
   cases qa:fz kl m with
   |some f=>rw[qa]at u;cases u
   |none=>exact Kw kt qa
  .cases h<;>simp_all[bnd,cM]
def HV (kt:∀k∈kl,Ho k):∀{dl:Yi Df}{ds:Yi (Yg×Nat)}{gs j:Yi Int},(∀d∈dl,Wn d.2.2/\Ta d.2.2)->jq kl ds gs j dl=Yc->∀d∈dl,Tb 0 d.2.2:=by
 intro dl
 induction dl with
 |nil=>intro _ _ _ _ _ _ h;cases h
 |cons d r ih =>
  intro ds gs j w h;rw[rH]at h
  by_cases c:d.1∈ds.map (·.1)
  .rw[if_pos c]at h;cases h
  .rw[if_neg c]at h
   cases e:cV (kl.map (·.1)) [] j d.2.1 with
   |error g=>rw[e]at h;cases h
   |ok os' =>
    rw[e]at h;unfold om at h;dsimp only at h
    cases e2:sH kl ds gs (d.2.1.map (·.1)) d.2.2 with
    |error g=>rw[e2]at h;cases h
    |ok gs' =>
     rw[e2]at h;intro x hx;rcases L0.mp hx with rfl|hx
     .exact L7 kt (w x (.head _)).2 (w x (.head _)).1.wf e2
     .exact ih (λy l=>w y (.tail _ l)) h x hx
def HX (b:Bj 40 6 kl dl)(h:cz kl dl=Yc):Pq 0 kl dl:=by
 calc#[b,?_];unfold cz at h
 cases e:cK [] [] kl with
 |some g=>rw[e]at h;cases h
 |none =>
  rw[e]at h;calc HV b.kt (λd hd=>#[(b.dd d hd).1,(b.dd d hd).2.1]) h
meta def Bs(K:bN)(m o cW:Yh):Sp:=λl H Q E=>∃(v:V) (g:Kl) (e:Yi Df),l=[v]/\Rp K H (.t [.t (g.map jo),.t (e.map lB)]) v/\xY g/\e.length<=8/\(∀d∈e,LN d) /\
 (∀f,cz g e=Yb f->TF m o cW E H f)/\(cz g e=Yc->∀j,aR H j->Q (.bl Yd) j)
structure Ny(C:Yh) (H:Hp) (o:Yh) (a:qC) (kl:Kl) (dl:Yi Df) (i:Nat) (ds:Yi (Yg×Nat)) (gs os:Yi Int) (H2:Hp):Prop where
 k:ic C H o a kl ds gs os H2
 e:cz kl dl=jq kl ds gs os (dl.drop i)
 d:cJ [] (ds.map (·.1))=Yc
 ld:ds.length<=i
 lg:gs.length<=80*i
 lo:os.length<=10*i
structure OC(C:Yh) (H:Hp) (o:Yh) (a:qC) (kl:Kl) (ds:Yi (Yg×Nat)) (gs gs' os:Yi Int) (pl:Yi (Yi Yg×Tm)) (j:Nat) (H1 H2:Hp):Prop where
 k:ic C H o a kl ds gs' os H2
 t:kH a H1 H2
 e:iQ kl ds gs pl=iQ kl ds gs' (pl.drop j)
 l:gs'.length<=gs.length+j
def bG :Nm Xl (ak iZ):=by decide
def eA :Lm Xl (ak iZ):=by decide
def dB :aY Xl X5 (ak iZ):=by ac_rfl
def Cw (F:jn K "look_names" "look_names" iZ f fd)(N:KO K C)(MK:Mk K C gI)(ak:LM P w K mg base C "__init__" 2 Xx (AU K C) gI ifd)(B:mg "Known"=Yb (.ref C))(LO:Zu "look_once" 3 X8 (rC K cT) gO ofd)(LKS:Zu "look_kinds" 4 ["kinds"] (AO K cT cN cW) gK kfd)(LPS:Zu "look_params" 4 ["params","known"] (yW K C cT cN cW) gP pfd)(PLC:Za "places" 2 ["params","term"] (y9 K) gL lfd)(LTM:Zu "look_term" 5 X4 (A1 K C cT cN cW) gTm tfd)(z_list:mg "list"=Yc)(z_len:mg "len"=Yc):Zt (yK P w) 6 f fd X5 (Bs K cT cN cW):=by
 refine F.Gy dB (λvs H Q E h=>?_) (λcdv A outer s H vs Q E hr h=>?_)
 .have(_,_,_,rfl,_):=h;rfl
 let(v,q,M,rfl,r,hB,bo,hD,hE,k):=h;refine#[_,(Z5 (@iD _ _ _ _ _ _ (va bG 0) (Zb (2) (Zf (ga dB.nd eA 1) (Zs (ga dB.nd eA 2)))) (by rfl) (by rfl) (by rfl)) (Z5 (Zo (@eN _ _ _ _ _ _ _ _ _ _ _ _ _ _ _ _ LKS.ok (hr.mono ()) (by left) LKS.at' LKS.kp LKS.bd .nil jK (Zc (va bG 1)) (by decide) (by rfl) (by rfl))) (Z5 (Z4 dB.nd eA 3 (@Fp _ _ _ _ _ _ _ _ _ _ _ _ _ _ _ _ _ MK ak.ok (hr.mono ()) (by left) B ak.bd .nil lF (bJ (va bG 0) aA) (by decide) (by rfl) (by rfl))) (Z5 (Zj (jb rfl rfl rfl) (cG (va bG 2)) (Zb (3) (Zf (ga dB.nd eA 4) (Zf (ga dB.nd eA 5) (Zs (ga dB.nd eA 6))))) (Z5 (Zo (@eN _ _ _ _ _ _ _ _ _ _ _ _ _ _ _ _ LO.ok (hr.mono ()) (by left) LO.at' LO.kp LO.bd .nil jK (Z1 (Zm iW (Z9 (Ae rfl) z_list QW (Z1 (kg (va bG 3) rfl) aA)) (Zq (Zc (va bG 4)))) aA) (by decide) (by rfl) (by rfl))) (Z5 (Zo (@eN _ _ _ _ _ _ _ _ _ _ _ _ _ _ _ _ LPS.ok (hr.mono ()) (by left) LPS.at' LPS.kp LPS.bd .nil jK (Z1 (va bG 5) (Zc (va bG 3))) (by decide) (by rfl) (by rfl))) (Z5 (Zj (jb rfl rfl rfl) (@jT _ _ _ _ (Z0 PLC (Z1 (va bG 5) (Zc (va bG 6))))) (Zb (2) (Zf (ga dB.nd eA 7) (Zs (ga dB.nd eA 8)))) (Zd (Zo (@eN _ _ _ _ _ _ _ _ _ _ _ _ _ _ _ _ LTM.ok (hr.mono ()) (by left) LTM.at' LTM.kp LTM.bd .nil jK (Z1 (va bG 8) (Z1 (va bG 7) (Zc (va bG 3)))) (by decide) (by rfl) (by rfl))))) (Zd (@qj _ _ _ _ _ _ _ _ _ (gJ hr) (kg (va bG 3) rfl) (va bG 4) (Z2 aM z_len OS (Zc (va bG 5))) (by rfl))))))) (cA (cS nA)))))),?_]
 right
 try dsimp only[qw,qx]
 let hc:=N.c;let n4:=N.mdef;let r0:=id r;let(pa,u1,u2,rfl,bg,g1,g2):=r.t2;let(da,ah,rfl,ai,aj):=g2.aS;let as:=aj.length;rw[bM]at as;let kE:∀f,cK [] [] q=Yb f->TF cT cN cW E H f:=λf hf=>hE f (by unfold cz;rw[hf]);ext ad H1 s1;let e0:cz q M=jq q [] [] [] M:=by unfold cz;rw[ad]
 let(ar,aq):=rZ ad;let r1:=r0.Z s1;ext o dx ho az aw;let s2:aR H1 (upd (upd H1 dx (.own o)) o (.ins C dx [])):=(ae az _).trans (ae (by rw[ay aw.symm];calc ho) _);calc#[H,o,dx,_,q,_,rfl,s1.trans s2,s1.free ho,af,r1.Z s2,hB,aq,ar,λH3 a k3=>#[rfl,?_]];let bc:=ai.Z k3.sm;let g4:=yS a;ext;refine eY (K:=K) (xs:=ah) (λi I H4=>(∃y4 y5 y6 y7 y8,I=[Yb (.ref pa),Yb u1,Yb (.ref da),Yb (.ref o),y4,y5,y6,y7,y8])/\∃m O os,Ny C H o a q M i m O os H4) #[#[_,_,_,_,_,rfl],[],[],[],k3,e0,rfl,i5 _,ON _,ON _] ?_ ?_ ?_
 .rintro i I H4 hi ⟨_,m,O,os,u⟩;exact ai.Z u.k.sm
 .rintro i xv I H4 hxv ⟨⟨_,_,_,_,_,rfl⟩,m,O,os,u⟩;let(t,ht,rx):=aj.get' hxv;rw[vv]at ht;let(d,Z,rfl):=ri.mp ht;let b6:=(bH.mp Z).1;let(bw,bt,bs,bp):=hD d (xn Z);let G:=u.e;rw[wC Z]at G;let d4:=lR (x:=d.1) u.d;let(qa,v1,v2,v3,rfl,ap,q1,q2,q3):=(show Rp K H (.t [.s d.1,.t (d.2.1.map DP),enc d.2.2]) xv from rx).t3;obtain rfl:=q1.aL;let a7:=ap.Z u.k.sm;let ba:=u.k.ins;let bb:=u.k.dd;let a8:=u.ld;ext;calc nw λl5 H5 s5 h5 b0=>?_;generalize hnm:m.map (·.1)=nm at G d4;let a1:(List.map (λe=>kV e.1) (List.map (λ(d:Yg×Nat)=>((Sum.inr d.1:Key),V.int (d.2:Int))) m))=nm.map V.str:=by rw[<-hnm,Pz,Pz];rfl
  rw[a1]at h5;let bm:nm.length<=8:=by rw[<-hnm,bM];omega
  ext;calc nw λp6 H6 s6 h6 bx=>?_;let b7:=s6 _ _ h5;let lc:(nm.map V.str).length+([.str d.1]:Yi V).length<=lj:=small (by rw[bM];show _+1<=_;omega);ext;calc nw λp7 H7 s7 R bv=>?_;let ea:nm.map V.str++[.str d.1]=(nm++[d.1]).map V.str:=by simp
  rw[ea]at R;let h7:nq K Ye H7 p7 ((nm++[d.1]).map V.str):=bA.of R;let ao:=(s5.trans s6).trans s7;let k7:=u.k.ext ao;let l7:(nm++[d.1]).length<=500:=by rw[mu];show _+1<=_;omega
  let oE:∀x,cJ [] (nm++[d.1])=Yb x->Told E H7 cT "name" (.str x):=λx U=>by
   rw[d4]at U
   by_cases c:d.1∈nm
   .rw[if_pos c]at U G
    cases U
    exact(hE _ G).Z k7.sm
   .rw[if_neg c]at U;cases U
  ext X H8 s8;let c:d.1∉nm:=λc=>by rw[d4,if_pos c]at X;cases X
  rw[if_neg c]at G;let k8:=k7.ext s8;let r8:=q2.Z k8.sm;let bj:d.2.1.length<=20:=()
  let bl:os.length+d.2.1.length<=90:=by let:=u.lo;omega
  let pE:∀f,cV (q.map (·.1)) [] os d.2.1=.error f->TF cT cN cW E H f:=λf hf=>hE f (by rw[G,hf]);ext J av H9 k9 t9 bk;rw[av]at G
  let D:cz q M=match iQ q m O (wu (gm [] (d.2.1.map (·.1))) d.2.2)with
   |.error f=>Yb f
   |.ok g=>jq q (m++[(d.1,d.2.1.length)]) g J (M.drop (i+1)):=G
  let r9:Rp K H9 (JV (d.2.1.map λp=>(p.1,mX p.2))) v2:=by
   let:=q2.Z k9.sm;unfold JV;rw[Pz];exact this
  let q9:=q3.Z k9.sm;let b8:d.2.2.size<=160:=()
  let bi:(d.2.1.map λp=>(p.1,mX p.2)).length<=50:=by rw[bM];omega
  ext lp Ha ws sa Y ha ra;let a2:(d.2.1.map λp=>(p.1,mX p.2)).map (·.1)=d.2.1.map (·.1):=by rw[Pz];rfl
  rw[a2]at ra;generalize hpl:wu (gm [] (d.2.1.map (·.1))) d.2.2=pl at ra D;let bh:pl.length=d.2.2.size:=by rw[<-hpl];exact GS _ _ bw
  let ac:∀p∈pl,M6 p:=by
   rw[<-hpl];calc GR bw bt bs _ ?_;let:=n9 (d.2.1.map (·.1)) [];rw[bM]at this
   let:(gm [] (d.2.1.map (·.1))).length<=10:=by
    let z:([]:Yi Yg).length=0:=rfl;omega
   omega
  let T:=ra.length;rw[bM]at T;let ka:=k9.ext sa;let S:lp≠a.lG/\lp≠a.lO/\lp≠a.dD:=#[(au k9.gg Y).symm,(au k9.oo Y).symm,(au k9.dd Y).symm];let br:bA K Ha lp ws:=bA.of ha;ext;refine yf (K:=K) (xs:=ws) (λj I Hb=>(∃y7 y8,I=[Yb (.ref pa),Yb u1,Yb (.ref da),Yb (.ref o),Yb (.str d.1),Yb v2,Yb v3,y7,y8])/\∃g,OC C H o a q m O g J pl j Ha Hb) #[#[_,_,rfl],O,ka,kH.refl _ _,rfl,i5 _] ?_ ?_ ?_
  .rintro j I Hb hj ⟨_,g,y⟩;exact bA.of (y.t _ _ S.2.2 S.1 S.2.1 ha)
  .rintro j yv I Hb hyv ⟨⟨_,_,rfl⟩,g,y⟩;let(t,ht,ry):=ra.get' hyv;rw[vv]at ht;let(p,W,rfl):=ri.mp ht;let b5:=(bH.mp W).1;let(ns,tm):=p;let(hd,ks):=tm;let(b1,b2,b3,b4):=ac _ (xn W);let cc:cM hd ks.length=Yd:=b1;let cb:uL hd:=b2;let b9:ns.length+5*(Tm.mk hd ks).size<=900:=b4;let ca:(Tm.mk hd ks).size<=80:=b3;let lk:ks.length<=900:=by let:ks.length<_:=wB (.mk hd ks);omega
   let ln:ns.length<=900:=()
   let eb:=y.e;rw[Cn W]at eb
   let L:iQ q m O pl=match eK q m g ns hd ks.length with
    |.error f=>.error f
    |.ok g=>iQ q m g (pl.drop (j+1)):=eb
   let kb:=ka.vj y.t;let(ya,y1,y2,rfl,al,z1,z2):=(show Rp K Ha (.t [.t (ns.map .s),enc (.mk hd ks)]) yv from ry).t2;let a5:=al.kt kb;let bf:=z1.kt kb;let be:=z2.kt kb;let bq:=y.k;let bn:g.length<=900:=by let h1:=y.l;let h2:=u.lg;omega
   let tE:∀f,eK q m g ns hd ks.length=.error f->TF cT cN cW E H f:=λf hf=>by
    rw[hf]at L;rw[L]at D;exact hE f D
   ext a0 ag Hc kc tc;rw[ag]at L;exact#[#[_,_,rfl],a0,kc,y.t.trans tc,L,by let h1:=za ag;let h2:=y.l;omega]
  .rintro I Hb ⟨⟨_,_,rfl⟩,g,y⟩;let eb:=y.e;rw[T,Pa]at eb;rw[eb]at D;let a3:cz q M=jq q (m++[(d.1,d.2.1.length)]) g J (M.drop (i+1)):=D;let(va,aa,rfl,am,an):=q2.aS;let ab:=an.length;rw[bM]at ab;let a6:=am.Z y.k.sm;let a9:=y.k.ins;let a4:=y.k.dd
   let nw:∀kv∈m.map (λ(d:Yg×Nat)=>((Sum.inr d.1:Key),V.int (d.2:Int))),kv.1≠Sum.inr d.1:=λkv ax z=>by
    let(x,U,rfl):=O2.mp ax;let z':x.1=d.1:=PZ z;exact c (by rw[<-z',<-hnm];calc O6 U)
   let dp:oO Hb a.dD (.str d.1) (.int aa.length) (upd Hb a.dD (.dK ((m++[(d.1,d.2.1.length)]).map λd=>(Sum.inr d.1,.int d.2)))):=by
    let:=oO.k (k:=Sum.inr d.1) (v:=.int aa.length) a4 (aV (by rw[bM];omega));rw[mG nw]at this;rw[i4];rw[ab]at this|-;exact this
   let fin:Ny C H o a q M (i+1) (m++[(d.1,d.2.1.length)]) g J (upd Hb a.dD (.dK ((m++[(d.1,d.2.1.length)]).map λd=>(Sum.inr d.1,.int d.2)))):=by
    refine#[y.k.Ab _,a3,?_,?_,?_,?_]
    .rw[i4,hnm];exact X
    .rw[mu];show _+1<=_;omega
    .have h1:=y.l;let h2:=u.lg;rw[T]at h1;omega
    .have h2:=u.lo;omega
   ext;exact fin
 .rintro I H4 ⟨_,m,O,os,u⟩;let G:=u.e;rw[show ah.length=M.length by omega,Pa]at G;let fin:=k G H4 u.k.sm;ext;calc fin
end G15
namespace L2
open PySem PySem.Spec PyProof.Rows
def Cy {St:Nat->Heap->Prop}(W:Walks prog w A.in1 I fp wr n P St)(val:Nat->Int)(p:∀i v,P i v->∃b:Bool,v=.bool b/\val i=if b then 1 else 0)(hn:n<=1000)(S:Yh)(y:S∉fp):
  ∀(k i:Nat) (s:fy) (B:Tok) (c:Nat),n-i=k->i<=n->(0<=Sm val i/\Sm val i<=i)->St i s.heap->s.heap.get? S=Yb {cls:=.type "list",dict:=Yc,data:=.seq #[.int (Sm val i) B] c,slots:=#[]} ->
  (∀h' l t',(∀b o,b∉wr->b≠S->s.heap.get? b=Yb o->h'.get? b=Yb o)->R (.ok (.ret (.int (Sm val n) t'))) {s with heap:=h',toks:=l}) ->
  Qs (OM prog w) A (.builtin "sum.loop" #[[.ref I,.ref S,RK 0,RK 0],[]]) R s:=by
 let J:S∉wr:=λh=>y (W.sub _ h);intro k
 induction k with
 |zero =>
  intro i s B c T U Q j C L;let H:i=n:=()
  subst H;calc codeAny_builtin F.entry_sum_loop ?_;rw[Vy S7 _];show OH _ A.in1 (Wr (.ref S)>>=_) _ _ s;calc cB (Qv C rfl ?_);show OH _ A.in1 (tryCatch (S4 (.ref I)) _>>=_) _ _ s;calc cB (wpAny_tryCatch (W.done s _ _ j λh' l d=>?_));calc pC (L h' l B λb o g _ e=>d b o g e)
 |succ k ih =>
  intro i s B c T U Q j C L;let r:i<n:=()
  calc codeAny_builtin F.entry_sum_loop ?_;rw[Vy S7 _];show OH _ A.in1 (Wr (.ref S)>>=_) _ _ s;calc cB (Qv C rfl ?_);show OH _ A.in1 (tryCatch (S4 (.ref I)) _>>=_) _ _ s;calc cB (wpAny_tryCatch (W.item i s _ _ r j λv h' l Y q d=>?_));let(b,rfl,O):=p i v Y;let z:=d S _ J C;let N:0<=val i/\val i<=1:=by rw[O];cases b<;>decide
  let G:0<=Sm val (i+1)/\Sm val (i+1)<=((i+1:Nat):Int):=by
   show 0<=Sm val i+val i/\Sm val i+val i<=_;omega
  show OH _ A.in1 (if(_:Bool)=Yd then(mkInt (Sm val i+(if b then(1:Int)else 0))>>=_)else _) _ _ _;rw[<-O]
  split
  .refine cB (wpAny_mkInt ?_);show OH _ A.in1 (updateSeq S (λ_=>#[.int (Sm val i+val i) l])>>=_) _ _ _;calc cB ?_;refine wpAny_updateSeq z rfl (pC #[plainId_quiet S7 _,ih (i+1) _ l _ () r G (W.frame _ _ _ q λb X o e=>?_) (Ql _ z rfl) λM m D t=>?_])
   .exact(P1 _ _ (λh:S=b=>y (by rw[h];calc X))).trans e
   .exact L M m D λb o g u e=>t b o g u ((P1 _ _ (Rj u)).trans (d b o g e))
  .rename_i V
   calc absurd ?_ V;show((decide (-(2 ^ 63)<=val i)&&decide (val i<2 ^ 63))&&(decide (-(2 ^ 63)<=Sm val i+val i)&&decide (Sm val i+val i<2 ^ 63)))=Yd;simp only[Pd,decide_eq_true_eq];omega
def Cz (h:OH (OM prog w) A.in1 (Vo x) (λit d=>∃I l wr n P St val,it=.ref I/\Walks prog w A.in1 I l wr n P St/\St 0 d.heap/\(∀b∈l,b<d⁻¹) /\
   (∀i v,P i v->∃b:Bool,v=.bool b/\val i=if b then 1 else 0)/\n<=1000 /\
   ∀h' m t',(∀b o,b∉wr->d.heap.get? b=Yb o->h'.get? b=Yb o)->Q (.int (Sm val n) t') {d with heap:=h',toks:=m}) E s):
  OH (OM prog w) A (call (.builtin "sum") [x]) Q E s:=by
 calc call_function_tree F.kind_sum F.plain_sum F.entry_sum (F.args_sum1 _) ?_;unfold Ry.«sum»;simp only[OT,RJ];rw[if_neg (by decide)];calc cB (wpAny_of_eq (show Ry.Builtins.bindParams "sum" ["start"] 0 {}=pure [Yc]from rfl) ?_);calc cB (O1 h (λit d g=>?_) λ_ _ e=>e);let(I,l,wr,n,P,St,val,rfl,W,p,q,j,u,B):=g;calc cB (wpAny_mkInt ?_);calc cB (pC ?_);simp only[Sd,SK];calc cB (cB (cB (S6 (T:="int") (b:=Ye) (Sf _ _ _) F.sub_int_str ?_)));simp only[Q7,if_false];calc pC (cB (cB (S6 (T:="int") (b:=Ye) (Sf _ _ _) F.sub_int_bytes ?_)));simp only[Q7,if_false];calc pC (cB (cB (S6 (T:="int") (b:=Ye) (Sf _ _ _) F.sub_int_bytearray ?_)));simp only[Q7,if_false];calc pC (pC ?_);calc cB (Pr ?_);let t:d⁻¹∉l:=λy=>PN _ (q _ y)
 refine pC #[plainId_quiet S7 _,Cy W val j u d⁻¹ t n 0 _ d.toks 0 rfl (ON _) #[Int.le_refl _,Int.le_refl _]
  (W.frame _ _ _ p λb _ o e=>mH _ e) (OI _ rfl) λh' m t' z=>?_]
 calc B h' m t' λb o r e=>z b o r (OZ (OG e)) (mH _ e)
meta def KS(b:Bool):Int:=if b then 1 else 0
theorem qL (bs:Yi Bool):∀k,Sm (λi=>KS ((bs[i]?).getD Ye)) k=((bs.take k).map KS).sum
 |0=>by simp[Sm]
 |k+1=>by
  rw[Sm,qL bs k]
  by_cases h:k<bs.length
  .rw[i3 h,i4,List.sum_append,my h];simp
  .rw[Py (),Py (),SX ()];simp[KS]
def CA (D:X.calm=Yd):iL X (.builtin "sum") (λxs H Q=>∃(p:Yh) (bs:Yi Bool),xs=[.ref p]/\bA X.K H p (bs.map V.bl)/\bs.length<=1000/\Q (.int (bs.map KS).sum) H):=by
 intro m s J H xs L Q I r h;let(p,bs,rfl,z,B,q):=h;let(u,rfl,t):=vals1 r
 cases t
 let(d,o,y,O):=I.list z;let l:=tY o;let j:=y.isList;let g:p<s⁻¹:=by let(_,e,_):=j;exact OG e
 refine Cz (SA j ?_)
 refine#[s⁻¹,[s⁻¹,p],[s⁻¹],d.toArray.size,_,_,λi=>KS ((bs[i]?).getD Ye),rfl,Walks.list (A:=X.A.in1) (I.ok.hd D) _ p (OZ g) d.toArray,
  #[#[_,OI _ rfl,rfl,rfl],j.push _],λb hb'=>?_,λi v G=>?_,?_,λR M N C=>?_]
 .show b<(s.heap.push _).objs.size;rw[PL];rcases L0.mp hb' with rfl|hb'
  .exact QZ _
  .rcases L0.mp hb' with rfl|hb'
   .exact Ut g
   .cases hb'
 .have(b,e,rfl):=l.get i v (by simpa using G);exact#[b,rfl,by dsimp only;rw[e];rfl]
 .rw[I0,l.length];exact B
 .rw[qL,I0,l.length,OO];calc#[.int _,H,I.kept (LSm.kept_iter C),#[_,rfl],q]
meta def HY:V->Yi V->Hp->VK->Prop:=λx d H Q=>∃(l:Yh) (bs:Yi Bool) (c:Bool) (k:Nat),x=.ref l/\d=[.bl c]/\H l=Yb (.Y (bs.map V.bl))/\bs[k]?=Yb c/\(∀m,m<k->bs[m]?≠Yb c)/\Q (.int k) H
meta def eqB(c:Bool):eF->Bool
 |.bool x=>decide (x=c)
 |_=>Ye
def CB :Mg X "list.index" HY:=by
 intro t s U H x V v W Q I C D h;let(l,bs,c,k,rfl,rfl,R,B,g,q):=h
 cases C
 let(u,rfl,G):=D.one
 cases G
 let(z,J,n,r,Y,e):=I.yl R;let S:=yz r;subst S;let O:k<bs.length:=(bH.mp B).1;let p:k<(bs.map Value.bool).toArray.size:=by rw[I0,bM];exact O
 let L:bs.length<=lj:=by rw[bM]at z;exact z
 let d:(k:Int)<2 ^ 63-1:=by
  rw[RS]at L;omega
 refine RA F.slot_list_index #[_,e,rfl] F.entry_list_index (F.args_list_index_2 _ _)
  (SeqAt.list_indexAt l (bs.map Value.bool).toArray n Yc #[] (.bool c) (eqB c) k p d ?_ (λm N j=>?_)) #[e,λw M=>?_,?_]
 .rw[Vz,S5,(bH.mp B).2];simp[eqB]
 .have o:m<bs.length:=by rwa [I0,bM]at N
  rw[Vz,S5];exact decide_eq_false λz=>g m j (by rw[my o,z])
 .have(b,Z,rfl):=O2.mp (List.mem_toArray.mp M);let:=C1 (A:=X.A.in1) (s:=s) (y:=.bl b) (x:=.bl c) rfl rfl rfl rfl;let T:Fx (.bl b) (.bl c)=eqB c (.bool b):=by cases b<;>cases c<;>rfl
  rw[T]at this;exact this
 .exact#[.int k,H,I.tok _,#[_,rfl],q]
def EY :mV X (P5 .Is) (λx y H Q=>∃a b,x=.bl a/\y=.bl b/\Q (.bl (a == b)) H):=by
 intro d s j H x y v u Q I g e h;let(a,b,rfl,rfl,q):=h
 cases g
 cases e
 calc is_bool (cC I q rfl)
def HZ :mV X (P5 .IsNot) (λx y H Q=>∃a b,x=.bl a/\y=.bl b/\Q (.bl (!(a == b))) H):=by
 intro d s j H x y v u Q I g e h;let(a,b,rfl,rfl,q):=h
 cases g
 cases e
 calc isnot_bool (cC I q rfl)
meta def zo(H:Hp):Option (Yg×Yg)->V->Prop
 |none,v=>v=.bl Yd
 |some w,v=>∃p,v=.ref p/\H p=Yb (.Y [.str w.1,.str w.2])
meta def twOk:Option (Yg×Yg)->Prop
 |none=>True
 |some w=>(∀c∈w.1.cps.toList,c<1000)/\(∀c∈w.2.cps.toList,c<1000)/\w.1.length<=100/\w.2.length<=100
@[irreducible] noncomputable def Kx:Option (Yg×Yg)->Yg
 |none=>"True"
 |some w=>(PyData.list (T.FW [.s w.1,.s w.2])).shown
def CC (m:∀c∈a.cps.toList,c<1000)(l:∀c∈b.cps.toList,c<1000)(l1:a.length<=100)(l2:b.length<=100):Iv (.list (T.FW [.s a,.s b])):=by
 let e:T.FW [.s a,.s b]=[.str a,.str b]:=by simp[T.FW,T.py]
 rw[e]
 let d:∀{x:Yg},(∀c∈x.cps.toList,c<1000)->(x.cps.toList.all λc=>decide (c<16 ^ 8))=Yd:=λ{x} h=>by
  rw[Pj];intro c j;exact decide_eq_true (Nat.lt_trans (h c j) (by decide))
 let g:(PyData.list [.str a,.str b]).leavesShort 13=Yd:=by
  show((a.cps.toList.all λc=>decide (c<16 ^ 8))&&((b.cps.toList.all λc=>decide (c<16 ^ 8))&&Yd))=Yd;rw[d m,d l];rfl
 calc#[rfl,rfl,(by show max 0 (max 0 0)+1<=100;decide),PyData.shown_fits (B:=13) (by decide) (by decide) g ?_];show a.length+1+(b.length+1+0)<=2 ^ 20;omega
def mT (v:X.A.guards=Yb [])(m:X.A.units+150<SV):iL X (.builtin "repr") (λxs H Q=>∃x o,xs=[x]/\zo H o x/\twOk o/\Q (.str (Kx o)) H):=by
 intro d s g H xs j Q I r h;let(x,o,rfl,e,ok,q):=h
 cases o with
 |none =>
  obtain rfl:x=.bl Yd:=e;unfold Kx at q;let(u,rfl,l):=vals1 r
  cases l
  calc PySem.P.repr_of_bool #[.str _,H,I.tok _,#[_,rfl],q]
 |some w =>
  let(p,rfl,t):=e;let(z,y,l1,l2):=ok;unfold Kx at q;calc zQ v m d s g H _ j Q I r #[p,[.s w.1,.s w.2],_,rfl,bA.of t,.cons .s (.one .s),CC z y l1 l2,q]
end L2
namespace G15
open PySem L2 PyProof.Rows PySem.W
meta def ET(l m cW:Yh)(kl:Kl)(dl:Yi Df)(H:Hp):XK:=λd j g=>∃f e,cz kl dl=Yb f/\d=.ref (oU l m cW f.1)/\j=Yb e/\aR H g/\g e=Yb (.xd [("name",.str f.2)])
noncomputable instance:DecidableEq Er:=λa b=>match a,b with
 |.tw,.tw=>isTrue rfl
 |.nn,.nn=>isTrue rfl
 |.wr,.wr=>isTrue rfl
 |.tw,.nn=>isFalse nofun
 |.tw,.wr=>isFalse nofun
 |.nn,.tw=>isFalse nofun
 |.nn,.wr=>isFalse nofun
 |.wr,.tw=>isFalse nofun
 |.wr,.nn=>isFalse nofun
theorem _root_.L2.lA.Z {H d:Hp}{x C:Yh}{fs:Yi (Yg×V)}(e:lA H x C fs)(s:aR H d):lA d x C fs:=by
 rcases e with⟨e,h⟩|⟨dx,h1,h2⟩
 .exact .inl #[e,s _ _ h]
 .exact .inr #[dx,s _ _ h1,s _ _ h2]
meta def Na:Er->Nat
 |.tw=>0
 |.nn=>1
 |.wr=>2
structure Nz(K:bN) (cT cN cW G:Yh) (oth:Yi Yh):Prop where
 sub:∀e,xw K (oU cT cN cW e) G
 g:∀e,BZ K (oU cT cN cW e)
 one:∀e d,Tr K (.ref (oU cT cN cW e)) (.ref (oU cT cN cW d))=Yb (decide (e=d))
 any:∀e,WK K (.ref (oU cT cN cW e)) (oth.map Value.ref)=Yb Ye
 val:∀e,Tr K (.ref (oU cT cN cW e)) (.type "ValueError")=Yb Yd
 r:∀e,JC K (oU cT cN cW e) "name"
meta def twF(o:Option Flt):Option (Yg×Yg):=o.map λf=>(JP f.1,f.2)
meta def As(K:bN):Sp:=λm H Q _=>∃(v:V) (g:Kl) (e:Yi Df),m=[v]/\Rp K H (.t [.t (g.map jo),.t (e.map lB)]) v/\xY g/\e.length<=8/\(∀d∈e,LN d) /\
 ∀l j,aR H j->zo j (twF (cz g e)) l->Q l j
def dS :Nm Xj (ak nN):=by decide
def j9 :Lm Xj (ak nN):=by decide
def iS :aY Xj XG (ak nN):=by ac_rfl
def Ia {K:bN}(F:jn K "_law_told" "_law_told" nN f fd)(l:Zu "look_names" 6 X5 (Bs K cT cN cW) gL lfd)(C:Nz K cT cN cW G [o0,o1,o2,o3,o4,o5])(m_GapError:mg "GapError"=Yb (.ref G))(m_Twice:mg "Twice"=Yb (.ref cT))(m_NoName:mg "NoName"=Yb (.ref cN))(m_WrongCount:mg "WrongCount"=Yb (.ref cW))(m_BadText:mg "BadText"=Yb (.ref o0))(m_Clash:mg "Clash"=Yb (.ref o1))(m_NoGap:mg "NoGap"=Yb (.ref o2))(m_NoRow:mg "NoRow"=Yb (.ref o3))(m_TooLong:mg "TooLong"=Yb (.ref o4))(m_TooMany:mg "TooMany"=Yb (.ref o5))(z_isinstance:mg "isinstance"=Yc)(z_ValueError:mg "ValueError"=Yc)(z_sum:mg "sum"=Yc)(z_int:mg "int"=Yc):Zt gz 7 f fd XG (As K):=by
 refine F.Ou iS (λvs H Q E h=>?_) (λcdv A outer s H vs Q E hr h=>?_)
 .have(_,_,_,rfl,_):=h;rfl
 let(v,y,R,rfl,r,hB,ld,hD,kq):=h;let kf:∀f,cz y R=Yb f->∀S d,aR H d->nu d (Yb f) S->Q S d:=λf I S d t ft=>kq S d t (by rw[I];calc ft);let ko:cz y R=Yc->∀d,aR H d->Q (.bl Yd) d:=λZ d t=>kq _ d t (by rw[Z];calc rfl)
 refine#[_,(rB (PS.top (sa iS.nd j9 1 gw))
  (rB (PS.top (sa iS.nd j9 2 gw))
  (rB (JG (E':=(ET cT cN cW y R H)) (i:=3) rfl rfl rfl (Zd (Z4 iS.nd j9 2 (@eN _ _ _ _ _ _ _ _ _ _ _ _ _ _ _ _ l.ok (hr.mono ()) (by left) l.at' l.kp l.bd .nil jK (Zc (va dS 0)) (by decide) (by rfl) (by rfl)))) (by left) m_GapError iS.nd rfl (by kernel_rfl) (λ_=>(Zd (sa iS.nd j9 1 (va dS 3)))))
  (rL.top (Z5 (Z8 (Zn qT (va dS 1) gw) (Zd (Zp (Zh aZ (Zq (Z1 (Zk (Z1 aD (Zc (va dS 2)))) (Zc nA))) (Z9 iM z_int P8 (Z1 (jA EY (va dS 2) nA (bz _)) aA)))))) (Z5 (Z4 iS.nd j9 4 (Zq (Z1 (Z2 nU z_isinstance P4 (Z1 (va dS 1) (Zc (iB (v:=.ref cT) (by left) m_Twice rfl)))) (Z1 (Z2 nU z_isinstance P4 (Z1 (va dS 1) (Zc (iB (v:=.ref cN) (by left) m_NoName rfl)))) (Z1 (Z2 nU z_isinstance P4 (Z1 (va dS 1) (Zc (iB (v:=.ref cW) (by left) m_WrongCount rfl)))) aA))))) (Z5 (Z4 iS.nd j9 5 (Z2 xA z_isinstance P4 (Z1 (va dS 1) (Z1 (Zk (Z1 (iB (v:=.ref o0) (by left) m_BadText rfl) (Z1 (iB (v:=.ref o1) (by left) m_Clash rfl) (Z1 (iB (v:=.ref o2) (by left) m_NoGap rfl) (Z1 (iB (v:=.ref o3) (by left) m_NoRow rfl) (Z1 (iB (v:=.ref o4) (by left) m_TooLong rfl) (Zc (iB (v:=.ref o5) (by left) m_TooMany rfl)))))))) aA)))) (Z5 (Z8 (PW.pt (@pX _ _ _ _ _ _ _ (tJ (va dS 5)) (@pX _ _ _ _ _ _ _ (@zw _ _ _ _ (@tJ _ _ _ (Z2 xx z_isinstance P4 (Z1 (va dS 1) (Zc (Aw (v:=.ty "ValueError") (by left) z_ValueError (by decide) rfl)))) (by intro _;rfl))) (@pA _ _ _ _ (Zg qc (Z2 (CA rfl) z_sum Vl (Zc (va dS 4))) aB (bz _)))))) (cA (cS aD))) (Zd (Zp (Zq (Z1 (Zh aZ (Zq (Z1 aD (di aD (Zc aD)))) (yk Rw PySem.F.slot_list_index PySem.F.type_list_index CB (va dS 4) (Zc nA))) (Zc (DI (va dS 1))))))))))))))),?_]
 right
 let eE:∀f,cz y R=Yb f->TF cT cN cW (ET cT cN cW y R H) H f:=λf I o d t h0 h'=>#[f,o,I,rfl,rfl,t,h'];ext
 .ext;intro Z H1 X;let fin:=ko Z;ext;calc nw λp1 H2 q ab ah=>?_;ext;calc nw λp2 H3 p O ag=>?_;let h3:bA K H3 p2 [.ref p1,.bl Yd]:=bA.of O;let L:=fin _ ((X.trans q).trans p);let a1:dZ [V.ref p1,V.bl Yd] 1=Yb (V.bl Yd):=aF (j:=1) rfl;ext;calc .inr #[_,rfl,?_];ext;exact L
 rintro cls od H1 ⟨f,o,I,rfl,rfl,X,hx⟩;calc#[_,rfl,C.sub f.1,λx z=>?_];let nx:o≠x:=au hx z;let q:=ae z (.ext (vh x (oU cT cN cW f.1) (Yb o)));let e2:lA (upd H1 x (.ext (vh x (oU cT cN cW f.1) (Yb o)))) x (oU cT cN cW f.1) [("name",.str f.2)]:=.inr #[o,af,q _ _ hx];generalize upd H1 x (.ext (vh x (oU cT cN cW f.1) (Yb o)))=H2 at q e2|-;let g:=C.g f.1;let k1:Tr K (.ref (oU cT cN cW f.1)) (.ref cT)=_:=C.one f.1 .tw;let k2:Tr K (.ref (oU cT cN cW f.1)) (.ref cN)=_:=C.one f.1 .nn;let k3:Tr K (.ref (oU cT cN cW f.1)) (.ref cW)=_:=C.one f.1 .wr;let k4:=C.any f.1;let k5:=C.val f.1;let k6:=C.r f.1;ext
 first|(intro u B)|(dsimp only[Nc,iJ,behind,Ends.wn];ext u B)
 let p:=ae B (.Y [.bl (decide (f.1=.tw)),.bl (decide (f.1=.nn)),.bl (decide (f.1=.wr))]);let h3:upd H2 u (.Y [.bl (decide (f.1=.tw)),.bl (decide (f.1=.nn)),.bl (decide (f.1=.wr))]) u=Yb (.Y ([decide (f.1=.tw),decide (f.1=.nn),decide (f.1=.wr)].map V.bl)):=af;let e3:=e2.Z p;generalize upd H2 u (.Y [.bl (decide (f.1=.tw)),.bl (decide (f.1=.nn)),.bl (decide (f.1=.wr))])=H3 at p h3 e3|-;ext;calc nw λp4 H4 U N ad=>?_;let h4:bY K H4 p4 ([o0,o1,o2,o3,o4,o5].map V.ref):=bY.of N;let e4:=e3.Z U;let J:=U _ _ h3;let aa:bA K H4 u ([decide (f.1=.tw),decide (f.1=.nn),decide (f.1=.wr)].map V.bl):=bA.of J;let W:=(X.trans q).trans (p.trans U);let l3:[decide (f.1=.tw),decide (f.1=.nn),decide (f.1=.wr)].length<=1000:=by show 3<=1000;decide
 let sm:([decide (f.1=.tw),decide (f.1=.nn),decide (f.1=.wr)].map KS).sum=1:=by
  let(e,n):=f
  cases e<;>rfl
 let hk:[decide (f.1=.tw),decide (f.1=.nn),decide (f.1=.wr)][Na f.1]?=Yb Yd:=by
  let(e,n):=f
  cases e<;>rfl
 let ai:∀m,m<Na f.1->[decide (f.1=.tw),decide (f.1=.nn),decide (f.1=.wr)][m]?≠Yb Yd:=by
  let(e,n):=f
  cases e with
  |tw=>intro m D;calc absurd D (Nat.not_lt_zero _)
  |nn =>
   intro m D;obtain rfl:m=0:=Nat.lt_one_iff.mp D;calc nofun
  |wr =>
   intro m D
   match m,D with
   |0,_=>calc nofun
   |1,_=>exact nofun
 let ha:dZ [V.str "twice",V.str "noname",V.str "wrong"] (Na f.1)=Yb (.str (JP f.1)):=by
  let(e,n):=f
  cases e
  .exact aF (j:=0) rfl
  .exact aF (j:=1) rfl
  .exact aF (j:=2) rfl
 let fin:=kf f I;ext;rw[sm];ext;calc nw λp5 H5 T M ac=>?_;let h5:bA K H5 p5 [.str "twice",.str "noname",.str "wrong"]:=bA.of M;let aj:=T _ _ J;let e5:=e4.Z T;ext p6 Y;let s6:=ae Y (.Y [.str (JP f.1),.str f.2]);calc fin _ _ ((W.trans T).trans s6) #[p6,rfl,af]
end G15
namespace G15
open PySem L2
def bS :Nm WU (ak i9):=by decide
def gq :Lm WU (ak i9):=by decide
def fP :aY WU XG (ak i9):=by ac_rfl
def uW {P:we}{w:OR}{K:bN}{mg:Yg->Option eF}{base:Heap}{gF gH:Yh}{ffd hfd:EF}{n j:Nat}(hj:4<=j){f:Yh}{cdv:eF}{A:OW}{outer:Yi Qp}{s:fy}{H1:Hp}{E:XK}(a5:Za "_law_kind_fault" 2 Xi (qE K) gF ffd)(a4:Za "_law_term_fault" j WW (uQ K n) gH hfd)(aa:mg "len"=Yc)(hr:dU j (A.deeper (OV "_law_due" (ak i9) s⁻¹ f cdv))){D:L2.Ends}{H0 H:Hp}{S:mY}{kl:Kl}{dl:Yi Df}{i:Nat}{d:Df}{pv I pav tv:V}{o6 o7 o8:Option V}(hdi:dl[i]?=Yb d)(hB:xY kl)(hD:Mt n dl)(rp:Rp K H (.t (d.2.1.map DP)) pav)(rt:Rp K H (enc d.2.2) tv)(sm:aR H0 H)(st:LP H0 S kl dl i d Yc 0 I H)(k:∀an o6 o7 o8 J,Kt H J->JY H0 S kl dl (i+1) an J->D.nx [Yb pv,Yb (.ref S.d),Yb an,Yb (.str d.1),Yb pav,Yb tv,o6,o7,o8] J):
  jL (Zl gz WU "_law_due" (ak i9) H1).pB ((forA ((bx i9).drop 2)).drop 1) D [Yb pv,Yb (.ref S.d),Yb I,Yb (.str d.1),Yb pav,Yb tv,o6,o7,o8] H:=by
 refine fg ((Z5 (sa fP.nd gq 6 (dH aA)) (Z5 (Zj O8 (cG (va bS 4)) (Zb (2) (Zf (ga fP.nd gq 7) (Zs (ga fP.nd gq 8)))) (Z5 (Z8 (PW.pt (@ir _ _ _ _ _ _ _ (Zn qT (va bS 2) gw) (@fQ _ _ _ _ (ou eB (va bS 7) (va bS 6) (by rfl'))))) (Zd (Z4 fP.nd gq 2 (Zq (Z1 aD (Zc (va bS 7))))))) (Z5 (Zo (Z7 (va bS 6) (Zc (va bS 7)))) (Zd (Z8 (Zn qT (va bS 2) gw) (Zd (Z4 fP.nd gq 2 (Z0 a5 (Z1 (va bS 1) (di (va bS 8) (Zc nA))))))))))) (Z5 (Z8 (Zn qT (va bS 2) gw) (Zd (Z4 fP.nd gq 2 (Z0 a4 (Z1 (va bS 1) (Z1 (va bS 5) (Zc (va bS 6)))))))) (Zd (@qj _ _ _ _ _ _ _ _ _ (gJ hr) (Zi (va bS 1)) (va bS 3) (Zk (Z1 (va bS 3) (Z1 (Z2 aM aa OS (Zc (va bS 4))) aA))) (by rfl))))))) ?_
 right
 let az:=(bH.mp hdi).1;let be:i<8:=OJ az hD.1;let((bw,bt,bs,bp),bd):=hD.2 d (xn hdi);let(pa,g,rfl,ar,aj):=rp.aS;let R:=aj.length;rw[bM]at R;ext l hl;let s2:=ae hl (.Y []);let h2:upd H l (.Y []) l=Yb (.Y []):=af;let l0:H0 l=Yc:=sm.free hl
 let ah:LP H0 S kl dl i d (Yb l) 0 I (upd H l (.Y [])):=by
  cases st with
  |bad f p u w e2 e3 _=>calc .bad f p u (w.ext s2) e2 (s2 _ _ e3) (λz=>(au e3 hl) (OL z).symm)
  |good ds gs os u sc ld lg lo nd nm _ e2=>exact .good ds gs os u (sc.ext s2) ld lg lo nd nm (λa ha=>#[ds,gs,os,H,sc,OL ha▸hl]) e2
 let L:=ar.Z s2;generalize upd H l (.Y [])=H2 at s2 h2 ah L|-;ext;refine eY (K:=K) (xs:=g) (λq σ B=>∃I o7 o8,σ=[Yb pv,Yb (.ref S.d),Yb I,Yb (.str d.1),Yb (.ref pa),Yb tv,Yb (.ref l),o7,o8]/\M7 H0 S kl dl i d l q H2 I B) #[_,_,_,rfl,Kt.refl,h2,ah] ?_ ?_ ?_
 .rintro q σ B hq ⟨_,_,_,_,O,_,_⟩;exact L.kt O
 .rintro q xv σ B hxv ⟨I,o7,o8,rfl,⟨O,U,ab⟩⟩;let(t,ht,rx):=aj.get' hxv;rw[vv]at ht;let(p,hp,rfl):=ri.mp ht;let ax:=(bH.mp hp).1;let ao:d.2.1.take (q+1)=d.2.1.take q++[p]:=by rw[i3 ax,(bH.mp hp).2]
  let r:=(Kt.Z s2).trans O;let(ka,k1,k2,rfl,aw,g1,g2):=(show Rp K H (.t [.s p.1,mX p.2]) xv from rx).t2;obtain rfl:=g1.aL;let a6:=aw.kt r;let a2:=g2.kt r;let fl:=iP ((d.2.1.take q).map (·.1));let iv:=kG (x:=p.1) (xs:=(d.2.1.take q).map (·.1));let et:(((d.2.1.take (q+1)).map (·.1)).map V.str)=((d.2.1.take q).map (·.1)).map V.str++[.str p.1]:=by rw[ao];simp
  let a7:bA K B l (((d.2.1.take q).map (·.1)).map V.str):=bA.of U;let ll:(((d.2.1.take q).map (·.1)).map V.str).length<lj:=aV (by rw[bM,bM,x9];omega)
  cases ab with
  |bad f m u w e2 e3 n =>
   subst e2;let np:m≠l:=λz=>n (by rw[z]);let fin:M7 H0 S kl dl i d l (q+1) H2 (.ref m) (upd B l (.Y (((d.2.1.take q).map (·.1)).map V.str++[.str p.1]))):=#[O.trans (Kt.Y U _),by rw[af,et],.bad f m u (w.other l0 U _) rfl (by rw[ay np];calc e3) n];ext;calc fin
  |good ds gs os u sc ld lg lo nd nm ow e2 =>
   subst u;let(a3,a1,as,HB,C,G):=ow l rfl;let ac:=sc.other C G U (((d.2.1.take q).map (·.1)).map V.str++[.str p.1]);let N:Kt B (upd B l (.Y (((d.2.1.take q).map (·.1)).map V.str++[.str p.1]))):=Kt.Y U _;let h4:upd B l (.Y (((d.2.1.take q).map (·.1)).map V.str++[.str p.1])) l=Yb (.Y (((d.2.1.take (q+1)).map (·.1)).map V.str)):=by rw[af,et]
   let bf:=a2.kt N;rw[se hp]at e2;ext;refine bP (λc=>?_) (λc=>?_)
   .have hm:p.1∈(d.2.1.take q).map (·.1):=by
     let c':nh (.str p.1) (((d.2.1.take q).map (·.1)).map V.str)=Yd:=c;rw[iv]at c';exact of_decide_eq_true c'
    rw[if_pos hm]at e2;ext m T;let y:=ae T (.Y [.str "twice",.str p.1]);let h5:upd B m (.Y [.str "twice",.str p.1]) m=Yb (.Y [.str "twice",.str p.1]):=af;let n5:m≠l:=(au U T).symm;let ag:=y _ _ U;let w5:=(sc.ext y).w ld;let Z:Kt H2 (upd B m (.Y [.str "twice",.str p.1])):=O.trans (Kt.Z y);generalize upd B m (.Y [.str "twice",.str p.1])=H5 at y h5 ag w5 Z|-;let fin:M7 H0 S kl dl i d l (q+1) H2 (.ref m) (upd H5 l (.Y (((d.2.1.take q).map (·.1)).map V.str++[.str p.1]))):=#[Z.trans (Kt.Y ag _),by rw[af,et],.bad (.tw,p.1) m e2 (w5.other l0 ag _) rfl (by rw[ay n5];calc h5) (λz=>n5 (OL z).symm)];ext;exact fin
   .have hm:p.1∉(d.2.1.take q).map (·.1):=λz=>c (by show nh (.str p.1) (((d.2.1.take q).map (·.1)).map V.str)=Yd;rw[iv];calc decide_eq_true z);rw[if_neg hm]at e2;let a9:os.length<=100:=()
    ext
    first|(focus (intro z;cases z;done))|skip
    refine λ_=>#[λf hf v' J s' ft fp=>?_,λav ho J ad W=>?_]
    .rw[hf]at e2;let(m,rfl,T):=ft;let n5:m≠l:=(au h4 (fp m rfl)).symm;exact#[_,_,_,rfl,(O.trans N).trans (Kt.Z s'),s' _ _ h4,.bad f m e2 ((ac.ext s').w ld) rfl T (λz=>n5 (OL z).symm)]
    .rw[ho]at e2;let nl:l≠S.lg/\l≠S.lo:=#[(au C.hg G).symm,(au C.ho G).symm];refine#[_,_,_,rfl,(O.trans N).trans (ac.vj W),ac.zc W h4 nl,.good ds gs av rfl ad ld lg ?_ nd nm ow ?_]
     .have:=Cq ho;omega
     .rw[ao,i4];exact e2
 .rintro σ B ⟨I,o7,o8,rfl,⟨O,U,ab⟩⟩;rw[R,OO]at U;let Y:=L.kt O;let r:=(Kt.Z s2).trans O;let a8:=rt.kt r
  let X:∀{I:V}{f:Flt}{m o:Yh}{H4:Hp}{dv:Yi (Key×V)},cz kl dl=Yb f->sU H0 S i H4->I=.ref m->H4 m=Yb (.Y [.str (JP f.1),.str f.2])->H4 S.dd=Yb (.dK dv)->dv.length<=i->JY H0 S kl dl (i+1) I (upd H4 S.dd (.dK (putK dv (Sum.inr d.1) (.ref o)))):=λ{I f m o H4 dv} e w ev hp hd ld=>by
   refine .bad f e ((w.le (Pc _)).Ab ?_) #[m,ev,?_]
   .exact OX Es (Q0 ld)
   .rw[ay (λz=>by rw[z,hd]at hp;cases hp)];exact hp
  cases ab with
  |bad f m u w e2 e3 n =>
   subst e2;let(dv,d1,d2):=w.hd;ext o M;let s4:=ae M (.J [.str d.1,.int g.length]);let w4:=w.ext s4;let h4:=s4 _ _ d1;let e4:=s4 _ _ e3;let N:Kt H (upd B o (.J [.str d.1,.int g.length])):=r.trans (Kt.Z s4);generalize upd B o (.J [.str d.1,.int g.length])=H4 at s4 w4 h4 e4 N|-;let gd:=fj w4.sd (mK S);let dp:=oO.k (k:=Sum.inr d.1) (v:=.ref o) h4 (aV ());ext;calc k _ _ _ _ _ (N.trans (Kt.upd h4 ⋯ (λ_ _ z=>nomatch z) _)) (X u w4 rfl e4 h4 d2)
  |good ds gs os u sc ld lg lo nd nm ow e2 =>
   subst u;rw[R,OO,Pa]at e2;let ap:cz kl dl=om kl ds gs d (dl.drop (i+1)) (.ok os):=e2;let(a3,a1,as,HB,C,G):=ow l rfl;let nl:l≠S.lg/\l≠S.lo:=#[(au C.hg G).symm,(au C.ho G).symm];let ln:(d.2.1.map (·.1)).length+5*d.2.2.size<=900:=by rw[bM];omega
   let ba:gs.length+d.2.2.size<=900:=()
   ext
   .intro f hf v' J w' W ft;let(m,rfl,e4):=ft;let u:cz kl dl=Yb f:=by rw[ap];unfold om;dsimp only;rw[hf]
    let ai:=Y.kt (sc.vj W);let N:=r.trans (sc.vj W);let(dv,d1,d2):=w'.hd;ext o M;let y:=ae M (.J [.str d.1,.int g.length]);let w5:=(w'.le ld).ext y;let h5:=y _ _ d1;let e5:=y _ _ e4;let Z:Kt H (upd J o (.J [.str d.1,.int g.length])):=N.trans (Kt.Z y);generalize upd J o (.J [.str d.1,.int g.length])=H5 at y w5 h5 e5 Z|-;let gd:=fj w5.sd (mK S);let dp:=oO.k (k:=Sum.inr d.1) (v:=.ref o) h5 (aV ());ext;exact k _ _ _ _ _ (Z.trans (Kt.upd h5 ⋯ (λ_ _ z=>nomatch z) _)) (X u w5 rfl e5 h5 (OX d2 ld))
   intro am a0 J ad W bb;let u:cz kl dl=jq kl (ds++[(d.1,d.2.1.length)]) am os (dl.drop (i+1)):=by rw[ap];unfold om;dsimp only;rw[a0]
   let ai:=Y.kt (sc.vj W);let N:=r.trans (sc.vj W);ext o M;let y:=ae M (.J [.str d.1,.int g.length]);let Q:=ad.ext y;let al:upd J o (.J [.str d.1,.int g.length]) o=Yb (.J [.str d.1,.int (d.2.1.length:Nat)]):=by rw[af,R]
   let Z:Kt H (upd J o (.J [.str d.1,.int g.length])):=N.trans (Kt.Z y);generalize upd J o (.J [.str d.1,.int g.length])=H5 at y Q al Z|-;let(dv,d1,d2):=Q.hd;let gd:=fj Q.sd (mK S);let bc:=d2.length;let dp:=oO.k (k:=Sum.inr d.1) (v:=.ref o) d1 (aV ())
   let vn:cZ dv (Sum.inr d.1)=Yc:=by
    let:=xG (x:=d.1) d2;rw[decide_eq_false nm]at this;exact Option.not_isSome_iff_eq_none.mp (by rw[this];calc OP)
   rw[C7 _ vn]at dp;let aq:=Q.Ab (x:=(d.1,d.2.1.length)) d1 d2 al;ext;refine k _ _ _ _ _ (Z.trans (Kt.upd d1 ⋯ (λ_ _ z=>nomatch z) _)) (.good _ am os rfl aq ?_ ?_ ?_ nd u)
   .rw[mu];exact Q0 ld
   .omega
   .omega
def zp {P:we}{w:OR}{K:bN}{mg:Yg->Option eF}{base:Heap}{gF gH:Yh}{ffd hfd:EF}{n j:Nat}(hj:4<=j){f:Yh}{cdv:eF}{A:OW}{outer:Yi Qp}{s:fy}{H1:Hp}{E:XK}(B:Za "_law_kind_fault" 2 Xi (qE K) gF ffd)(y:Za "_law_term_fault" j WW (uQ K n) gH hfd)(e:mg "len"=Yc)(hr:dU j (A.deeper (OV "_law_due" (ak i9) s⁻¹ f cdv))){D:L2.Ends}{H0 H:Hp}{S:mY}{kl:Kl}{dl:Yi Df}{pa:Yh}{kv U p:V}{o3 o4 Z J I G:Option V}(hB:xY kl)(hD:Mt n dl)(psq:bY K H pa [kv,U])(rd0:Rp K H (.t (dl.map lB)) U)(st:JY H0 S kl dl 0 p H)(k:∀v' L,aR H0 L->nu L (cz kl dl) v'->D.rt v' L):
  jL (Zl gz WU "_law_due" (ak i9) H1).pB ((bx i9).drop 2) D [Yb (.ref pa),Yb (.ref S.d),Yb p,o3,o4,Z,J,I,G] H:=by
 refine fg ((Z5 (Zj O8 (@cG _ _ _ _ (Z6 aI (va bS 0))) (Zb (3) (Zf (ga fP.nd gq 3) (Zf (ga fP.nd gq 4) (Zs (ga fP.nd gq 5))))) (Z5 (Z8 (PW.pt (@ir _ _ _ _ _ _ _ (Zn qT (va bS 2) gw) (@fQ _ _ _ _ (Zg (Af (gJ hr)) (va bS 3) (Zi (va bS 1)) (by rfl'))))) (Zd (Z4 fP.nd gq 2 (Zq (Z1 aD (Zc (va bS 3))))))) dz)) (Zd (cS (va bS 2))))) ?_
 right
 let(da,ab,rfl,ac,Q):=rd0.aS;let N:=Q.length;rw[bM]at N;ext;refine eY (K:=K) (xs:=ab) (λi R C=>∃p o3 o4 Z J I G,R=[Yb (.ref pa),Yb (.ref S.d),Yb p,o3,o4,Z,J,I,G]/\Nr H0 S kl dl i H p C) #[_,_,_,_,_,_,_,rfl,Kt.refl,st] ?_ ?_ ?_
 .rintro q R C hq ⟨_,_,_,_,_,_,_,_,v,_⟩;exact ac.kt v
 .rintro i xv R C hxv ⟨p,_,_,_,_,_,_,rfl,⟨v,m⟩⟩;let(t,ht,rx):=Q.get' hxv;rw[vv]at ht;let(d,o,rfl):=ri.mp ht;let(qa,v1,v2,v3,rfl,X,q1,q2,q3):=(show Rp K H (.t [.s d.1,.t (d.2.1.map DP),enc d.2.2]) xv from rx).t3;obtain rfl:=q1.aL;let ad:=X.kt v;let u:=q2.kt v;let r:=q3.kt v;let go:∀{l:V}{H4:Hp},Kt C H4->JY H0 S kl dl (i+1) l H4->Nr H0 S kl dl (i+1) H l H4:=λk4 W=>#[v.trans k4,W]
  cases m with
  |bad f e1 w ft =>
   let(Y,rfl,e3):=ft;ext
   (try calc Cut.go (by assumption) ?_);calc uW hj B y e hr o hB hD u r w.sm (.bad f Y e1 w rfl e3 nofun) (λl J I G L O g=>#[_,_,_,_,_,_,_,rfl,go O g])
  |good ds gs os e1 sc ld lg lo nd e2 =>
   subst e1;rw[wD o]at e2;let(U,d1,d2):=sc.hd;let gd:=fj sc.sd (mK S);let dg:cF C S.dd (.str d.1) (cZ U (Sum.inr d.1)):=cF.k (k:=Sum.inr d.1) d1;let vk:=xG (x:=d.1) d2;ext;refine bP (λc=>?_) (λc=>?_)
   .have T:d.1∈ds.map (·.1):=by rw[vk]at c;exact of_decide_eq_true c
    rw[if_pos T]at e2;ext Y aa;let M:=ae aa (.Y [.str "twice",.str d.1])
    (try calc Cut.go (by assumption) ?_);exact uW hj B y e hr o hB hD (u.Z M) (r.Z M) (sc.sm.trans M) (.bad (.tw,d.1) Y e2 ((sc.ext M).w ld) rfl af nofun) (λl J I G L O g=>#[_,_,_,_,_,_,_,rfl,go ((Kt.Z M).trans O) g])
   .have T:d.1∉ds.map (·.1):=λz=>c (by rw[vk];calc decide_eq_true z);rw[if_neg T]at e2;ext
    (try calc Cut.go (by assumption) ?_);exact uW hj B y e hr o hB hD u r sc.sm (.good ds gs os rfl sc ld lg lo nd T ⋯ e2) (λl J I G L O g=>#[_,_,_,_,_,_,_,rfl,go O g])
 .rintro R C ⟨p,_,_,_,_,_,_,rfl,⟨v,m⟩⟩;rw[N]at m
  let fin:D.rt p C:=by
   cases m with
   |bad f e1 w ft=>calc k _ _ w.sm (by rw[e1];calc ft)
   |good ds gs os e1 sc ld lg lo nd e2 =>
    rw[Pa]at e2;exact k _ _ sc.sm (by rw[e2];calc e1)
  ext;calc fin
meta def KU(j g d e l:Yh):Yi (Key×V):=E8 #[0,j,g,d,e,l,[]]
def Ky (j g d e l:Yh):pK [] (KU j g d e l)=KU j g d e l:=by kernel_rfl
def Kz (hj:4<=j)(F:jn K "_law_due" "_law_due" i9 f fd)(an:Za "_law_kinds_fault" 3 XW (yV K) gS sfd)(ab:Za "_law_kind_fault" 2 Xi (qE K) gF ffd)(aa:Za "_law_term_fault" j WW (uQ K n) gH hfd)(q:mg "len"=Yc):
  Zt gz (j+1) f fd XG (Ep K n):=by
 refine F.ok fP (λvs H Q E h=>?_) (λcdv A outer s H vs Q E hr h=>?_)
 .have(_,_,_,rfl,_):=h;rfl
 let(v,kl,dl,rfl,r,hB,hD,k):=h;refine#[_,(Z5 (Z4 fP.nd gq 1 (@zh _ _ _ _ _ _ _ _ _ _ _ _ _ _ _ _ _ _ _ _ _ _ aD (@qk _ _) aD (@qk _ _) aD (dH aA) aD (dH aA) aD (@qk _ _))) (Z5 (Z4 fP.nd gq 2 (Z0 an (Z1 (va bS 1) (Z1 (Z6 aI (va bS 0)) aA)))) dz)),?_]
 right
 let(pa,u1,u2,rfl,aj,g1,g2):=r.t2;ext d hd;let J:=ae hd (.dK []);let Y:upd H d (.dK []) d=Yb (.dK []):=af;generalize upd H d (.dK [])=H1 at J Y|-;ext l M;let D:=ae M (.dK []);let h2:upd H1 l (.dK []) l=Yb (.dK []):=af;generalize upd H1 l (.dK [])=H2 at D h2|-;ext g B;let C:=ae B (.dK []);let h3:upd H2 g (.dK []) g=Yb (.dK []):=af;generalize upd H2 g (.dK [])=H3 at C h3|-;ext o U;let y:=ae U (.Y []);let h4:upd H3 o (.Y []) o=Yb (.Y []):=af;generalize upd H3 o (.Y [])=H4 at y h4|-;ext p L;let u:=ae L (.Y []);let h5:upd H4 p (.Y []) p=Yb (.Y []):=af;generalize upd H4 p (.Y [])=H5 at u h5|-;ext m t;let N:=ae t (.dK []);let h6:upd H5 m (.dK []) m=Yb (.dK []):=af;generalize upd H5 m (.dK [])=H6 at N h6|-;let R:=(((D.trans C).trans y).trans u).trans N;let ah:=((C.trans y).trans u).trans N;let ag:=(y.trans u).trans N;let ad:=u.trans N;let ai:=J.trans R;let am:=R _ _ Y;let al:=ah _ _ h2;let ak:=ag _ _ h3;let W:=ad _ _ h4;let X:=N _ _ h5;let f2:H l=Yc:=J.free M;let f3:H g=Yc:=(J.trans D).free B;let f4:H o=Yc:=((J.trans D).trans C).free U;let f5:H p=Yc:=(((J.trans D).trans C).trans y).free L;let f6:H m=Yc:=((((J.trans D).trans C).trans y).trans u).free t;let n1:d≠l:=au Y M;let n2:d≠g:=au (D _ _ Y) B;let n3:d≠m:=au (u _ _ (y _ _ (C _ _ (D _ _ Y)))) t;let n4:l≠g:=au h2 B;let n5:l≠m:=au (u _ _ (y _ _ (C _ _ h2))) t;let n6:g≠m:=au (u _ _ (y _ _ h3)) t;let n7:o≠p:=au h4 L;let nl:∀{c:Yh}{us:Yi V},H6 c=Yb (.Y us)->c≠d:=λe=>jB e am nofun
 ext
 .exact(show _=(KU l g o p m).map (λkv=>(kV kv.1,kv.2))from rfl)
 calc#[by show 5<=15;decide,?_];rw[Ky];let O:aR H (upd H6 d (.dK (KU l g o p m))):=ai.oR hd _;let I:eL H #[d,l,g,o,p,m,[]] [] [] [] [] [] (upd H6 d (.dK (KU l g o p m))):=#[#[hd,f2,f3,f4,f5,f6,n4,n5,n6,n1,n2,n3,n7],O,af,by show upd _ _ _ l=_;rw[ay n1.symm];exact al,.nil,#[[],by show upd _ _ _ g=_;rw[ay n2.symm];calc ak,.nil],#[[],by show upd _ _ _ m=_;rw[ay n3.symm];calc h6,.nil],by show upd _ _ _ p=_;rw[ay (nl X)];exact X,by show upd _ _ _ o=_;rw[ay (nl W)];calc W];generalize upd H6 d (.dK (KU l g o p m))=H7 at O I|-;let G:=aj.Z O;let ao:=g1.Z O;let Z:=g2.Z O;ext
 .intro f hf v' H' w' t' ft;let T:=I.vj t';let e1:cz kl dl=Yb f:=by unfold cz;rw[hf]
  ext;exact zp (S:=#[d,l,g,o,p,m,[]]) hj ab aa q (hr.mono ()) hB hD (G.kt T) (Z.kt T) (.bad f e1 w' ft) k
 intro hn kv H' ac t';let T:=I.vj t';let e1:cz kl dl=jq kl [] [] [] dl:=by unfold cz;rw[hn]
 ext;calc zp (S:=#[d,l,g,o,p,m,kv]) hj ab aa q (hr.mono ()) hB hD (G.kt T) (Z.kt T) (.good [] [] [] rfl ac (i5 _) (ON _) (ON _) (rZ hn).2 e1) k
meta def Bt(K:bN):Sp:=λe H Q _=>∃(a:Yh) (d:Yi Int),e=[.ref a]/\bA K H a (d.map V.int)/\d.length<=63/\∀g,Q (.bl Yd) g
def L8 (e:Er):Wo (JP e):=by
 cases e with
 |tw=>calc#[by decide,uV _ (by decide)]
 |nn=>calc#[by decide,uV _ (by decide)]
 |wr=>calc#[by decide,uV _ (by decide)]
def tw_ok (b:Bj z dp kl dl):twOk (twF (cz kl dl)):=by
 cases e:cz kl dl with
 |none=>calc True.intro
 |some f =>
  let w:=HN b e;let d:=L8 f.1;calc#[d.2,w.2,OX d.1 (by decide),OX w.1 (by decide)]
structure Ma(K:bN) (a:Yh) (ns:Yi Int) (pv:V) (lw:Yh) (kl:Kl) (dl:Yi Df) (ws:Yi Yg) (H:Hp):Prop where
 s:bA K H a (ns.map V.int)
 r:Rp K H (.t [.t (kl.map jo),.t (dl.map lB)]) pv
 w:H lw=Yb (.Y (ws.map V.str))
def Ma.Z {pv:V}(h:Ma K a ns pv e kl dl d H)(s:aR H g):Ma K a ns pv e kl dl d g:=#[s.seq h.s,h.r.Z s,s _ _ h.w]
def twoSame (h:zo H o v)(s:aR H d):zo d o v:=by
 cases o with
 |none=>calc h
 |some w =>
  let(p,e,q):=h;calc#[p,e,s _ _ q]
meta def zy:Yi Yg:=["zzzzzz","yy"]
structure OD(K:bN) (f:Yh) (ov:V) (H0 H:Hp) (kl:Kl) (dl:Yi Df) (q:Nat):Prop where
 s:aR H0 H
 f:dc H f
 r:Rp K H (.t [.t (kl.map jo),.t (dl.map lB)]) ov
 b:Pq q kl dl
def gx :Nm WY (ak nR):=by decide
def lC :Lm WY (ak nR):=by decide
def kK :aY WY ["_law_script"] (ak nR):=by ac_rfl
def EZ {P:we}{w:OR}{K:bN}{mg:Yg->Option eF}{base:Heap}{gL gD:Yh}{lfd dfd:EF}{n jd j:Nat}(Q:jd<=j)(h7:7<=j)(hn:9<n){f:Yh}{cdv:eF}{A:OW}{outer:Yi Qp}{s:fy}{T:Hp}{E:XK}(o:Za "_law_told" 7 XG (As K) gL lfd)(G:Za "_law_due" jd XG (Ep K n) gD dfd)(g:mg "repr"=Yc)(hr:dU j (A.deeper (OV "law" (ak nR) s⁻¹ f cdv))){D:L2.Ends}{H:Hp}{ov:V}{z dp:Nat}{kl:Kl}{dl:Yi Df}{o0 o1 o2 o3 o4 o6 B:Option V}(r:Rp K H (.t [.t (kl.map jo),.t (dl.map lB)]) ov)(b:Bj z dp kl dl)(hz:z<=80)(hdp:dp<=9)(k:∀B N,aR H N->D.nx [o0,o1,o2,o3,o4,Yb ov,o6,B] N):
  jL (Zl gz WY "law" (ak nR) T).pB ((forA ((bx nR).drop 2)).drop 4) D [o0,o1,o2,o3,o4,Yb ov,o6,B] H:=by
 refine fg ((Z5 (Z4 kK.nd lC 7 (Z0 G (Zc (va gx 5)))) (Z5 (Z8 (Zn qT (va gx 7) gw) (cA (sa kK.nd lC 7 nA))) (Zd (Z8 (PW.pt (@pX _ _ _ _ _ _ _ (Zg qc (Z2 (mT hr.gd hr.Dk) g RH (Z1 (Z0 o (Zc (va gx 5))) aA)) (Z2 (mT hr.gd hr.Dk) g RH (Zc (va gx 7))) (bz _)) (@pA _ _ _ _ (Zg qc (Z2 (mT hr.gd hr.Dk) g RH (Z1 (Z0 o (Zc (va gx 5))) aA)) (Z2 (mT hr.gd hr.Dk) g RH (Zc (va gx 7))) (bz _))))) (cA (cS nA))))))) ?_
 right
 let Z:=b.Nv;let L:=b.Nx hz (show dp<n by omega);let d8:=L.1;let R:∀d∈dl,LN d:=λd hd=>(L.2 d hd).1;let X:=tw_ok b;calc jF ?_;intro N1 S c1 M
 let fin:∀{q:Hp}{v:V},aR H q->zo q (twF (cz kl dl)) v->S [o0,o1,o2,o3,o4,Yb ov,o6,Yb v] q:=λ{q v} l t2=>by
  calc Cut.go M ?_;let r2:=r.Z l;ext W H3 y t3;let u:=twoSame t2 y;ext;rw[show(!decide (V.str (Kx (twF (cz kl dl)))=V.str (Kx (twF (cz kl dl)))))=Ye by rw[decide_eq_true rfl];rfl];let r3:=r2.Z y;ext U H4 J t4;let O:=twoSame u J;ext;rw[show(!decide (V.str (Kx (twF (cz kl dl)))=V.str (Kx (twF (cz kl dl)))))=Ye by rw[decide_eq_true rfl];rfl];ext;exact k _ _ (l.trans (y.trans J))
 clear M;ext I q l m
 cases e:cz kl dl with
 |none =>
  rw[e]at m fin;obtain rfl:I=.eR:=m;let C:=fin l (v:=.bl Yd) rfl;ext;calc C
 |some f =>
  rw[e]at m fin;let C:=fin l (v:=I) m;let(p,rfl,Y):=m;ext;calc C
def qM (s:aR H g)(x:Ext r g d)(h:H r=Yc):aR H d:=λb o e=>x.1 b o (au e h) (s b o e)
def KA (aw:jp<=j)(ae:jd<=j)(ax:jc<=j)(h7:7<=j)(hn:9<n)(F:jn K "law" "law" nR f fd)(FD:Za "_law_feed" 1 X3 (Dq K) gF ffd)(TK:Za "_law_take" 1 WQ cU gT tfd)(ai:Za "_law_named_program" jp XS (Bk K) gP pfd)(v:Za "_law_told" 7 XG (As K) gL lfd)(O:Za "_law_due" jd XG (Ep K n) gD dfd)(ak:Za "_law_changed" jc XE (wI K) gC cfd)(z_range:mg "range"=Yc)(l:mg "repr"=Yc):Zt gz (j+1) f fd ["_law_script"] (Bt K):=by
 refine F.ok kK (λvs H Q E h=>?_) (λcdv A outer s H vs Q E hr h=>?_)
 .have(a,ns,rfl,_):=h;rfl
 let(a,ns,rfl,hS,aq,k):=h;refine#[_,(Z5 (@iD _ _ _ _ _ _ (Z0 ai (Z1 (Z0 FD (di (va gx 0) (Zc aB))) (Zc aB))) (Zb (2) (Zf (ga kK.nd lC 1) (Zs (ga kK.nd lC 2)))) (by rfl) (by rfl) (by rfl)) (Z5 (Z4 kK.nd lC 2 (Zm iW (va gx 2) (Zq (di aD (Zc aD))))) (Z5 (Zj O8 (vC (by left) z_range (Zc aB)) (ga kK.nd lC 3) (Z5 (Z8 (PW.pt (@pX _ _ _ _ _ _ _ (Zg HZ (Z0 v (Zc (va gx 1))) nA (bz _)) (@pA _ _ _ _ (Zg sL (Z0 O (Zc (va gx 1))) gw (bz _))))) (cA (cS nA))) (Z5 (Z4 kK.nd lC 4 (Z0 FD (Z1 (va gx 0) (Z1 (bU eg aB (va gx 3)) aA)))) (Z5 (sa kK.nd lC 5 (va gx 1)) (Z5 (Zj O8 (Zr (Z1 (Zm eg aB (Z0 TK (di (va gx 4) (Zc aB)))) aA)) (ga kK.nd lC 6) (Zd (Z4 kK.nd lC 5 (Z0 ak (Z1 (va gx 4) (Z1 (va gx 5) (Zc (va gx 2)))))))) dz))))) (Zd (Zp (@jA _ _ _ _ _ _ _ _ EY (Z0 v (Zc (va gx 1))) nA (bz _))))))),?_]
 right
 ext fe H1 s1 ag az;ext p lw pv H2 T N m x2 ar h2 lx wx sq r b e;let ab:=qM s1 x2 ag;ext;calc nw λl3 H3 s3 h3 av=>?_;let a1:=s3 _ _ h2;let lc:(m.map V.str).length+([.str "zzzzzz",.str "yy"]:Yi V).length<=lj:=small (by rw[bM];show m.length+2<=_;omega);ext;calc nw λL H4 s4 h4 as=>?_;let ea:m.map V.str++[.str "zzzzzz",.str "yy"]=(m++zy).map V.str:=by rw[i4];rfl
 rw[ea]at h4;let G:=s3.trans s4
 let X:∀x∈m++zy,Wo x:=λx hx=>(IF.mp hx).elim (wx x) (λz=>by
  let z:x∈[("zzzzzz":Yg),"yy"]:=z;simp only[L0,O3,or_false]at z;rcases z with rfl|rfl
  .exact#[by decide,uV _ (by decide)]
  .exact#[by decide,uV _ (by decide)])
 let J:1<=(m++zy).length:=by rw[mu];show 1<=_+2;omega
 let I:(m++zy).length<=100:=by rw[mu];show _+2<=100;omega
 let i0:Ma K a ns pv L T N (m++zy) H4:=#[(ab.trans G).seq hS,r.Z G,h4];generalize m++zy=ws at i0 X J I;let ad:Pq 0 T N:=HX b e;let hB:=b.Nv;let hD:=b.Nx (show(40:Int).toNat<=80 by decide) (show 6<n by omega);let d8:=hD.1;let a0:∀d∈N,LN d:=λd hd=>(hD.2 d hd).1;ext;refine ju (n:=4) (λi t H5=>∃o3 o4 o5 o6 S,t=[Yb (.ref a),Yb pv,Yb (.ref L),o3,o4,o5,o6,S]/\Ma K a ns pv L T N ws H5) #[_,_,_,_,_,rfl,i0] ?_ ?_
 .rintro i t H5 hi ⟨_,_,_,_,_,rfl,U⟩;let r5:=U.r;ext Y H6 s6 D;rw[e]at D;obtain rfl:Y=.bl Yd:=D;let i6:=U.Z s6;let r6:=i6.r;ext v7 H7 s7 t7;rw[e]at t7;obtain rfl:v7=.eR:=t7;let B:=i6.Z s7;let am:=B.s;ext f8 H8 s8 o a2;let i8:=B.Z s8;let n8:L≠f8:=au B.w o;ext m9 H9 ap ao W;ext;refine ju (n:=(1+m9).toNat) (λq t y=>∃o6 S R u,t=[Yb (.ref a),Yb pv,Yb (.ref L),Yb (.int (0+(i:Int))),Yb (.ref f8),Yb R,o6,S]/\OD K f8 R H7 y T u q) #[_,_,pv,N,rfl,#[qM s8 W o,W.2,(B.Z (qM s8 W o)).r,ad]] ?_ ?_
  .rintro q t y hq ⟨_,_,R,u,rfl,g⟩;let a3:=g.f;let an:=g.r;let a4:=g.b;let al:=(B.Z g.s).w;let q2:q<=2:=()
   ext Z aj M C ac ah;exact#[_,_,Z,M,rfl,#[qM g.s C o,C.2,ac,ah]]
  .rintro t y ⟨_,_,R,u,rfl,g⟩;ext;refine EZ (z:=40) (dp:=6+(1+m9).toNat) ae h7 hn v O l hr g.r g.b.b (by decide) () λS aj aa=>#[_,_,_,_,_,rfl,B.Z (g.s.trans aa)]
 .rintro t H5 ⟨_,_,_,_,_,rfl,U⟩;let r5:=U.r;ext Y H6 s6 D;rw[e]at D;obtain rfl:Y=.bl Yd:=D;ext;calc k _
end G15
namespace L2
open PySem PySem.Spec PyProof.Rows
open PySem.W PySem.Calls
meta def uX(d:Yi Rh):Bool:=d.all λe=>match e.key with|.str _ _=>Yd|_=>Ye
def IL {K:Frag}(X:K.In h)(e:K.lookup N=Yb #[c,l,.dict d n,g])(hs:uX d.toList=Yd):
  h.Ns N (Wi d):=by
 calc#[_,d,n,X _ _ e,rfl,λa j=>?_,λ_=>rfl];let z:=Pj.mp hs a (Te.mpr j)
 split at z
 .rename_i y t q;exact#[y,t,q]
 .cases z
end L2
namespace L2
open PySem PySem.W
meta def Ib(K:Frag)(C:Yh):Bool:=(PJ K (.ref C) "__getattribute__" == Yb (Yb (.builtin "BaseException.__getattribute__")))&&(PJ K (.ref C) "__getattr__" == Yb Yc)&&(mroIn K C (.type "BaseException") == Yb Yd)
def E1 (h:Ib K C=Yd):zV K C:=by
 unfold Ib at h;simp only[Pd,beq_iff_eq]at h;calc#[h.1.1,h.1.2,h.2]
meta def Ic(K:Frag)(C b:Yh):Bool :=
 Ib K C&&Rz K C&&(PJ K (.ref C) "__class__" == Yb (Yb (.builtin "object.__class__"))) &&
 (specialIn K (.builtin "object.__class__") "__get__" == Yb (Yb (.builtin "getset_descriptor.__get__")))&&(takesIn K (.builtin "object.__class__") == Yb Yd)&&(mroIn K C (.type "object") == Yb Yd) &&
 (Tr K (.ref C) (.ref b) == Yb Yd)&&(Tr K (.ref C) (.type "ValueError") == Yb Yd)&&QK K (.ref C)
meta def xV(K:Frag)(C:Yh)(n:Yg):Bool :=
 sQ K C&&(PJ K (.ref C) "__setattr__" == Yb (Yb (.builtin "object.__setattr__")))&&(SR K C n == Yb Yc) &&
 Ib K C&&Rz K C&&(PJ K (.ref C) n).any (noGet K)
def lU (h:xV K C n=Yd):xo K C n/\JC K C n:=by
 unfold xV at h;simp only[Pd,beq_iff_eq]at h;let(((((o,m),l),j),g),d):=h;refine#[#[o,m,l],#[E1 j,g,?_]]
 cases e:PJ K (.ref C) n with
 |none=>rw[e]at d;cases d
 |some a=>rw[e]at d;calc#[a,rfl,d]
def Au (h:Ic K C b=Yd):BZ K C/\Tr K (.ref C) (.ref b)=Yb Yd/\Tr K (.ref C) (.type "ValueError")=Yb Yd/\QK K (.ref C)=Yd:=by
 unfold Ic at h;simp only[Pd,beq_iff_eq]at h;let((((((((q,p),o),m),l),j),g),e),d):=h;calc#[#[E1 q,p,o,m,l,j],g,e,d]
structure ClsAt(K:Frag) (C b:Yh) (i:Option eF):Prop where
 ex:∃nm q N bs hdct sn sub ab col dd k0 k1 k2 k3 k5,K.lookup C=Yb (RV nm q C N bs (.ref b::ja) hdct sn sub ab col dd k0 k1 k2 k3 k5 "ValueError.__new__") /\
  ∃c d es n sl,K.lookup N=Yb #[c,d,.dict es n,sl]/\uX es.toList=Yd/\Wi es "__init__"=i
structure oq(K:Frag) (b:Yh):Prop where
 ex:∃nm q N bs hdct sn sub ab col dd k0 k1 k2 k3 k5,K.lookup b=Yb (RV nm q b N bs ja hdct sn sub ab col dd k0 k1 k2 k3 k5 "ValueError.__new__") /\
  ∃c d es n sl,K.lookup N=Yb #[c,d,.dict es n,sl]/\uX es.toList=Yd/\Wi es "__init__"=Yc
def oq.tail (B:oq K b)(X:K.In h):OwnTail h ja (.ref b::ja):=by
 let(r,q,N,bs,d,p,sub,I,o,D,z,y,v,u,t,e,H,G,C,n,g,m,j,l):=B.ex;calc .own (X _ _ e) (IL X m j) l .base
def E2 :ja.contains (.type "BaseException")=Yd:=by decide
def oq.c (B:oq K b):zW K b:=by
 calc⟨λh X=>?_⟩;let(l,q,N,bs,d,j,sub,v,g,u,t,r,p,o,m,e,_):=B.ex;calc#[l,q,N,bs,_,d,j,sub,v,g,u,t,r,p,o,m,_,X _ _ e,E2]
def ClsAt.c (Z:ClsAt K C b i):zW K C:=by
 calc⟨λh X=>?_⟩;let(l,q,N,bs,d,j,sub,v,g,u,t,r,p,o,m,e,_):=Z.ex;calc#[l,q,N,bs,_,d,j,sub,v,g,u,t,r,p,o,m,_,X _ _ e,by rw[Q9,E2,TL]]
def ClsAt.sub (Z:ClsAt K C b i)(B:oq K b):xw K C b:=by
 calc#[λh X=>?_,B.c];let(l,q,N,bs,d,j,sub,v,g,u,t,r,p,o,m,e,_):=Z.ex;calc#[l,q,N,bs,_,d,j,sub,v,g,u,t,r,p,o,m,_,X _ _ e,by rw[Q9,Q9,beq_self_eq_true (Value.ref b),Bool.true_or,TL]]
def ClsAt.k (Z:ClsAt K C b (Yb (.ref f)))(B:oq K b){x q:Yg}{st:Stmt}(F:∃od g,K.lookup f=Yb #[.type "function",od,.func D,g])(kp:QK K (.ref C)=Yd):Gv K C f:=by
 calc#[λh X=>?_,kp];let(o,q,N,bs,j,m,sub,J,l,I,v,u,t,r,p,e,c,d,M,n,L,H,y,z):=Z.ex;let(od,g,G):=F;calc#[o,q,N,bs,_,j,m,sub,J,l,I,v,u,t,r,p,_,_,X _ _ e,IL X H y,z,B.tail X,X _ _ G,rfl]
meta def E3(K:Frag)(d e:Yi Yh)(b:Yh):Bool :=
 (QJ 3).all λk=>Ic K (d.getD k 0) b&&((QJ 3).all λj=>Tr K (.ref (d.getD k 0)) (.ref (d.getD j 0)) == Yb (k == j))&&(WK K (.ref (d.getD k 0)) (e.map Value.ref) == Yb Ye)&&xV K (d.getD k 0) "name"
end L2
namespace G15
open PySem L2
meta def CD(H:Hp)(k:Yg×Yi (Yg×Yi Kk))(e:Key×V):Prop:=∃l,e=(Sum.inr k.1,V.ref l)/\H l=Yb (.Y (k.2.map λt=>.str t.1))
structure OE(H:Hp) (kl:Kl) (H2:Hp) (kvs:Yi (Key×V)):Prop where
 s:aR H H2
 p:Paired (CD H2) kl kvs
structure KC(H:Hp) (o dK dT dM:Yh) (kl:Kl) (kvs:Yi (Key×V)) (Hx:Hp):Prop where
 so:So o H Hx
 hK:Hx dK=Yb (.dK kvs)
 hT:Hx dT=Yb (.dK ((tl kl).map λx=>(Sum.inr x.1,.str x.2.1)))
 hM:Hx dM=Yb (.dK ((tl kl).map λx=>(Sum.inr x.1,.int x.2.2.length)))
 pk:Paired (CD Hx) kl kvs
def KC.Z (h:KC H o dK dT dM kl kvs Hx)(s:aR Hx Hy):KC H o dK dT dM kl kvs Hy :=
 #[h.so.Z s,s _ _ h.hK,s _ _ h.hT,s _ _ h.hM,Paired.imp' (λx e ⟨l,g,d⟩=>#[l,g,s _ _ d]) h.pk]
def KC.fld (h:KC H o dK dT dM kl kvs Hx)(j:Hx o=Yb (.ins C dx fs))(x:HO):KC H o dK dT dM kl kvs (upd Hx o x) :=
 let d:∀{b:Yh}{u:HO},Hx b=Yb u->u≠.ins C dx fs->b≠o:=λ{b u} e n z=>n (by rw[z,j]at e;calc(OL e).symm)
 #[h.so.upd x,by rw[ay (d h.hK nofun)];calc h.hK,by rw[ay (d h.hT nofun)];calc h.hT,by rw[ay (d h.hM nofun)];exact h.hM,
  Paired.imp' (λy e ⟨l,m,g⟩=>#[l,m,by rw[ay (d g nofun)];calc g]) h.pk]
def OF :∀{kl:Kl}{kvs:Yi (Key×V)},Paired (CD m) kl kvs->Paired (λ(k:Yg×Yi (Yg×Yi Kk)) (e:Key×V)=>∃l,e=(Sum.inr k.1,V.ref l)/\l≠a.lG) kl kvs->Paired (λ(k:Yg×Yi (Yg×Yi Kk)) (e:Key×V)=>∃l,e=(Sum.inr k.1,V.ref l)/\l≠a.lO) kl kvs->Paired (Mq a m) kl kvs:=by
 intro kl kvs p q r
 induction p with
 |nil=>calc .nil
 |cons h t ih =>
  let(l,C,B):=h
  cases q with
  |cons h' t' =>
  cases r with
  |cons h'' t'' =>
  let(z,j,y):=h';let(g,d,v):=h'';subst C;let u:l=z:=V.ref.inj (Uv j).2;let o:l=g:=V.ref.inj (Uv d).2;subst u o;calc .cons #[l,rfl,B,y,v] (ih t' t'')
structure NB(H:Hp) (d:Yh) (ob:Obj) (tv:Yi (Key×V)) (kvs ks:Yi (Key×V)) (H2:Hp):Prop where
 s:aR H H2
 d:H2 d=Yb (.nX ob (.dK tv))
 e:kvs=ks
def dF :Nm Xx (ak fS):=by decide
def vz :aY Xx Xx (ak fS):=by ac_rfl
def E4 (F:jn K "__init__" "Known.__init__" fS f fd)(N:KO K C)(bi:Za "tags_of" 1 X5 (yR K) gT tfd)(am:mg "len"=Yc):Zt gz 2 f fd Xx (AU K C):=by
 refine F.ok vz (λvs H Q E h=>?_) (λcdv A outer s H vs Q E hr h=>?_)
 .have(_,_,_,_,_,_,rfl,_):=h;rfl
 let(H0,o,B,v,m,dt,rfl,hs,h0,ho,r,hB,br,bt,k):=h;refine#[_,(Z5 (@qV _ _ _ _ _ _ _ _ (va dF 0) (@qX _ _ _ _ _ _ _ _ _ _ _ _ _ (ak fS) Xx XT [] rfl rfl rfl (by decide) (@cG _ _ _ _ (Z6 aI (va dF 1))) (λ_ _ _ _=>(Zb (2) (Zf (Zx XT 0) (Zs (Zx XT 1))))) (λ_ _ _ _=>fZ) (λ_ _ _ _=>(Zw XT 0)) (λ_ _ _ _=>(@lJ _ _ _ _ _ _ _ _ _ _ _ _ XT ["tag","inner"] [] rfl rfl rfl (by kernel_rfl) (AN K rfl (Zw XT 1)) (λ_ _ _ _=>(Zb (2) (Zf (Zx ["tag","inner"] 0) (Zs (Zx ["tag","inner"] 1))))) (λ_ _ _ _=>fZ) (λ_ _ _ _=>(Zw ["tag","inner"] 0)) (by intro _;rfl))) (by intro _;rfl)) rfl) (Z5 (@qV _ _ _ _ _ _ _ _ (va dF 0) (@qX _ _ _ _ _ _ _ _ _ _ _ _ _ (ak fS) Xx Xf [] rfl rfl rfl (by decide) (yP (Z0 bi (Zc (va dF 1))) (by kernel_rfl) (by kernel_rfl)) (λ_ _ _ _=>(Zb (2) (Zf (Zx Xf 0) (Zf (Zb (2) (Zf (Zx Xf 1) (Zs (Zx Xf 2)))) wL)))) (λ_ _ _ _=>fZ) (λ_ _ _ _=>(Zw Xf 0)) (λ_ _ _ _=>(Zw Xf 1)) (by intro _;rfl)) rfl) (Z5 (@qV _ _ _ _ _ _ _ _ (va dF 0) (@qX _ _ _ _ _ _ _ _ _ _ _ _ _ (ak fS) Xx Xf [] rfl rfl rfl (by decide) (yP (Z0 bi (Zc (va dF 1))) (by kernel_rfl) (by kernel_rfl)) (λ_ _ _ _=>(Zb (2) (Zf (Zx Xf 0) (Zf (Zb (2) (Zf (Zx Xf 1) (Zs (Zx Xf 2)))) wL)))) (λ_ _ _ _=>fZ) (λ_ _ _ _=>(Zw Xf 0)) (λ_ _ _ _=>(Z2 (pe K rfl) am OS (Zc (Zw Xf 2)))) (by intro _;rfl)) rfl) (Z5 (qV (va dF 0) (@qk _ _) rfl) (Z5 (qV (va dF 0) (dH aA) rfl) (Zd (qV (va dF 0) (dH aA) rfl))))))),?_]
 right
 let hc:=N.c;let n1:=N.kinds;let n2:=N.ktag;let n3:=N.mtag;let n4:=N.mdef;let n5:=N.gaps;let n6:=N.opens;let a7:=id r;let(pa,u1,u2,rfl,b6,g1,g2):=r.t2;let(a,us,rfl,sq,rs):=g1.aS;let bl:=rs.length;rw[bM]at bl;let bn:=qB hB;rw[<-pS,bM]at bn;ext;refine BR (K:=K) (xs:=us) (λi I g H2=>(∃y1 y2,I=[y1,y2])/\OE H (m.take i) H2 g) #[#[_,_,rfl],aR.refl _,.nil] ?_ (small (by let:=hB.1;omega)) ?_ ?_ ?_
 .rintro i I g H2 hi ⟨_,T⟩;let:=T.p.length;rw[x9]at this;omega
 .rintro i I g H2 hi ⟨_,T⟩;exact sq.Z T.s
 .rintro i xv I g H2 hxv ⟨⟨_,_,rfl⟩,T⟩;let(t,ht,rx):=rs.get' hxv;rw[vv]at ht;let(kd,ap,rfl):=ri.mp ht;let ag:=(bH.mp ap).1;let bh:m.take (i+1)=m.take i++[kd]:=by rw[i3 ag,(bH.mp ap).2]
  let(ka,k1,k2,rfl,bo,q1,q2):=(show Rp K H (.t [.s kd.1,.t (kd.2.map qA)]) xv from rx).t2;obtain rfl:=q1.aL;let b2:=bo.Z T.s;let(b5,ar,rfl,bj,av):=q2.aS;let bm:=av.length;rw[bM]at bm;let as:=bj.Z T.s;let ca:=(hB.2 kd (xn ap)).1
  let nw:∀L∈g,L.1≠Sum.inr kd.1:=λL ad z=>by
   let(n,bs):=Po ad;let(x,hx,l,e,_):=Paired.getL T.p bs;rw[e]at z;let z':x.1=kd.1:=PZ z;let hn:=bt.sublist (R1 (·.1) (RO (i+1) m));rw[bh,i4]at hn;exact(Qc.mp hn).2.2 x.1 (O6 (xn hx)) kd.1 (by simp) z'
  ext;refine gc (K:=K) (xs:=ar) (λj I vs Y=>(∃y1 y2,I=[y1,y2])/\Y=H2/\vs=(kd.2.take j).map λt=>V.str t.1) #[#[_,_,rfl],rfl,rfl] ?_ (small ()) ?_ ?_ ?_
  .rintro j I vs Y hj ⟨_,_,rfl⟩;rw[bM,x9];omega
  .rintro j I vs Y hj ⟨_,rfl,_⟩;exact as
  .rintro j yv I vs Y hyv ⟨⟨_,_,rfl⟩,rfl,rfl⟩;let(t,ht,ry):=av.get' hyv;rw[vv]at ht;let(tg,a6,rfl):=ri.mp ht;let bv:=(bH.mp a6).1;let b1:kd.2.take (j+1)=kd.2.take j++[tg]:=by rw[i3 bv,(bH.mp a6).2]
   let(ga,w1,w2,rfl,b0,p1,p2):=(show Rp K H (.t [.s tg.1,.t (tg.2.map mX)]) yv from ry).t2;obtain rfl:=p1.aL;let b4:=b0.Z T.s;ext;rw[b1,i4];rfl
  .rintro I vs Y ⟨_,rfl,rfl⟩ l hl;rw[show ar.length=kd.2.length by omega,OO];let s4:=ae hl (.Y (kd.2.map λt=>V.str t.1));let h4:upd Y l (.Y (kd.2.map λt=>V.str t.1)) l=Yb (.Y (kd.2.map λt=>V.str t.1)):=af;generalize upd Y l (.Y (kd.2.map λt=>V.str t.1))=H4 at s4 h4|-;calc#[Sum.inr kd.1,rfl,#[_,_,rfl],?_];rw[mG nw,bh];exact#[T.s.trans s4,Paired.yQ (Paired.imp' (λx e ⟨l,R,J⟩=>#[l,R,s4 _ _ J]) T.p) #[l,rfl,h4]]
 .rintro I g H2 ⟨_,T⟩ dK hdK;rw[show us.length=m.length by omega,OO]at T;let s3:=ae hdK (.dK g);let h3:upd H2 dK (.dK g) dK=Yb (.dK g):=af;let p3:Paired (CD (upd H2 dK (.dK g))) m g:=Paired.imp' (λx e ⟨l,R,J⟩=>#[l,R,s3 _ _ J]) T.p;generalize upd H2 dK (.dK g)=Y at s3 h3 p3|-;let ax:=T.s.trans s3;let o3:=ax _ _ ho;let an:So o H (upd Y o (.ins C B (aX "kinds" (.ref dK) []))):=((So.refl o H).Z ax).upd _;let r4:=a7.kt (an.kt ho);let a0:o≠dK:=jB o3 h3 nofun
  let o4:upd Y o (.ins C B (aX "kinds" (.ref dK) [])) o=Yb (.ins C B (aX "kinds" (.ref dK) [])):=af;let h4:upd Y o (.ins C B (aX "kinds" (.ref dK) [])) dK=Yb (.dK g):=by rw[ay a0.symm];exact h3
  let p4:Paired (CD (upd Y o (.ins C B (aX "kinds" (.ref dK) [])))) m g:=Paired.imp' (λx e ⟨l,R,J⟩=>#[l,R,by rw[ay (jB J o3 nofun)];calc J]) p3
  ext;generalize upd Y o (.ins C B (aX "kinds" (.ref dK) []))=H4 at an r4 o4 h4 p4|-;intro d1 H5 Z s5 bx h5 p5;calc#[d1,Z,rfl,h5,λob=>?_];let k5:Kt H5 (upd H5 d1 (.nX ob (.dK Z))):=Kt.upd h5 ⋯ (λ_ _ z=>nomatch z) _
  let s6:aR H4 (upd H5 d1 (.nX ob (.dK Z))):=s5.oR bx _;let h6:upd H5 d1 (.nX ob (.dK Z)) d1=Yb (.nX ob (.dK Z)):=af;let p6:Paired (GG K (upd H5 d1 (.nX ob (.dK Z)))) (tl m) Z:=Paired.imp' (λx e ⟨q,iv,R,J,e3⟩=>#[q,iv,R,by rw[ay (jB J h5 nofun)];calc J,e3.kt k5]) p5
  generalize upd H5 d1 (.nX ob (.dK Z))=H6 at s6 h6 p6|-;let b8:=p6.length;let a1:((tl m).map (·.1)).Nodup:=by rw[pS];exact br
  refine rY (xs:=Z) (λi I L H7=>(∃y1 y2 y3,I=[y1,y2,y3])/\NB H6 d1 ob Z L (((tl m).take i).map λx=>(Sum.inr x.1,.str x.2.1)) H7) #[#[_,_,_,rfl],aR.refl _,h6,rfl] ?_ (small ()) ?_ ?_ ?_
  .rintro i I L H7 hi ⟨_,G⟩;rw[G.e,bM,x9];omega
  .rintro i I L H7 hi ⟨_,G⟩;exact G.d
  .rintro i x I L H7 p7 hx ⟨⟨_,_,_,rfl⟩,G⟩ hp7;let(y,hy,q,iv,rfl,hq,az):=Paired.getL p6 hx;let ag:=(bH.mp hy).1;let ah:(tl m).take (i+1)=(tl m).take i++[y]:=by rw[i3 ag,(bH.mp hy).2]
   let O:=ae hp7 (.J [kV (Sum.inr y.1),.ref q]);let h8:upd H7 p7 (.J [kV (Sum.inr y.1),.ref q]) p7=Yb (.J [.str y.1,.ref q]):=af;generalize upd H7 p7 (.J [kV (Sum.inr y.1),.ref q])=H8 at O h8|-;let q8:=O _ _ (G.s _ _ hq)
   let nw:∀L∈((tl m).take i).map (λx=>((Sum.inr x.1:Key),V.str x.2.1)),L.1≠Sum.inr y.1:=λL ad z=>by
    let(x,hx,rfl):=O2.mp ad;let z':x.1=y.1:=PZ z;let hn:=a1.sublist (R1 (·.1) (RO (i+1) (tl m)));rw[ah,i4]at hn;exact(Qc.mp hn).2.2 x.1 (O6 hx) y.1 (by simp) z'
   ext
   .exact(Eq.refl (kV (Sum.inr y.1)))
   calc#[#[_,_,_,rfl],G.s.trans O,O _ _ G.d,?_];rw[G.e,mG nw,ah,i4];rfl
  .rintro I L H7 ⟨_,G⟩ dT hdT;let e7:=G.e;rw[show Z.length=(tl m).length by omega,OO]at e7;subst e7;let O:=ae hdT (.dK ((tl m).map λx=>(Sum.inr x.1,.str x.2.1)));let t8:upd H7 dT (.dK ((tl m).map λx=>(Sum.inr x.1,.str x.2.1))) dT=Yb (.dK ((tl m).map λx=>(Sum.inr x.1,.str x.2.1))):=af;generalize upd H7 dT (.dK ((tl m).map λx=>(Sum.inr x.1,.str x.2.1)))=H8 at O t8|-;let ao:=s6.trans (G.s.trans O);let o8:=ao _ _ o4;let aa:So o H4 (upd H8 o (.ins C B (aX "kind_of_tag" (.ref dT) (aX "kinds" (.ref dK) [])))):=((So.refl o H4).Z ao).upd _;let r9:=r4.kt (aa.kt o4);let oT:o≠dT:=jB o8 t8 nofun
   let o9:upd H8 o (.ins C B (aX "kind_of_tag" (.ref dT) (aX "kinds" (.ref dK) []))) o=Yb (.ins C B (aX "kind_of_tag" (.ref dT) (aX "kinds" (.ref dK) []))):=af;let t9:upd H8 o (.ins C B (aX "kind_of_tag" (.ref dT) (aX "kinds" (.ref dK) []))) dT=Yb (.dK ((tl m).map λx=>(Sum.inr x.1,.str x.2.1))):=by rw[ay oT.symm];exact t8
   let l2:(aX "kinds" (.ref dK) []).length<1000:=by show 1<1000;omega
   ext;generalize upd H8 o (.ins C B (aX "kind_of_tag" (.ref dT) (aX "kinds" (.ref dK) [])))=H9 at aa r9 o9 t9|-;clear r4 a7 rs g1 g2;let h9:=aa _ _ a0.symm h4;let q9:Paired (CD H9) m g:=Paired.imp' (λx e ⟨l,R,J⟩=>#[l,R,aa _ _ (jB J o4 nofun) J]) p4
   let aw:=an.trans aa;intro d2 Ha tw sa bw ha bk;calc#[d2,tw,rfl,ha,λS=>?_];let ka:Kt Ha (upd Ha d2 (.nX S (.dK tw))):=Kt.upd ha ⋯ (λ_ _ z=>nomatch z) _
   let sb:aR H9 (upd Ha d2 (.nX S (.dK tw))):=sa.oR bw _;let hb:upd Ha d2 (.nX S (.dK tw)) d2=Yb (.nX S (.dK tw)):=af;let pb:Paired (GG K (upd Ha d2 (.nX S (.dK tw)))) (tl m) tw:=Paired.imp' (λx e ⟨q,iv,R,J,e3⟩=>#[q,iv,R,by rw[ay (jB J ha nofun)];calc J,e3.kt ka]) bk
   generalize upd Ha d2 (.nX S (.dK tw))=Hb at sb hb pb|-;let b7:=pb.length;refine rY (xs:=tw) (λi I L Hc=>(∃y1 y2 y3,I=[y1,y2,y3])/\NB Hb d2 S tw L (((tl m).take i).map λx=>(Sum.inr x.1,.int x.2.2.length)) Hc) #[#[_,_,_,rfl],aR.refl _,hb,rfl] ?_ (small ()) ?_ ?_ ?_
   .rintro i I L Hc hi ⟨_,G⟩;rw[G.e,bM,x9];omega
   .rintro i I L Hc hi ⟨_,G⟩;exact G.d
   .rintro i x I L Hc p7 hx ⟨⟨_,_,_,rfl⟩,G⟩ hp7;let(y,hy,q,iv,rfl,hq,az):=Paired.getL pb hx;let ag:=(bH.mp hy).1;let ah:(tl m).take (i+1)=(tl m).take i++[y]:=by rw[i3 ag,(bH.mp hy).2]
    let O:=ae hp7 (.J [kV (Sum.inr y.1),.ref q]);let h8:upd Hc p7 (.J [kV (Sum.inr y.1),.ref q]) p7=Yb (.J [.str y.1,.ref q]):=af;generalize upd Hc p7 (.J [kV (Sum.inr y.1),.ref q])=Hd at O h8|-;let q8:=O _ _ (G.s _ _ hq);let(ia,b9,rfl,bp,bq):=az.aS;let b3:=(bp.Z G.s).Z O;let a2:=bq.length;rw[bM]at a2
    let nw:∀L∈((tl m).take i).map (λx=>((Sum.inr x.1:Key),V.int x.2.2.length)),L.1≠Sum.inr y.1:=λL ad z=>by
     let(x,hx,rfl):=O2.mp ad;let z':x.1=y.1:=PZ z;let hn:=a1.sublist (R1 (·.1) (RO (i+1) (tl m)));rw[ah,i4]at hn;exact(Qc.mp hn).2.2 x.1 (O6 hx) y.1 (by simp) z'
    ext
    .exact(Eq.refl (kV (Sum.inr y.1)))
    calc#[#[_,_,_,rfl],G.s.trans O,O _ _ G.d,?_];rw[G.e,mG nw,ah,i4,a2];rfl
   .rintro I L Hc ⟨_,G⟩ dM hdM;let e7:=G.e;rw[show tw.length=(tl m).length by omega,OO]at e7;subst e7;let O:=ae hdM (.dK ((tl m).map λx=>(Sum.inr x.1,.int x.2.2.length)));let m8:upd Hc dM (.dK ((tl m).map λx=>(Sum.inr x.1,.int x.2.2.length))) dM=Yb (.dK ((tl m).map λx=>(Sum.inr x.1,.int x.2.2.length))):=af;generalize upd Hc dM (.dK ((tl m).map λx=>(Sum.inr x.1,.int x.2.2.length)))=Hd at O m8|-;let U:=sb.trans (G.s.trans O);let od:=U _ _ o9;let kp:KC H o dK dT dM m g Hd:=#[aw.Z U,U _ _ h9,U _ _ t9,m8,Paired.imp' (λx e ⟨l,R,J⟩=>#[l,R,U _ _ J]) q9];clear U sb G O ao q9 t9 h9;let l3:(aX "kind_of_tag" (.ref dT) (aX "kinds" (.ref dK) [])).length<1000:=by show 2<1000;omega
    let W:=kp.fld od (.ins C B (Zy dM dT dK));let oe:upd Hd o (.ins C B (Zy dM dT dK)) o=Yb (.ins C B (Zy dM dT dK)):=af;ext;generalize upd Hd o (.ins C B (Zy dM dT dK))=He at W oe|-;intro D X;let l4:(Zy dM dT dK).length<1000:=by show 3<1000;omega
    let nD:D≠o:=(au oe X).symm;let fD:H D=Yc:=W.so.free nD X;let kD:dK≠D:=au W.hK X;let tD:dT≠D:=au W.hT X;let mD:dM≠D:=au W.hM X;let sf:=ae X (.dK []);let bg:upd He D (.dK []) D=Yb (.dK []):=af;let oF:=sf _ _ oe;let a5:=W.Z sf;generalize upd He D (.dK [])=Hf at sf bg oF a5|-;let aj:=a5.fld oF (.ins C B (aX "many_of_def" (.ref D) (Zy dM dT dK)));let og:upd Hf o (.ins C B (aX "many_of_def" (.ref D) (Zy dM dT dK))) o=Yb (.ins C B (aX "many_of_def" (.ref D) (Zy dM dT dK))):=af;let bf:upd Hf o (.ins C B (aX "many_of_def" (.ref D) (Zy dM dT dK))) D=Yb (.dK []):=by rw[ay nD];exact bg
    ext;generalize upd Hf o (.ins C B (aX "many_of_def" (.ref D) (Zy dM dT dK)))=Hg at aj og bf|-;intro M al;let l5:(aX "many_of_def" (.ref D) (Zy dM dT dK)).length<1000:=by show 4<1000;omega
    let nG:M≠o:=(au og al).symm;let fG:H M=Yc:=aj.so.free nG al;let pG:Paired (λ(k:Yg×Yi (Yg×Yi Kk)) (e:Key×V)=>∃l,e=(Sum.inr k.1,V.ref l)/\l≠M) m g:=Paired.imp' (λx e ⟨l,R,J⟩=>#[l,R,au J al]) aj.pk;let sh:=ae al (.Y []);let bc:upd Hg M (.Y []) M=Yb (.Y []):=af;let oH:=sh _ _ og;let be:=sh _ _ bf;let a4:=aj.Z sh;generalize upd Hg M (.Y [])=Hh at sh bc oH be a4|-;let ai:=a4.fld oH (.ins C B (aX "gaps" (.ref M) (aX "many_of_def" (.ref D) (Zy dM dT dK))));let oi:upd Hh o (.ins C B (aX "gaps" (.ref M) (aX "many_of_def" (.ref D) (Zy dM dT dK)))) o=Yb (.ins C B (aX "gaps" (.ref M) (aX "many_of_def" (.ref D) (Zy dM dT dK)))):=af;let bb:upd Hh o (.ins C B (aX "gaps" (.ref M) (aX "many_of_def" (.ref D) (Zy dM dT dK)))) D=Yb (.dK []):=by rw[ay nD];exact be
    let aq:upd Hh o (.ins C B (aX "gaps" (.ref M) (aX "many_of_def" (.ref D) (Zy dM dT dK)))) M=Yb (.Y []):=by rw[ay nG];exact bc
    ext;generalize upd Hh o (.ins C B (aX "gaps" (.ref M) (aX "many_of_def" (.ref D) (Zy dM dT dK))))=Hi at ai oi bb aq|-;intro lO ac;let l6:(aX "gaps" (.ref M) (aX "many_of_def" (.ref D) (Zy dM dT dK))).length<1000:=by show 5<1000;omega
    let nO:lO≠o:=(au oi ac).symm;let fO:H lO=Yc:=ai.so.free nO ac;let gO:M≠lO:=au aq ac;let pO:Paired (λ(k:Yg×Yi (Yg×Yi Kk)) (e:Key×V)=>∃l,e=(Sum.inr k.1,V.ref l)/\l≠lO) m g:=Paired.imp' (λx e ⟨l,R,J⟩=>#[l,R,au J ac]) ai.pk;let sj:=ae ac (.Y []);let a8:upd Hi lO (.Y []) lO=Yb (.Y []):=af;let oJ:=sj _ _ oi;let ba:=sj _ _ bb;let a9:=sj _ _ aq;let a3:=ai.Z sj;generalize upd Hi lO (.Y [])=Hj at sj a8 oJ ba a9 a3|-;let ab:=a3.fld oJ (.ins C B (aX "opens" (.ref lO) (aX "gaps" (.ref M) (aX "many_of_def" (.ref D) (Zy dM dT dK)))));ext;let free:∀{b:Yh},H b=Yc->H0 b=Yc:=λ{b} e=>hs.free e;refine k _ #[B,dK,dT,dM,D,M,lO,g] #[λb u e=>?_,free fD,free fG,free fO,gO,kD,tD,mD,?_,ab.hK,?_,ab.hT,ab.hM,?_,?_,?_]
    .exact ab.so b u (au e h0) (hs _ _ e)
    .rw[af];exact congrArg (λz=>Yb (HO.ins C B z)) (DW #[B,dK,dT,dM,D,M,lO,g])
    .exact OF ab.pk pG pO
    .rw[ay nD];exact ba
    .rw[ay nG];exact a9
    .rw[ay nO];exact a8
open PySem.W
theorem KG {d:Type}{P:List d->Prop}(h:∀a,P [a]):∀us:List d,us.length=1->P us
 | [a],_=>h a
theorem Av {d:Type}{P:List d->Prop}(h:∀a b,P [a,b]):∀us:List d,us.length=2->P us
 | [a,b],_=>h a b
theorem KH {d:Type}{P:List d->Prop}(h:∀a b c,P [a,b,c]):∀us:List d,us.length=3->P us
 | [a,b,c],_=>h a b c
theorem KI {e:Type}{P:List e->Prop}(h:∀a b c d,P [a,b,c,d]):∀us:List e,us.length=4->P us
 | [a,b,c,d],_=>h a b c d
theorem KJ {g:Type}{P:List g->Prop}(h:∀a b c d e,P [a,b,c,d,e]):∀us:List g,us.length=5->P us
 | [a,b,c,d,e],_=>h a b c d e
meta abbrev sZ:Stmt:=Mp Gj 0
def E5 :aY Xs Xs (ak sZ):=by ac_rfl
meta abbrev qN:Stmt:=Mp Dz 0
def CF :aY Xs Xs (ak qN):=by ac_rfl
meta abbrev j4:Stmt:=Mp w6 0
def vA :aY Xs Xs (ak j4):=by ac_rfl
def E6 (F:jn K "__init__" "Twice.__init__" sZ f d)(o:xo K C "name"):Zt gz 1 f d Xs (yN C "name"):=by
 refine F.ok E5 (λe H Q E h=>?_) (λcdv A outer s H e Q E hr h=>?_)
 .have(x,y,rfl,_):=h;rfl
 let(x,y,rfl,g,go):=h;calc#[_,cA (zU (pv 0) (pv 1)),_,rfl,_,rfl,x,C,rfl,g,o,λm l j=>go m l j]
def CG (F:jn K "__init__" "NoName.__init__" qN f d)(o:xo K C "name"):Zt gz 1 f d Xs (yN C "name"):=by
 refine F.ok CF (λe H Q E h=>?_) (λcdv A outer s H e Q E hr h=>?_)
 .have(x,y,rfl,_):=h;rfl
 let(x,y,rfl,g,go):=h;calc#[_,cA (zU (pv 0) (pv 1)),_,rfl,_,rfl,x,C,rfl,g,o,λm l j=>go m l j]
def vB (F:jn K "__init__" "WrongCount.__init__" j4 f d)(o:xo K C "name"):Zt gz 1 f d Xs (yN C "name"):=by
 refine F.ok vA (λe H Q E h=>?_) (λcdv A outer s H e Q E hr h=>?_)
 .have(x,y,rfl,_):=h;rfl
 let(x,y,rfl,g,go):=h;calc#[_,cA (zU (pv 0) (pv 1)),_,rfl,_,rfl,x,C,rfl,g,o,λm l j=>go m l j]
def CH (F:jn K "_law_named" "_law_named" aW gN nfd)(m:mg "_law_named"=Yb (.ref gN))(o:Binds K nfd WO [])(q:jn K "_law_named_match" "_law_named_match" ck gM mfd)(mM:mg "_law_named_match"=Yb (.ref gM))(r:Binds K mfd W5 [])(p:Za "_law_take" 1 WQ cU gT tfd)(l:Za "_law_named_leaf" 2 Xr (xO K) gL lfd)(e:mg "len"=Yc)(g:mg "int"=Yc)(z_range:mg "range"=Yc)(d:mg "tuple"=Yc):∀n,Zt gz (2*n+1) gN nfd WO (fF K n):=by
 intro n
 induction n with
 |zero =>
  calc sO λt H Q E h=>?_;let(_,_,_,_,_,_,_,_,_,_,_,_,_,_,_,_,_,_,v,u,_):=h;omega
 |succ n ih =>
  rw[show 2*(n+1)+1=2*n+1+2 by omega];calc EJ (j:=2*n+1) () F p #[ih,m,F.kp,o] #[Cs () q p #[ih,m,F.kp,o] e z_range d,mM,q.kp,r] l e g
def Ie (F:jn K "_law_term_fault" "_law_term_fault" b8 gH hfd)(l:mg "_law_term_fault"=Yb (.ref gH))(m:Binds K hfd WW [])(o:Za "_law_within" 1 Xd (jN K) gW wfd)(g:Za "_law_itself_fault" 4 WW (uM K) gI ifd)(e:mg "zip"=Yc)(d:mg "list"=Yc):∀n,Zt gz (n+4) gH hfd WW (uQ K n):=by
 intro n
 induction n with
 |zero =>
  calc sO λp H Q E h=>?_;let(_,_,_,_,_,_,_,_,_,_,_,_,_,_,_,_,_,h,_):=h;omega
 |succ n ih=>calc JX (j:=n+4) () F o g #[ih,l,F.kp,m] e d
def CI {d:Yi Yh}(h:(WK K (.ref C) (d.map Value.ref) == Yb r)=Yd):WK K (.ref C) (d.map Value.ref)=Yb r:=QF h
def KL (B:oq K b)(q1:ClsAt K m b (Yb (.ref J)))(C:ClsAt K l b (Yb (.ref I)))(y:ClsAt K g b (Yb (.ref H)))(h:E3 K [m,l,g] r b=Yd):Nz K m l g b r/\(xo K m "name"/\xo K l "name"/\xo K g "name")/\(QK K (.ref m)=Yd/\QK K (.ref l)=Yd/\QK K (.ref g)=Yd):=by
 let all:∀k,k<3->Ic K ([m,l,g].getD k 0) b=Yd/\(∀j,j<3->Tr K (.ref ([m,l,g].getD k 0)) (.ref ([m,l,g].getD j 0))=Yb (k == j))/\WK K (.ref ([m,l,g].getD k 0)) (r.map Value.ref)=Yb Ye/\xV K ([m,l,g].getD k 0) "name"=Yd:=λk D=>by
  let z:=Pj.mp h k (Q4.mpr D);simp only[Pd]at z;exact#[z.1.1.1,λj G=>QF (Pj.mp z.1.1.2 j (Q4.mpr G)),CI z.1.2,z.2]
 let q:=all 0 (by decide);let p:=all 1 (by decide);let o:=all 2 (by decide);let v:=Au q.1;let u:=Au p.1;let t:=Au o.1;refine#[#[λe=>?_,λe=>?_,λe d=>?_,λe=>?_,λe=>?_,λe=>?_],#[(lU q.2.2.2).1,(lU p.2.2.2).1,(lU o.2.2.2).1],v.2.2.2,u.2.2.2,t.2.2.2]
 .cases e with
  |tw=>calc q1.sub B
  |nn=>calc C.sub B
  |wr=>exact y.sub B
 .cases e with
  |tw=>calc v.1
  |nn=>calc u.1
  |wr=>exact t.1
 .cases e with
  |tw =>
   cases d with
   |tw=>calc q.2.1 0 (by decide)
   |nn=>calc q.2.1 1 (by decide)
   |wr=>calc q.2.1 2 (by decide)
  |nn =>
   cases d with
   |tw=>calc p.2.1 0 (by decide)
   |nn=>calc p.2.1 1 (by decide)
   |wr=>calc p.2.1 2 (by decide)
  |wr =>
   cases d with
   |tw=>calc o.2.1 0 (by decide)
   |nn=>calc o.2.1 1 (by decide)
   |wr=>exact o.2.1 2 (by decide)
 .cases e with
  |tw=>calc q.2.2.1
  |nn=>calc p.2.2.1
  |wr=>exact o.2.2.1
 .cases e with
  |tw=>calc v.2.2.1
  |nn=>calc u.2.2.1
  |wr=>exact t.2.2.1
 .cases e with
  |tw=>calc(lU q.2.2.2).2
  |nn=>calc(lU p.2.2.2).2
  |wr=>calc(lU o.2.2.2).2
def E7 (F:jn K "_law_many" "_law_many" lQ gM mfd)(m:mg "_law_many"=Yb (.ref gM))(b:Binds K mfd Xd [])(e:Za "_law_within" 1 Xd (jN K) gW wfd)(d:mg "sum"=Yc):∀n,Zt gz (n+1) gM mfd Xd (xT K n):=by
 intro n
 induction n with
 |zero =>
  calc sO λg H Q E h=>?_;let(_,_,_,_,_,_,h,_):=h;omega
 |succ n ih=>calc HU (j:=n+1) () F e #[ih,m,F.kp,b] d
def Ig (F:jn K "_law_rebuilt" "_law_rebuilt" iO gR rfd)(m:mg "_law_rebuilt"=Yb (.ref gR))(b:Binds K rfd WX [])(g:Za "_law_within" 1 Xd (jN K) gW wfd)(d:Za "_law_other" 3 Xw (xS K) gO ofd)(e:Za "_law_back" 1 Xu (Aq K) gB bfd):∀n,Zt gz (n+3) gR rfd WX (Br K n):=by
 intro n
 induction n with
 |zero =>
  calc sO λl H Q E h=>?_;let(_,_,_,_,_,_,_,_,_,_,_,_,_,_,h,_):=h;omega
 |succ n ih=>calc Ku (j:=n+3) () F g d e #[ih,m,F.kp,b]
structure FnAt(K:Frag) (x qual:Yg) (st:Stmt) (f:Yh) (fd:EF):Prop where
 ex:∃(od:Option Yh) (kV doc pm:eF) (an:Option Yh) (cdv ct:eF) (osl:Array (Option eF)),
  fd=fnOf x qual (mh st) (bx st) (ak st) .none kV doc pm an cdv ct/\K.lookup f=Yb #[.type "function",od,.func fd,osl]/\UB K cdv qual=Yd
 kp:QK K (.ref f)=Yd
def FnAt.f {f:Yh}(F:FnAt K x d st f m):jn K x d st f m:=by
 let(p,kV,j,o,r,cdv,q,g,e,l,c):=F.ex;calc#[#[_,p,kV,j,o,r,cdv,q,g,e,l,c],F.kp]
def bq {kV:eF}(l:K.lookup f=Yb #[.type "function",od,.func (fnOf x d (mh st) (bx st) (ak st) .none kV e j m cdv ct),g])(c:UB K cdv d=Yd)(k:QK K (.ref f)=Yd):FnAt K x d st f (fnOf x d (mh st) (bx st) (ak st) .none kV e j m cdv ct):=#[#[od,kV,e,j,m,cdv,ct,g,rfl,l,c],k]
def FnAt.l {f:Yh}(F:FnAt K x g st f j):∃od d,K.lookup f=Yb #[.type "function",od,.func j,d]:=by
 let(od,kV,m,o,q,cdv,p,d,e,l,c):=F.ex;calc#[od,d,l]
meta def uY(K:Frag)(a:Yh)(ns:Yi Nat):Bool:=match K.lookup a with
 |some ⟨.type "tuple",Yc,.seq its _,_⟩=>its.toList.length == ns.length&&(its.toList.zip ns).all (λp=>match p.1 with|.int i _=>i == (p.2:Int)|_=>Ye)
 |_=>Ye
def mU (h:uY K a ns=Yd)(hn:ns.length<=10):∀H,bY K H a (ns.map λ(j:Nat)=>V.int (j:Int)):=by
 intro H;unfold uY at h
 split at h
 .rename_i d n C e
  rw[Pd]at h;let(g,p):=h
  replace g:=QF g
  let u:d.size<=lj:=by
   let z:d.toList.length=d.size:=by simp
   exact small ()
  calc .inr #[_,d,n,e,rfl,rfl,u,?_,rfl];clear u e;generalize d.toList=l at g p;clear hn
  induction l generalizing ns with
  |nil=>cases ns with
   |nil=>calc .nil
   |cons _ _=>simp at g
  |cons v r ih =>
   cases ns with
   |nil=>simp at g
   |cons m q =>
    rw[RE,UE,Pd]at p;let(o,y):=p;refine .cons ?_ (ih (by simpa using g) y)
    split at o
    .rename_i i t B
     let:i=(m:Int):=QF o;subst this;exact#[t,B]
    .cases o
 .cases h
structure kL(K:Frag) (x:Yg) (st:Stmt) (f:Yh) (fd:EF):Prop where
 a:nsIn K OY x=Yb (Yb (.ref f))
 F:FnAt K x x st f fd
structure RG(P:we) (w:OR) (K:Frag) (mg:Yg->Option eF) (base h:Heap):Prop where
 X:K.In h
 G:h.Ns OY mg
abbrev Nb(x:Yg)(st:Stmt)(ps:Yi Yg):Prop:=∀(kV e g:eF) (l:Option Yh) (cdv j:eF) (d:List eF),d.length=ps.length->bindArgs (fnOf x x (mh st) (bx st) (ak st) .none kV e g l cdv j) #[d,[]]=pure (ps.zip d)
def kL.f (F:kL K x st g fd):jn K x x st g fd:=F.F.f
def kL.b (F:kL K x st g fd)(h:Nb x st ps:=by intro _ _ _ _ _ _;first|calc KG λ_=>rfl|calc Av λ_ _=>rfl|calc KH λ_ _ _=>rfl|calc KI λ_ _ _ _=>rfl|calc KJ λ_ _ _ _ _=>rfl):Binds K fd ps []:=F.F.f.binds h
def kL.has (F:kL K x st g fd)(R:RG P w K mg base h)(k:Nat)(o:Zt gz k g fd ps sp)(b:Nb x st ps:=by intro _ _ _ _ _ _;first|calc KG λ_=>rfl|calc Av λ_ _=>rfl|calc KH λ_ _ _=>rfl|calc KI λ_ _ _ _=>rfl|calc KJ λ_ _ _ _ _=>rfl):Za x k ps sp g fd:=#[o,RX R.X R.G F.a,F.F.kp,F.b b]
def kL.xW (F:kL K x st g fd)(R:RG P w K mg base h)(k:Nat)(o:Zt (yK P w) k g fd ps sp)(b:Nb x st ps:=by intro _ _ _ _ _ _;first|calc KG λ_=>rfl|calc Av λ_ _=>rfl|calc KH λ_ _ _=>rfl|calc KI λ_ _ _ _=>rfl|calc KJ λ_ _ _ _ _=>rfl):Zu x k ps sp g fd:=#[o,RX R.X R.G F.a,F.F.kp,F.b b]
def all_mk {l:Tw}{bh bg bf au:Yh}{cg b6 bu br bq:EF}(X:K.In h)(G:h.Ns OY mg)(aj:mg "law"=Yb (.ref fa))(F1:kL K "innermost" jG g1 e1)(F2:kL K "right_in" jx g2 e2)(F3:kL K "bound" oA g3 e3)(F4:kL K "places" ku g4 e4)(F5:kL K "tags_of" j5 g5 e5)(F6:kL K "look_once" jH g6 e6)(F7:kL K "look_tag" kB g7 e7)(F8:kL K "look_kinds" iY g8 e8)(F9:kL K "look_params" iy g9 e9)(F10:kL K "look_gap" mz bi cm)(F11:kL K "look_count" jX bh cl)(F12:kL K "look_arms" iN bg cj)(F13:kL K "look_term" jI bf ci)(F14:kL K "look_names" iZ be ch)(F15:kL K "_law_feed" uu bc cg)(F16:kL K "_law_take" uv bb cf)(F17:kL K "_law_names" dh ba ce)(F18:kL K "_law_named_kind" dJ a9 cd)(F19:kL K "_law_heads" j6 a8 cb)(F20:kL K "_law_named_leaf" b7 a7 ca)(F21:kL K "_law_named_match" ck a6 b9)(F22:kL K "_law_named" aW a5 b6)(F23:kL K "_law_named_program" aQ a4 b5)(F24:kL K "_law_within" kF a3 b4)(F25:kL K "_law_leaf_kind" iz a2 b3)(F26:kL K "_law_kind_fault" gX a1 b2)(F27:kL K "_law_kinds_fault" eV a0 b1)(F28:kL K "_law_arms_fault" dQ az b0)(F29:kL K "_law_itself_fault" fL ax bw)(F30:kL K "_law_term_fault" b8 aw bv)(F31:kL K "_law_due" i9 av bu)(F32:kL K "_law_told" nN au bt)(F33:kL K "_law_other_arms" gY as bs)(F34:kL K "_law_other" lN ar br)(F35:kL K "_law_back" nQ aq bq)(F36:kL K "_law_rebuilt" iO ap bp)(F37:kL K "_law_many" lQ ao bo)(F38:kL K "_law_changed" jJ am bn)(F39:kL K "law" nR al bm)(ab:nsIn K OY "GapError"=Yb (Yb (.ref b)))(ac1:nsIn K OY "Twice"=Yb (Yb (.ref W)))(ac2:nsIn K OY "NoName"=Yb (Yb (.ref U)))(ac3:nsIn K OY "WrongCount"=Yb (Yb (.ref S)))(ao0:nsIn K OY "BadText"=Yb (Yb (.ref o0)))(ao1:nsIn K OY "Clash"=Yb (Yb (.ref o1)))(ao2:nsIn K OY "NoGap"=Yb (Yb (.ref o2)))(ao3:nsIn K OY "NoRow"=Yb (Yb (.ref o3)))(ao4:nsIn K OY "TooLong"=Yb (Yb (.ref o4)))(ao5:nsIn K OY "TooMany"=Yb (Yb (.ref o5)))(j1:PJ K (.ref W) "__init__"=Yb (Yb (.ref f1)))(j2:PJ K (.ref U) "__init__"=Yb (Yb (.ref f2)))(j3:PJ K (.ref S) "__init__"=Yb (Yb (.ref f3)))(B:oq K b)(y1:ClsAt K W b (Yb (.ref f1)))(y2:ClsAt K U b (Yb (.ref f2)))(y3:ClsAt K S b (Yb (.ref f3)))(I1:FnAt K "__init__" "Twice.__init__" sZ f1 d1)(I2:FnAt K "__init__" "NoName.__init__" qN f2 d2)(I3:FnAt K "__init__" "WrongCount.__init__" j4 f3 d3)(tB:E3 K [W,U,S] [o0,o1,o2,o3,o4,o5] b=Yd)(aK:nsIn K OY "Known"=Yb (Yb (.ref C)))(bK:PJ K (.ref C) "__init__"=Yb (Yb (.ref mI)))(iK:isFn K (.ref mI)=Yd)(MK:FnAt K "__init__" "Known.__init__" fS mI dI)(k1:plainGet K C OU=Yd)(k2:Rz K C=Yd)(k3:plainOver K C=Yd)(k4:PJ K (.ref C) "__setattr__"=Yb (Yb (.builtin "object.__setattr__")))(k5:makesIn K C=Yd)(k6:QK K (.ref C)=Yd)(n1:PJ K (.ref C) "kinds"=Yb Yc)(n2:PJ K (.ref C) "kind_of_tag"=Yb Yc)(n3:PJ K (.ref C) "many_of_tag"=Yb Yc)(n4:PJ K (.ref C) "many_of_def"=Yb Yc)(n5:PJ K (.ref C) "gaps"=Yb Yc)(n6:PJ K (.ref C) "opens"=Yb Yc)(pP:nsIn K OY "PLACES"=Yb (Yb (.ref dP)))(lP:K.lookup dP=Yb {cls:=.type "dict",dict:=Yc,data:=.dict O nP,slots:=#[]})(kP:Iu w O.toList [("num",V.ref t0),("name",V.ref t1),("gap",V.ref t2),("op",V.ref t3),("more",V.ref t4),("first",V.ref t5),("others",V.ref t6),("long",V.ref t7),("if",V.ref t8)])(sP:(dP == Qq)=Ye)(pM:nsIn K OY "PLACE_OF_MANY"=Yb (Yb (.ref dM)))(lM:K.lookup dM=Yb {cls:=.type "dict",dict:=Yc,data:=.dict Q nM,slots:=#[]})(kM:Iu w Q.toList uN)(sM:(dM == Qq)=Ye)(q0:uY K t0 []=Yd)(q1:uY K t1 []=Yd)(q2:uY K t2 []=Yd)(q3:uY K t3 [2,3]=Yd)(q4:uY K t4 [1,2]=Yd)(q5:uY K t5 [1]=Yd)(q6:uY K t6 [1]=Yd)(q7:uY K t7 [1]=Yd)(q8:uY K t8 [1,2,3]=Yd)(z0:nsIn K OY "len"=Yb Yc)(z1:nsIn K OY "range"=Yb Yc)(z2:nsIn K OY "int"=Yb Yc)(z3:nsIn K OY "tuple"=Yb Yc)(z4:nsIn K OY "list"=Yb Yc)(z5:nsIn K OY "zip"=Yb Yc)(z6:nsIn K OY "repr"=Yb Yc)(z7:nsIn K OY "all"=Yb Yc)(z8:nsIn K OY "sum"=Yb Yc)(z9:nsIn K OY "isinstance"=Yb Yc)(z10:nsIn K OY "enumerate"=Yb Yc)(z11:nsIn K OY "sorted"=Yb Yc)(z12:nsIn K OY "ValueError"=Yb Yc):
  ∃fd:EF,(∀(s:fy) (v:eF),V7 s fd #[[v],[]] [("_law_script",v)])/\∀base:Heap,K.In base->base.Ns OY mg->cD l.prog w K mg base gz 17 fa fd ["_law_script"] (Bt K):=by
 let e:=aj.symm.trans (RX X G F39.a)
 cases e
 let D1:=I1.f.binds (ps:=Xs) λ_ _ _ _ _ _=>Av λ_ _=>rfl;let D2:=I2.f.binds (ps:=Xs) λ_ _ _ _ _ _=>Av λ_ _=>rfl;let D3:=I3.f.binds (ps:=Xs) λ_ _ _ _ _ _=>Av λ_ _=>rfl;let DK:=MK.f.binds (ps:=Xx) λ_ _ _ _ _ _=>Av λ_ _=>rfl;let d:=QS X G z0;let z_range:=QS X G z1;let p:=QS X G z2;let g:=QS X G z3;let t:=QS X G z4;let D:=QS X G z5;let L:=QS X G z6;let M:=QS X G z7;let H:=QS X G z8;let m:=QS X G z9;let y:=QS X G z10;let z:=QS X G z11;let u:=QS X G z12
 let TB:LI K w mg dP dM [("num",V.ref t0),("name",V.ref t1),("gap",V.ref t2),("op",V.ref t3),("more",V.ref t4),("first",V.ref t5),("others",V.ref t6),("long",V.ref t7),("if",V.ref t8)]:={
  mP:=RX X G pP,mM:=RX X G pM,kP:=#[O,nP,lP,kP,(show(["num","name","gap","op","more","first","others","long","if"]:Yi Yg).Nodup by decide),sP],kM:=#[Q,nM,lM,kM,by decide,sM],
  at_:=λf ps hm=>by
   unfold placesOf at hm;simp only[L0,O3,or_false,Prod.mk.injEq]at hm;rcases hm with⟨rfl,rfl⟩|⟨rfl,rfl⟩|⟨rfl,rfl⟩|⟨rfl,rfl⟩|⟨rfl,rfl⟩|⟨rfl,rfl⟩|⟨rfl,rfl⟩|⟨rfl,rfl⟩|⟨rfl,rfl⟩
   .exact#[t0,rfl,mU q0 (by decide)]
   .exact#[t1,rfl,mU q1 (by decide)]
   .exact#[t2,rfl,mU q2 (by decide)]
   .exact#[t3,rfl,mU q3 (by decide)]
   .exact#[t4,rfl,mU q4 (by decide)]
   .exact#[t5,rfl,mU q5 (by decide)]
   .exact#[t6,rfl,mU q6 (by decide)]
   .exact#[t7,rfl,mU q7 (by decide)]
   .exact#[t8,rfl,mU q8 (by decide)]}
 let(C3,(bl,bk,bj),ai,ah,ag):=KL B y1 y2 y3 tB;let N:KO K C:=#[#[k1,k2,k3,k4],n1,n2,n3,n4,n5,n6];let(od,kV,T,pm,an,cdv,ct,ae,rfl,lk,cc):=F39.F.ex;calc#[fnOf "law" "law" (mh nR) (bx nR) (ak nR) .none kV T pm an cdv ct,λs v=>.of_eq rfl,λbase _ _=>?_];let R:RG l.prog w K mg base h:=#[X,G];let I:CL l.prog w K mg base "Twice" "name" W f1 d1:=#[y1.k (x:="") (q:="") (st:=sZ) B I1.l ai,E6 I1.f bl,RX X G ac1,D1,y1.c];let o:CL l.prog w K mg base "NoName" "name" U f2 d2:=#[y2.k (x:="") (q:="") (st:=qN) B I2.l ah,CG I2.f bk,RX X G ac2,D2,y2.c];let r:CL l.prog w K mg base "WrongCount" "name" S f3 d3:=#[y3.k (x:="") (q:="") (st:=j4) B I3.l ag,vB I3.f bj,RX X G ac3,D3,y3.c];let IM:=F1.has R 1 (xC F1.f);let RI:=F2.has R 1 (yY F2.f TB);let de:=F3.has R 1 (Eg F3.f g);let cr:=F4.has R 2 (Cm F4.f de RI);let cp:=F5.has R 1 (Aa F5.f);let da:LM l.prog w K mg base C "__init__" 2 _ _ mI dI:=#[E4 MK.f N cp d,#[bK,iK,MK.kp],DK,N.c];let Z:=F6.xW R 3 (GB F6.f I y);let aa:=F10.xW R 3 (JJ F10.f I);let cz:=F7.xW R 3 (JL F7.f IM o);let c5:=F8.xW R 4 (DQ (cW:=S) F8.f Z cz);let c0:=F9.xW R 4 (Cd (cW:=S) F9.f N Z aa IM o);let ac:=F11.xW R 3 (D5 F11.f o r d);let c7:=F12.xW R 4 (GK F12.f N Z ac o r z);let cy:=F13.xW R 5 (Ea F13.f N Z ac c7 aa o);let c4:=F14.xW R 6 (Cw F14.f N #[k5,bK,iK,k6] da (RX X G aK) Z c5 c0 cr cy t d);let FD:=F15.has R 1 (Gn F15.f d);let J:=F16.has R 1 (Gm F16.f);let NM:=F17.has R 2 (Ew F17.f J z_range d p);let Y:=F18.has R 2 (Ex F18.f J z_range d);let db:=F19.has R 3 (Ey F19.f J Y z_range g);let cx:=F20.has R 2 (ED F20.f J d);let cw:=F22.has R 15 (CH F22.f (RX X G F22.a) F22.b F21.f (RX X G F21.a) F21.b J cx d p z_range g 7);let cv:=F23.has R 16 (ER (n:=7) (j:=15) (by decide) (by decide) F23.f J NM db Y cw d z_range g);let WI:=F24.has R 1 (Cp F24.f t p);let c6:=F25.has R 1 (DY F25.f g m);let ad:=F26.has R 2 (DZ F26.f c6);let c8:=F27.has R 3 (Cc F27.f ad d);let dg:=F28.has R 3 (D9 F28.f d M z_range);let c9:=F29.has R 4 (Cg F29.f dg d p);let cn:=F30.has R 14 (Ie F30.f (RX X G F30.a) F30.b WI c9 D t 10);let dc:=F31.has R 15 (Kz (n:=10) (j:=14) (by decide) F31.f c8 ad cn d);let co:=F32.has R 7 (Ia F32.f c4 C3 (RX X G ab) (RX X G ac1) (RX X G ac2) (RX X G ac3) (RX X G ao0) (RX X G ao1) (RX X G ao2) (RX X G ao3) (RX X G ao4) (RX X G ao5) m u H p);let cu:=F33.has R 2 (EU F33.f J d);let cs:=F34.has R 3 (EV F34.f J cu d p);let df:=F35.has R 1 (HS F35.f D g d);let cq:=F36.has R 13 (Ig F36.f (RX X G F36.a) F36.b WI cs df 10);let MA:=F37.has R 11 (E7 F37.f (RX X G F37.a) F37.b WI H 10);let dd:=F38.has R 14 (Ar (n:=10) (j:=13) (jm:=11) (by decide) (by decide) (by decide) F38.f J cq MA d t g);calc KA (n:=10) (jp:=16) (jd:=15) (jc:=14) (j:=16) (by decide) (by decide) (by decide) (by decide) (by decide) #[#[_,od,kV,T,pm,an,cdv,ct,ae,rfl,lk,cc],F39.F.kp] FD J cv co dc dd z_range L
def walk {l:Tw}{K:Params->bN}(hn:l.most=Yb 63)(g:d.params.defaults=[])(hY:∀(w:OR) (h:Heap),o w h->(K w.params).In h)(F:∀(w:OR) (mg:Yg->Option eF) (m:Yh) (h:Heap),(K w.params).In h->h.Ns OY mg->mg d.name=Yb (.ref m) ->
   ∃j:EF,(∀(s:fy) (u:eF),V7 s j #[[u],[]] [("_law_script",u)])/\∀base:Heap,(K w.params).In base->base.Ns OY mg->cD l.prog w (K w.params) mg base gz 17 m j ["_law_script"] (Bt (K w.params))):
  WL q e v o l.row.toRowW d [] (λf vs=>WE f vs) :=
 L2.FA (n:=63) (k:=17) (x:="_law_script") (CX:=λ_=>gz) (sp:=λw=>Bt (K w.params)) hn (by decide) g #[rfl,by decide,by decide,rfl] hY F (λ_ _ a p r _ t=>#[a,p,rfl,t,r,λ_=>rfl]) λ_ _ _ _ _ z=>z
end G15
namespace PySem.W.Fast
def tw14663877703528613731:True:=⟨⟩
def tw9210525128217167382:True:=⟨⟩
def tw7104262015778763663:True:=⟨⟩
def tw17764630522041517672:True:=⟨⟩
def tw14430253561604992699:True:=⟨⟩
def tw1398139927126398264:True:=⟨⟩
def tw3835127167944681904:True:=⟨⟩
def tw4328481458553380350:True:=⟨⟩
def tw12339950402677610023:True:=⟨⟩
def tw4164292367141816936:True:=⟨⟩
def tw4641646771580474261:True:=⟨⟩
def tw11448379515558668148:True:=⟨⟩
def tw18176161104414497348:True:=⟨⟩
def tw17676847448878515634:True:=⟨⟩
def tw2730650508124873372:True:=⟨⟩
def tw982944875339912270:True:=⟨⟩
def tw5071552240411039721:True:=⟨⟩
def tw17308129480695649379:True:=⟨⟩
def tw18246626171375535155:True:=⟨⟩
def tw7126317277755087353:True:=⟨⟩
def tw12844788021107439040:True:=⟨⟩
def tw7182112958794993108:True:=⟨⟩
def tw319744167097587149:True:=⟨⟩
def tw13673971187184320406:True:=⟨⟩
def tw5439265929629736162:True:=⟨⟩
def tw12194778662325034600:True:=⟨⟩
def tw4447823842967452155:True:=⟨⟩
def tw6144200299633537679:True:=⟨⟩
def tw1771113895400802404:True:=⟨⟩
def tw5489116300995694025:True:=⟨⟩
def tw5171605461331304809:True:=⟨⟩
def tw17214035355264016566:True:=⟨⟩
def tw13521038845503514248:True:=⟨⟩
def tw12760819001699861611:True:=⟨⟩
def tw8985120977117998091:True:=⟨⟩
def tw14528003069267774133:True:=⟨⟩
def tw18220565617071808182:True:=⟨⟩
def tw12259965450309982199:True:=⟨⟩
def tw12122384897137914886:True:=⟨⟩
def tw2295082949564987125:True:=⟨⟩
def tw354854425383113594:True:=⟨⟩
def tw13236389302407859777:True:=⟨⟩
def tw281014426686841039:True:=⟨⟩
def tw9368678765156937808:True:=⟨⟩
def tw387298030497999806:True:=⟨⟩
def tw16995133951966496227:True:=⟨⟩
def tw2663543348675455046:True:=⟨⟩
def tw18128270272679256486:True:=⟨⟩
def tw1729453458020246706:True:=⟨⟩
def tw2574869719682006428:True:=⟨⟩
def tw6968088662450031576:True:=⟨⟩
def tw12718263683610590855:True:=⟨⟩
def tw9391356702710023165:True:=⟨⟩
def tw3573030103375735113:True:=⟨⟩
def tw13594628991798517768:True:=⟨⟩
def tw11226392098158328237:True:=⟨⟩
def tw620307056517763479:True:=⟨⟩
def tw12303146877703029811:True:=⟨⟩
def tw14254839986269309975:True:=⟨⟩
def tw15041147905647074016:True:=⟨⟩
def tw1015671128383372963:True:=⟨⟩
def tw3402442583820576440:True:=⟨⟩
def tw9145380031470734999:True:=⟨⟩
def tw6280049726495257133:True:=⟨⟩
def tw1558007267139028342:True:=⟨⟩
def tw4476974531976069127:True:=⟨⟩
def tw7937805198140741170:True:=⟨⟩
def tw9229546673986041272:True:=⟨⟩
def tw548325474349344989:True:=⟨⟩
def tw15282235960248793110:True:=⟨⟩
def tw17510558401629329172:True:=⟨⟩
def tw1645375512901205544:True:=⟨⟩
def tw16944124844393455332:True:=⟨⟩
def tw939774664641393076:True:=⟨⟩
def tw183951659157115227:True:=⟨⟩
def tw4944918667853104428:True:=⟨⟩
def tw7261590741336001304:True:=⟨⟩
def tw15171533808033502610:True:=⟨⟩
def tw9676636196419742705:True:=⟨⟩
def tw6546411922798711382:True:=⟨⟩
def tw10458738716608975373:True:=⟨⟩
def tw5765742491946326930:True:=⟨⟩
def tw13985109124937268452:True:=⟨⟩
def tw14967083180824694646:True:=⟨⟩
def tw4547418771443861654:True:=⟨⟩
def tw13873713926475551725:True:=⟨⟩
def tw2560457138999240502:True:=⟨⟩
def tw9284934867150837128:True:=⟨⟩
def tw8684376563567380450:True:=⟨⟩
def tw16872018004861160901:True:=⟨⟩
def tw2573259566914890135:True:=⟨⟩
def tw5138605198523784235:True:=⟨⟩
def tw1990113696787757790:True:=⟨⟩
def tw13077642581867356363:True:=⟨⟩
def tw1365652086961252951:True:=⟨⟩
def tw5045180365161012242:True:=⟨⟩
def tw3966550850060112267:True:=⟨⟩
def tw3967449449361271359:True:=⟨⟩
def tw14661292842878706037:True:=⟨⟩
def tw18169832064296264317:True:=⟨⟩
def tw15584371666354041181:True:=⟨⟩
def tw16722217030946278786:True:=⟨⟩
def tw2005130128959802433:True:=⟨⟩
def tw9858673871500759103:True:=⟨⟩
def tw12156707386830576029:True:=⟨⟩
def tw2192517883019011083:True:=⟨⟩
def tw12867858873956375739:True:=⟨⟩
def tw17764091991440062451:True:=⟨⟩
def tw11062332823635016398:True:=⟨⟩
def tw2255780772010418674:True:=⟨⟩
def tw10282642335958404662:True:=⟨⟩
def tw15193326797822307386:True:=⟨⟩
def tw3465008010072119513:True:=⟨⟩
def tw4476792009204089773:True:=⟨⟩
def tw6373544142764662808:True:=⟨⟩
def tw2847365192333984345:True:=⟨⟩
def tw12753823153700323370:True:=⟨⟩
def tw2552522873468040662:True:=⟨⟩
def tw15064734051284468741:True:=⟨⟩
def tw4966649569808328727:True:=⟨⟩
def tw2702836379818605174:True:=⟨⟩
def tw7956559312528887688:True:=⟨⟩
def tw3550428884090718831:True:=⟨⟩
def tw5082053321034657664:True:=⟨⟩
def tw6023176788760424986:True:=⟨⟩
def tw2549454138343557291:True:=⟨⟩
def tw1506821408609147751:True:=⟨⟩
def tw2613817224282328554:True:=⟨⟩
def tw4562529443289171329:True:=⟨⟩
def tw2383493870073309946:True:=⟨⟩
def tw11666094221745127206:True:=⟨⟩
def tw3674887187132191658:True:=⟨⟩
def tw13715409942299385778:True:=⟨⟩
def tw646015185528024243:True:=⟨⟩
def tw18181527981920435755:True:=⟨⟩
def tw17248185655782123140:True:=⟨⟩
def tw2384034396139542444:True:=⟨⟩
def tw10004540276239236378:True:=⟨⟩
def tw10115797421355634778:True:=⟨⟩
def tw2661987453691596320:True:=⟨⟩
def tw629763908365310520:True:=⟨⟩
def tw1685211762961811953:True:=⟨⟩
def tw2766051051458073818:True:=⟨⟩
def tw18267133472426990869:True:=⟨⟩
def tw3672121900214886572:True:=⟨⟩
def tw3128272350028579290:True:=⟨⟩
def tw15576311613810242782:True:=⟨⟩
def tw9332686279367621856:True:=⟨⟩
def tw520166647587784944:True:=⟨⟩
def tw17911520377888202178:True:=⟨⟩
def tw8225359337077420774:True:=⟨⟩
def tw17567094623391528304:True:=⟨⟩
def tw5465983929177615747:True:=⟨⟩
def tw5733035772729906116:True:=⟨⟩
def tw6822282778179229194:True:=⟨⟩
def tw3717299562894787158:True:=⟨⟩
def tw11780114973486407826:True:=⟨⟩
def tw8653491687023856221:True:=⟨⟩
def tw14935971519142248296:True:=⟨⟩
def tw13465610921469124931:True:=⟨⟩
def tw12658838845322894502:True:=⟨⟩
def tw10002526745575466405:True:=⟨⟩
def tw12474000205460358090:True:=⟨⟩
def tw3387616152063452637:True:=⟨⟩
def tw10644635890429118895:True:=⟨⟩
def tw14818953147657002963:True:=⟨⟩
def tw14193733037341425290:True:=⟨⟩
def tw1297358621237234326:True:=⟨⟩
def tw6651228863615334776:True:=⟨⟩
def tw4681001646632835725:True:=⟨⟩
def tw3762236860565745670:True:=⟨⟩
def tw14302031310232438100:True:=⟨⟩
def tw13023703988502472221:True:=⟨⟩
def tw10560274725867206954:True:=⟨⟩
def tw8462289887791501049:True:=⟨⟩
def tw5338302532861090462:True:=⟨⟩
def tw17606452329309920294:True:=⟨⟩
def tw6238806364948475202:True:=⟨⟩
def tw411222075873478083:True:=⟨⟩
def tw8525923991634477113:True:=⟨⟩
def tw9261719227713335856:True:=⟨⟩
def tw18254085802156165929:True:=⟨⟩
def tw15387653475453421601:True:=⟨⟩
def tw12605814158734237388:True:=⟨⟩
def tw1229524248016241015:True:=⟨⟩
def tw14776289232451904454:True:=⟨⟩
def tw4812177523859367515:True:=⟨⟩
def tw8189668617459075891:True:=⟨⟩
def tw15663524674114243536:True:=⟨⟩
def tw14861093819007393617:True:=⟨⟩
def tw8673499500391179243:True:=⟨⟩
def tw8333364763798554221:True:=⟨⟩
def tw5493748488615480024:True:=⟨⟩
def tw18179665146308687625:True:=⟨⟩
def tw11444389398645750282:True:=⟨⟩
def tw13482167814971424674:True:=⟨⟩
def tw14980451531609573896:True:=⟨⟩
def tw7581500607890668984:True:=⟨⟩
def tw14354652487825736542:True:=⟨⟩
def tw1781095025924606249:True:=⟨⟩
def tw4644197855557046379:True:=⟨⟩
def tw10755058506409429044:True:=⟨⟩
def tw317503168884054130:True:=⟨⟩
def tw2153137433090650711:True:=⟨⟩
def tw16743431566941260924:True:=⟨⟩
def tw15628001909024051643:True:=⟨⟩
def tw5896380771233685315:True:=⟨⟩
def tw14766813552722719630:True:=⟨⟩
def tw1699890307631913643:True:=⟨⟩
def tw6228321714759753520:True:=⟨⟩
def tw10668894296765350941:True:=⟨⟩
def tw60723857257326553:True:=⟨⟩
def tw4277903167001744413:True:=⟨⟩
def tw13560505017042779102:True:=⟨⟩
def tw3792490123387089399:True:=⟨⟩
def tw17507715706174039382:True:=⟨⟩
def tw11261618603118448316:True:=⟨⟩
def tw9571893334928902392:True:=⟨⟩
def tw3811143063478932155:True:=⟨⟩
def tw9683186452173146029:True:=⟨⟩
def tw15573915044187611614:True:=⟨⟩
def tw3214659184558134167:True:=⟨⟩
def tw4116036559693819962:True:=⟨⟩
def tw1890515670294086002:True:=⟨⟩
def tw15382101480061656265:True:=⟨⟩
def tw4195306831453834252:True:=⟨⟩
def tw1081973854365060061:True:=⟨⟩
def tw10182213379043855977:True:=⟨⟩
def tw15908563022448659405:True:=⟨⟩
def tw12649134791574420544:True:=⟨⟩
def tw8254869094910175184:True:=⟨⟩
def tw3830862673205442382:True:=⟨⟩
def tw16386781260844212631:True:=⟨⟩
def tw15270910458053697702:True:=⟨⟩
def tw46743505824010897:True:=⟨⟩
def tw14300080769314500510:True:=⟨⟩
def tw1521030527474169303:True:=⟨⟩
def tw6415418135150723075:True:=⟨⟩
def tw3251795533060952576:True:=⟨⟩
def tw12601071565081066646:True:=⟨⟩
def tw9501133379047601261:True:=⟨⟩
def tw1989053607457719085:True:=⟨⟩
def tw16493229702055393390:True:=⟨⟩
def tw16021781398958050844:True:=⟨⟩
def tw15494352684103847339:True:=⟨⟩
def tw3258881771007858527:True:=⟨⟩
def tw9687032141649076703:True:=⟨⟩
def tw12011703914587328182:True:=⟨⟩
def tw13849251082423444763:True:=⟨⟩
def tw5589276409036229797:True:=⟨⟩
def tw17403047950483600229:True:=⟨⟩
def tw9774891244407688021:True:=⟨⟩
def tw7888078648358618690:True:=⟨⟩
def tw2416290045038056185:True:=⟨⟩
def tw13305122067192111721:True:=⟨⟩
def tw17228951423251996925:True:=⟨⟩
def tw10888896785459053995:True:=⟨⟩
def tw9205676108267736281:True:=⟨⟩
def tw8561302782197901153:True:=⟨⟩
def tw5256169274552282147:True:=⟨⟩
def tw17616767433948396500:True:=⟨⟩
def tw14096950043461391809:True:=⟨⟩
def tw13746285378878930971:True:=⟨⟩
def tw11963822259755573787:True:=⟨⟩
def tw10136514777137013903:True:=⟨⟩
def tw9035605154796256296:True:=⟨⟩
def tw3331388943073552466:True:=⟨⟩
def tw16655449269520243650:True:=⟨⟩
def tw14710435167949625770:True:=⟨⟩
def tw3946838033422992417:True:=⟨⟩
def tw16280093021961508483:True:=⟨⟩
def tw13610903912029267625:True:=⟨⟩
def tw17199165915940109999:True:=⟨⟩
def tw15058760805360184755:True:=⟨⟩
def tw3221345268265970768:True:=⟨⟩
def tw9065952908512968584:True:=⟨⟩
def tw10858612352810979971:True:=⟨⟩
def tw3385561970730561463:True:=⟨⟩
def tw11753765475940928866:True:=⟨⟩
def tw5327908732972681991:True:=⟨⟩
def tw15276592651703312284:True:=⟨⟩
def tw12209817976170630874:True:=⟨⟩
def tw10776748291317630678:True:=⟨⟩
def tw9419100538448809934:True:=⟨⟩
def tw14634141138678434383:True:=⟨⟩
def tw607146584196697002:True:=⟨⟩
def tw1710424318104095601:True:=⟨⟩
def tw1318274094527502268:True:=⟨⟩
def tw13216361899538743502:True:=⟨⟩
def tw4379455559002408863:True:=⟨⟩
end PySem.W.Fast
open PyProof.Rows
set_option maxRecDepth 100000 in
set_option maxHeartbeats 0 in
theorem PySem.Challenge.cw_gapwork_k15_terms_amiss_holds : PySem.Challenge.rw_gapwork_k15_terms_amiss.Holds := by
  w_on; o_law; k_head; (case hw => w_witness2)
  k_fill
  refine G15.walk (l := PySem.Challenge.rw_gapwork_k15_terms_amiss) rfl rfl (λw h Y => PySem.W.kIn_of Y) ?F
  case F =>
    intro w mg fa h KX G hmg
    apply G15.all_mk KX G hmg
    case F1|F2|F3|F4|F5|F6|F7|F8|F9|F10|F11|F12|F13|F14|F15|F16|F17|F18|F19|F20|F21|F22|F23|F24|F25|F26|F27|F28|F29|F30|F31|F32|F33|F34|F35|F36|F37|F38|F39=>exact #[by k_is, G15.bq (by k_is) (by k_is) (by k_is)]
    case ab|ac1|ac2|ac3|ao0|ao1|ao2|ao3|ao4|ao5|j1|j2|j3|aK|bK|k1|k2|k3|k4|k5|k6|n1|n2|n3|n4|n5|n6|pP|lP|pM|lM|z0|z1|z2|z3|z4|z5|z6|z7|z8|z9|z10|z11|z12=>k_is
    case B|y1|y2|y3=>exact ⟨#[_, _, _, _, _, _, _, _, _, _, _, _, _, _, _, by k_is, _, _, _, _, _, by k_is, by kernel_rfl, by kernel_rfl]⟩
    case tB|sP|sM|q0|q1|q2|q3|q4|q5|q6|q7|q8=>kernel_rfl
    case kP=>exact #[_, _, _, rfl, #[_, rfl], rfl, rfl, #[_, _, _, rfl, #[_, rfl], rfl, rfl, #[_, _, _, rfl, #[_, rfl], rfl, rfl, #[_, _, _, rfl, #[_, rfl], rfl, rfl, #[_, _, _, rfl, #[_, rfl], rfl, rfl, #[_, _, _, rfl, #[_, rfl], rfl, rfl, #[_, _, _, rfl, #[_, rfl], rfl, rfl, #[_, _, _, rfl, #[_, rfl], rfl, rfl, #[_, _, _, rfl, #[_, rfl], rfl, rfl, rfl]]]]]]]]]
    case kM=>exact #[_, _, _, rfl, #[_, rfl], rfl, #[_, rfl], #[_, _, _, rfl, #[_, rfl], rfl, #[_, rfl], #[_, _, _, rfl, #[_, rfl], rfl, #[_, rfl], rfl]]]
    case I1|I2|I3=>exact G15.bq (by k_is) (by k_is) (by k_is)
    case iK=>k_is
    case MK=>exact G15.bq (by k_is) (by k_is) (by k_is)
#print axioms PySem.Challenge.cw_gapwork_k15_terms_amiss_holds

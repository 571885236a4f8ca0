import PyProof.Rows.All
import Wide.All
import OpenK.AllK
import Wide.FinOn
import PyProof.EqAt
import PyProof.EqKinds
import PyProof.NeKinds
import PyProof.TupleCall
import PyProof.StrLawsRepr
import KE.KIsAll
import KE.KItem
import KE.KDictOf
import KE.KBytesAny
import KE.KDictList
import Lean
import PySem.Challenge.RW_gapwork_k34_fillings_refused
set_option compiler.extract_closed false
set_option bootstrap.genMatcherCode false
local macro_rules|`(tactic|decide)=>`(tactic|decide +kernel)
local macro_rules|`(tactic|left)=>`(tactic|(show _=_;kernel_rfl))
local macro_rules|`(())=>`(by omega)
open Lean in
def rP:Nat->Syntax->MacroM (TSyntax `rcasesPat)
 |0,_=>Macro.throwUnsupported
 |n+1,s=>match s with
  |`(($a,$b,*))=>do
   let x<-rP n a
   let y<-b.getElems.mapM fun z=>rP n z
   let x:=#[x]++y
   `(rcasesPat|⟨$[$x:rcasesPat],*⟩)
  |`(_)=>`(rcasesPat|_)
  |`($i:ident)=>`(rcasesPat|$i:ident)
  |_=>Macro.throwUnsupported
local macro_rules|`(tactic|have($a,$b,*):=$e)=>do
 let x<-rP 9 a
 let y<-b.getElems.mapM fun z=>rP 9 z
 let x:=#[x]++y
 `(tactic|obtain⟨$[$x:rcasesPat],*⟩:=$e)
local macro_rules|`(#[$x,*])=>if x.elemsAndSeps.size<2||x.elemsAndSeps.size%2==0 then Lean.Macro.throwUnsupported else `(⟨$x,*⟩)
local macro_rules|`(tactic|omega)=>`(tactic|first|lia|omega +splitDisjunctions)
set_option Elab.async false
set_option linter.all false
set_option maxRecDepth 100000
open Array renaming length_toList->Pw,getElem?_toList->P1,getElem?_setIfInBounds_self_of_lt->P6,getElem?_eq_getElem->Qn,toList_append->RK,forIn_toList->Se,getElem?_eq_some_iff->Sj,mem_toList_iff->Ub,append_assoc->Uu,toList_inj->U1
open Bool renaming false_ne_true->FG,and_eq_true->Nr,false_eq_true->NC,eq_iff_iff->Qz,or_eq_true->RC,or_true->RU,or_false->Up,true_or->UM
open False renaming elim->Nx
open Int renaming toNat_natCast->NY,zero_add->Qk,eq_ofNat_of_zero_le->QJ,emod_lt_of_pos->Sd,ediv_le_self->Te,emod_nonneg->Tv,ediv_nonneg->TF
open LawfulBEq renaming eq_of_beq->Oa
open List renaming length_map->bC,length_append->j3,getElem?_eq_some_iff->ko,getElem?_eq_getElem->my,map_append->m3,mem_singleton->pD,getElem?_map->rj,size_toArray->sE,mem_of_getElem?->t9,mem_cons->vy,length_take->we,take_succ_eq_append_getElem->EF,mem_append_right->I0,mem_append->MH,not_mem_nil->MK,take_length->MS,mem_of_mem_take->MT,replicate->MU,length_cons->MW,map_cons->M0,lookup_cons->M4,append_nil->M5,append_assoc->M6,getElem?_append_right->M7,mem_append_left->M8,take_of_length_le->Na,getElem?_append_left->Ng,mem_map_of_mem->Ni,range->Nj,flatMap_append->Nv,mem_cons_of_mem->Nz,zipWith->NB,filterMap_cons->NG,length_eq_zero_iff->NH,flatMap_cons->NJ,length_filterMap_le->NL,length_reverse->NP,eraseIdx_eq_take_drop_succ->NR,map_take->NS,mem_map->NV,nodup_append->NZ,mem_cons_self->Oh,length_drop->Oj,all_eq_true->Oz,drop_length->OF,take_zero->OH,getElem?_of_mem->OJ,find?_cons->OO,replicate_succ->OP,length_zipWith->OR,map->OS,getD_eq_getElem?_getD->OX,contains_cons->OY,length_replicate->O0,getElem?_eq_none->O1,filterMap_append->O2,length_filter_le->O3,nodup_cons->O9,forIn_cons->Pa,getElem?_set_ne->Pd,map_map->Ph,mem_of_mem_drop->Pk,getElem?_replicate->Py,forIn_nil->Pz,filterMap->PB,mem_flatMap->PD,length->PF,getElem?_set_self->PK,of_mem_zip->PN,nil_append->PR,reverse_cons->P5,cons_append->Qi,getElem_mem->Qj,getElem?_eq_none_iff->Ql,reverse_append->Qs,map_drop->Qy,zip_cons_cons->QE,mem_range->QM,flatten_cons->QU,find?_cons_of_neg->QY,find?_cons_of_pos->QZ,eraseIdxIfInBounds_toArray->Q0,length_singleton->Q3,eq_nil_or_concat->Q5,map_reverse->Q9,take->Ra,nil_sublist->Rb,all_cons->Rg,any_cons->Rh,lookup->Rn,take_append_of_le_length->Ru,mem_filter->Rw,mem_filterMap->R1,map_singleton->Sf,getElem?_take->Sl,length_eraseIdx_of_lt->Sm,any_eq_false->Sz,getElem?_take_of_lt->SG,mem_of_mem_eraseIdx->SJ,pairwise_singleton->SV,mem_reverse->SW,getElem?_cons_zero->Tf,map_nil->Tj,reverse_singleton->Tp,drop_of_length_le->Tr,length_zip->Tz,getElem?_zipWith->TH,singleton_append->TJ,dropLast_concat->TY,reverse_reverse->TZ,nodup_nil->Ua,sum_cons->Uq,Pairwise->Ur,filterMap_map->Uy,pairwise_cons->UB,take_sublist->UI,length_range->UW,flatMap_nil->U5,zipIdx_cons->U6,any_eq_true->Va,foldl->Vk
open List.Sublist renaming refl->QX
open Nat renaming le_refl->mu,lt_of_lt_of_le->zo,le_trans->FA,zero_le->MP,ne_of_lt->MQ,lt_irrefl->Np,le_of_lt->Ny,le_add_right->Ol,ne_of_gt->Oo,le_of_ble_eq_true->O5,min_eq_left->Pb,pow_le_pow_right->Pn,le_succ->PJ,lt_of_le_of_lt->QD,not_lt->Q8,min_le_left->RH,lt_trans->RP,succ_le_succ->SQ,lt_succ_self->SS,min_eq_right->SX,min_self->To,le_of_eq->Tt,add_le_add_left->Ue,mul_le_mul_left->Uj,succ_mul->UL,lt_succ_of_lt->UN,sub_self->UO,le_total->UP,lt_succ_of_le->UU
open Nat.succ renaming inj->Vp
open Ne renaming symm->NW
open Option renaming map_eq_some_iff->ur,bind_some->OG,map_some->QA,isSome_iff_exists->SE,getD_none->SO
open Option.some renaming inj->Nd,injEq->QV
open PyProof.Rows renaming boot_tuple->MJ,callWith_type1->Nl,slot_tuple_getitem->ND,boot_int->O4,boot_list->O6,boot_isinstance->PY,boot_max->Q7,envOfC->Rz,AllBare->RM,assignInOrder_cons->RZ,subscriptTail_builtinR->Ti,boot_dict->Tu,subscriptTail->Uo,Subscript_->Uz,IntsAre->Vh
open PyProof.Rows.IsTup renaming new->UX
open PySem renaming wpAny_bind->bB,Value->cB,Shared->eT,wpAny_pure->lj,sizeLine->mC,FuncData->rE,Program->sC,wpAny->u4,World->FT,model->L0,mainGlobals->ML,Around->MM,wpAny_field->MX,wpAny_holding->MZ,starEach->M3,wpAny_callSpecial?_slot->Nb,wpAny_Call_Name_kw->Nf,mem_of_lookup->Nh,wpAny_mono->Nk,sliceBounds->Nq,wpAny_seqItems->Nt,rawInt->NK,wpAny_call_entry->NT,wpAny_newObj_type->NX,wpAny_typeOf->Of,sysModules->Og,wpAny_attempt->Om,Scope->Ov,builtinLookup_eq_fast->Ow,compareOp->Ox,wpAny_setField_rec->OA,IsPair->OB,wpAny_isInstance->OD,wpAny_loadPart_at->ON,strKind->OV,wpAny_passesOwn->O8,foldedSetIterable->Pe,binaryOp->Pf,typeLookup->Pq,Builtin->Px,codeAny_mono->PM,wpAny_specialOf->PU,typeLookup_type->PV,wpAny_updateSeq->PX,wpAny_standAt->PZ,DictEntry->P0,wpAny_rule->P7,NameKind->P8,boot_len->Qa,codeAny_call_builtin->Qc,excClassObj->Qe,wpAny_execs_cons->Qf,codeAny->Qg,valueAt->Qh,backTo->Qo,pyNext->Qp,wpAny_isSubtype_exc->Qu,plainId_quiet->Qx,assignEach->QB,wpAny_call->QC,getattributeRaised->QF,wpAny_setField->QW,codeAny_call_function->Q2,attributeBase->Rf,wpAny_onRaise->Ri,strLen_append->Rj,sizeLine_eq->Rl,cLine->Rm,ZipApart->Ro,wpAny_updateSeq_pair->Rq,wpAny_letGo->Rr,unbindBehindTheSuite->Rt,wpAny_execs_nil->Rx,letOwnedTupleGo->Ry,IsPart->RB,codeAny_builtin->RE,wpAny_loadPart'->RI,bootBuiltins->RL,holding->RN,getItem->RO,wpAny_mkText->RQ,swapsWith->RV,Arguments->RW,seqIndex?->RX,wpAny_pyIter_tuple->R0,wpAny_newFunctionEnv_cells->R4,call_meets->R9,tupleKind_room_in1->Sa,sliceRange->Sb,wpAny_truthy_bool->Su,wpAny_pyIter_list->Sv,wpAny_sequenceKey->Sw,slot_list_getitem->Sx,behindInMarks->SD,wpAny_getItem_list_slice->SH,tupleKind->SK,noFill_tuple_add->SM,callGetattribute->SY,field->S2,IsZip->S3,updateSeq->S4,wpAny_pyIter_zip->Tc,builtinsNs->Tg,isInstance->Tq,getAttrByItsOwn->Tw,bindName->TN,wpAny_bindName->TQ,Result->TR,subscripted->TV,getAttr?->T3,boundAndCalled->T4,callType_codes->T5,isSubtype_stop->T7,wpAny_listPart->T8,wpAny_loadPart->T9,callerA->Uc,assignInOrder->Uk,seq_tuple_add->Ul,evalPart_none->Um,assign->Uw,merged->UA,setItem->UE,BindsTo->UH,codeAny_func->UJ,concat_meets->UK,cellsFrom->UZ,slicePick->U0,noteFrame->U3,getAttrBy->U4,Model->Vc,atKey->Vd,Keyword->Vg,bindL->Vi,bindC->Vj,call->Vl,nsFind->Vn
open PySem.Around renaming under_plainId->Qd,under->Th,frames_deeper->TU
open PySem.Builtin.Dict renaming updateFrom->S1
open PySem.Builtin.List renaming listExtendWith->NQ,listSameRef->Oe,listItems->OU,listTooLong->Pr,listLengthHint->RS,listSubscript?->RT,listAllItems->Sq,listUpdate->S9
open PySem.Builtin.Slice renaming slicePlaces->O7,sliceAdjust->Qm,sliceApplied->R5
open PySem.Builtin.SmallTypes renaming nextOf->MR,ownedTupleIsFree->MV,ownedTupleHandOut->Qt
open PySem.Builtin.Tuple renaming tupleExact->Pp,tupleItemsOf->R6
open PySem.Calls renaming spliced_cons->PL,spliced_nil->QN,callWith_builtin->QT,Name_function_global->RY,evalArgs_plain->TX
open PySem.Code renaming quiet_builtin->UC,isFrame->UG
open PySem.EntryCells renaming newEntry->Ui
open PySem.F renaming slot_list_append->MN,type_list_append->MO,slot_zip_next->Nu,slot_list_extend->Oc,type_list_extend->Od,slot_tuple_iterator_next->Oq,slot_tuple_getattribute->Ot,plain_extend_loop->Ou,slot_list_getattribute->OE,plainAttrs_list->OL,args_zip_next_1->OM,slot_list_pop->OQ,entry_zip_next->OT,type_list_pop->P4,args_tuple_add_2->Qw,args_tuple_iterator_next_1->QG,entry_tuple_add->QI,entry_tuple_iterator_next->QL,slot_tuple_add->QS,slot_dict_get->Q4,slot_dict_getitem->Sn,entry_extend_loop->So,args_list_init_2->SI,args_dict_get_3->SR,typeCall_list_1->S5,entry_list_init->S7,attr_ValueError->Td,entry_dict_get->Tn,called_list->Uh
open PySem.Heap renaming get?_push_of_some->lu,lt_size->ri,get?_push_size->zv,get?_update_other->M9,get?_update_self->Nc,size_push->Ob,SameBut->Pc,get?_update_ne->Qv,get?_none_of_le->Rk,ExtBut->T6,get?_push_at->US
open PySem.Heap.DictOf renaming new->Vf
open PySem.Heap.IsSliceOf renaming new->R7
open PySem.Heap.SameBut renaming update->Ug
open PySem.IsL renaming isList->U7
open PySem.Obj renaming mapSeq->Nn,mapFields->Pu,data_mapFields->QH,isFreed_of_fields->Q6,cls_mapFields->UQ
open PySem.PassesOwn renaming never->RD
open PySem.PyData renaming keyHash->Si
open PySem.SeqAt renaming EqAt->Oi,RcNeAt->P9
open PySem.SeqAt.EqAt renaming int_str->Us,str_int->Ut
open PySem.Shared renaming TypeIs->OW,heap->Ve
open PySem.Str renaming ofString->MI,empty->MY,length->R8
open PySem.Txt renaming slice->OC,mul->Sy,slice_le->UD
open PySem.Value renaming isStrOf->SA
open PySem.W renaming Frag->bA,keepIn->NF,CodeHd->OI,mg_none_of->OZ,fnOf->Pg,envX->Pj,mg_of->Po,codeIn->Qq,fnX->QK,cellsFrom_some->QO,findIn->Rc,hideAll->Rv,OpenLaw->RJ,callWith_K->R3,tabObj->Sh,kitOne->Sk,methodObj->Ss,hideAll_size->TL,hideAll_none->TM,hideAll_get->Ud,of_hideAll->Uv,codeRec_of->Ux,FnAt->UR,looks_findIn->UT,plainGet->UY,tabIn->U8,hasDictIn->U9,fnMade->Vm,WalkO->Vo
open PySem.W.KFB renaming if_not->Sg
open Sum.inl renaming inj->Vb
abbrev Vq:List PySem.Str:=["_law_feed_here","_law_scene_here","_law_around","_law_kind","_law_room","_law_down","_law_form","_law_share","_law_x","_law_goal","_law_one","_law_more","_law_test","_law_y","_law_rows","_law_begin","_law_some","_law_f","_law_wants","_law_terms"]
abbrev Vr:List PySem.Str:=["_law_feed_here","_law_scene_here","_law_room","_law_hides","_law_known","_law_defs","_law_opens_here","_law_wants","_law_goal","_law_many","_law_k","_law_params","_law_term_here","_law_shown"]
abbrev Vs:List PySem.Str:=["_law_feed_here","_law_scene_here","_law_around","_law_kind","_law_room","_law_down","_law_half","_law_goal","_law_one","_law_form","_law_many","_law_share","_law_tags","_law_t","_law_inner"]
abbrev Vt:List PySem.Str:=["_law_feed_here","_law_scene_here","_law_around","_law_kind","_law_room","_law_down"]
abbrev Vu:List PySem.Str:=["_law_there_here","_law_some","_law_within","_law_numbers","_law_lacking","_law_k","_law_stands","_law_n","_law_what","_law_number_here"]
abbrev Vv:List PySem.Str:=["_law_one","_law_feed_here","_law_scene_here","_law_around","_law_room","_law_down","_law_wants"]
abbrev Vw:List PySem.Str:=["_law_feed_here","_law_scene_here","_law_around","_law_kind","_law_goal","_law_share","_law_down","_law_tags","_law_arms_here","_law_t","_law_inner","_law_turn","_law_names_here","_law_more"]
abbrev Vx:List PySem.Str:=["_law_script","_law_program","_law_scene_here","_law_left","_law_opens_here","_law_k","_law_feed_here","_law_found","_law_kinds_here","_law_good","_law_turn","_law_some","_law_one"]
abbrev Vy:List PySem.Str:=["_law_feed_here","_law_many"]
abbrev Vz:List PySem.Str:=["_law_k","_law_feed_here","_law_scene_here","_law_around","_law_kind","_law_down","_law_share"]
abbrev VA:List PySem.Str:=["_law_feed_here","_law_program","_law_scene_here","_law_left","_law_opens_here","_law_found","_law_k","_law_n","_law_known","_law_kinds_here","_law_more","_law_kind"]
abbrev VB:List PySem.Str:=["_law_one","_law_feed_here","_law_scene_here","_law_around","_law_down","_law_share"]
abbrev VC:List PySem.Str:=["_law_feed_here","_law_many","_law_letters","_law_stem","_law_first","_law_at","_law_turn","_law_kept","_law_found","_law_k","_law_sign","_law_name"]
abbrev VD:List PySem.Str:=["_law_x","_law_kind","_law_feed_here","_law_hides","_law_opens_here"]
abbrev VE:List PySem.Str:=["_law_feed_here","_law_names_here","_law_tags","_law_found","_law_at","_law_k","_law_own","_law_j","_law_parts_here"]
abbrev VF:List PySem.Str:=["_law_feed_here","_law_known","_law_down"]
abbrev VG:List PySem.Str:=["_law_name","_law_tags"]
abbrev VH:List PySem.Str:=["_law_feed_here","_law_scene_here","_law_n","_law_room","_law_more","_law_kind","_law_around","_law_defs","_law_kept","_law_term_here"]
abbrev VI:List PySem.Str:=["_law_feed_here","_law_scene_here","_law_around","_law_kind","_law_goal","_law_share","_law_down"]
abbrev VJ:List PySem.Str:=["program","kinds","defs","of_terms","of_kinds","name","params","term","cores"]
abbrev VL:List PySem.Str:=["_law_feed_here","_law_scene_here","_law_around","_law_kind","_law_some","_law_form","_law_n"]
abbrev VM:List PySem.Str:=["program","terms","kinds","of_terms","of_kinds","defs","name","params","term","put_params"]
abbrev VN:List PySem.Str:=["fillings","there","gaps_of","numbers","n","at","ahead","put","gap"]
abbrev VO:List PySem.Str:=["_law_feed_here","_law_scene_here","_law_kind"]
abbrev VP:List PySem.Str:=["_law_feed_here","_law_some","_law_numbers","_law_sort","_law_at","_law_n","_law_what","_law_form","_law_put"]
abbrev VQ:List PySem.Str:=["_law_feed_here","_law_scene_here","_law_kind","_law_tags","_law_t","_law_inner"]
abbrev VR:List PySem.Str:=["_law_program","_law_own","_law_opens_here","_law_f","_law_params","_law_term_here","_law_x","_law_kind"]
abbrev VS:List PySem.Str:=["root","inner_of","make","told","waiting","here","inner_told","inner","first"]
abbrev VT:List PySem.Str:=["_law_scene_here","_law_kind"]
abbrev VU:List PySem.Str:=["_law_feed_here","_law_scene_here","_law_around","_law_kind"]
abbrev VW:List PySem.Str:=["_law_script","_law_at","_law_feed_here","_law_scene_here","_law_program","_law_wants","_law_goal"]
abbrev VX:List PySem.Str:=["_law_feed_here","_law_kind","_law_opens_here","_law_few"]
abbrev VY:List PySem.Str:=["_law_program","_law_found","_law_kinds_here"]
abbrev VZ:List PySem.Str:=["_law_program","_law_found","_law_kinds_here","_law_left","_law_opens_here","_law_due_here"]
abbrev V0:List PySem.Str:=["_law_feed_here","_law_scene_here","_law_around","_law_kind","_law_room","_law_term_here"]
abbrev V1:List PySem.Str:=["_law_feed_here","_law_most_gaps","_law_names_here","_law_kinds_here","_law_scene_here"]
abbrev V2:List PySem.Str:=["told","tag","names","old"]
abbrev V3:List PySem.Str:=["_law_feed_here","_law_scene_here","_law_around","_law_kind","_law_room"]
abbrev V4:List PySem.Str:=["_law_i","_law_feed_here","_law_names_here","_law_k"]
abbrev V5:List PySem.Str:=["term","inner","form","arms","told","place","each"]
abbrev V6:List PySem.Str:=["_law_feed_here","_law_scene_here","_law_n","_law_room","_law_more"]
abbrev V7:List PySem.Str:=["_law_around","_law_more","_law_fresh"]
abbrev V8:List PySem.Str:=["_law_x","_law_kind"]
abbrev V9:List PySem.Str:=["_law_program","_law_found","_law_kinds_here","_law_caught","e"]
abbrev Wa:List PySem.Str:=["_law_feed_here","_law_n","_law_kind","_law_fresh","_law_form"]
abbrev Wb:List PySem.Str:=["_law_one","_law_feed_here","_law_scene_here"]
abbrev Wc:List PySem.Str:=["_law_name","_law_tags","_law_kind"]
abbrev We:List PySem.Str:=["_law_feed_here","_law_scene_here","_law_room","_law_hides"]
abbrev Wg:List PySem.Str:=["_law_there_here","_law_some","_law_within"]
abbrev Wh:List PySem.Str:=["_law_feed_here","_law_some","_law_numbers","_law_sort"]
abbrev Wi:List PySem.Str:=["term"]
abbrev Wj:List PySem.Str:=["_law_feed_here","_law_known","_law_down","_law_form"]
abbrev Wl:List PySem.Str:=["_law_x","_law_one","_law_kind"]
abbrev Wm:List PySem.Str:=["_law_j","_law_scene_here","_law_turn"]
abbrev Wn:List PySem.Str:=["_law_x","_law_feed_here","_law_known"]
abbrev Wo:List PySem.Str:=["_law_feed_here","_law_n","_law_kind","_law_fresh"]
abbrev Wq:List PySem.Str:=["_law_feed_here","_law_program","_law_scene_here"]
abbrev Wr:List PySem.Str:=["_law_feed_here","_law_names_here","_law_tags"]
abbrev Ws:List PySem.Str:=["_law_around","_law_more"]
abbrev Wt:List PySem.Str:=["root","inner_of","make"]
abbrev Wu:List PySem.Str:=["_law_k","_law_feed_here","_law_letters"]
abbrev Wv:List PySem.Str:=["_law_one"]
abbrev Ww:List PySem.Str:=["_law_one","_law_opens_here"]
abbrev Wx:List PySem.Str:=["fillings","there","gaps_of"]
abbrev Wy:List PySem.Str:=["param","kind","kinds"]
abbrev Wz:List PySem.Str:=["_law_n","_law_there_here"]
abbrev WA:List PySem.Str:=["term","puts","make"]
abbrev WB:List PySem.Str:=["_law_term_here"]
abbrev WC:List PySem.Str:=["_law_feed_here","_law_most_gaps"]
abbrev WD:List PySem.Str:=["kind"]
abbrev WE:List PySem.Str:=["_law_kind"]
abbrev WG:List PySem.Str:=["_law_one","_law_fresh"]
abbrev WH:List PySem.Str:=["_law_n","_law_numbers"]
abbrev WJ:List PySem.Str:=["_law_script","_law_k"]
abbrev WK:List PySem.Str:=["kind","depth"]
abbrev WL:List PySem.Str:=["_law_one","_law_kind"]
abbrev WM:List PySem.Str:=["tag","names","inner"]
abbrev WN:List PySem.Str:=["_law_feed_here","_law_form"]
abbrev WO:List PySem.Str:=["_law_feed_here"]
abbrev WQ:List PySem.Str:=["_law_n","_law_what"]
abbrev WR:List PySem.Str:=["_law_n","_law_kind"]
abbrev WS:List PySem.Str:=["program","terms","kinds"]
abbrev WT:List PySem.Str:=["param","kind"]
abbrev WU:List PySem.Str:=["_law_program"]
abbrev WV:List PySem.Str:=["_law_script","_law_at"]
abbrev WW:List PySem.Str:=["self","number"]
abbrev WX:List PySem.Str:=["kind","depth","row"]
abbrev WY:List PySem.Str:=["kind","puts","core"]
abbrev WZ:List PySem.Str:=["term","inner"]
abbrev W0:List PySem.Str:=["here","inner"]
namespace L2
open PySem PySem.Spec PyProof.Rows
abbrev Key:=Sum Int Str
noncomputable def uF:Key->cB->Bool
 |.inl k,v=>Value.isInt k v
 |.inr x,v=>SA x v
noncomputable def Kv(w:FT):Key->Int
 |.inl k=>hashInt k
 |.inr x=>hashStr w x
theorem dJ :∀{k:Key}{v:cB},uF k v=true->(∃i t,k=Sum.inl i/\v=Value.int i t)\/(∃x t,k=Sum.inr x/\v=Value.str x t)
 |.inl i,v,h=>by
  have(t,e):=cB.isInt_shape (k:=i) (v:=v) h;exact .inl #[i,t,rfl,e]
 |.inr x,v,h=>by
  have(t,e):=cB.isStrOf_shape (x:=x) (v:=v) h;exact .inr #[x,t,rfl,e]
theorem Bb (i:Int)(t:Tok):uF (.inl i) (.int i t)=true:=by simp[uF,Value.isInt]
theorem Bc (x:Str)(t:Tok):uF (.inr x) (.str x t)=true:=by simp[uF,SA]
theorem GK (a b:Int):decide ((Sum.inl a:Key)=Sum.inl b)=(a == b):=by
 by_cases e:a=b
 .subst e;simp
 .have h:¬(Sum.inl a:Key)=Sum.inl b:=λq=>e (Vb q);rw[decide_eq_false h];exact(beq_eq_false_iff_ne.mpr e).symm
theorem GL (a b:Str):decide ((Sum.inr a:Key)=Sum.inr b)=decide (a=b):=by
 by_cases e:a=b
 .subst e;simp
 .have h:¬(Sum.inr a:Key)=Sum.inr b:=λq=>e (Sum.inr.inj q);rw[decide_eq_false h,decide_eq_false e]
theorem GP (a:Int)(b:Str):decide ((Sum.inl a:Key)=Sum.inr b)=false:=decide_eq_false nofun
theorem GQ (a:Str)(b:Int):decide ((Sum.inr a:Key)=Sum.inl b)=false:=decide_eq_false nofun
noncomputable def dc(prog:sC)(w:FT):PySem.KeyKind prog w Key where
 is:=uF
 hash:=Kv w
 inj:=λv a b m g=>by
  rcases dJ m with⟨i,t,rfl,rfl⟩|⟨x,t,rfl,rfl⟩
  .rcases dJ g with⟨j,u,rfl,e⟩|⟨y,u,rfl,e⟩
   .injection e with e1 _;rw[e1]
   .exact nomatch e
  .rcases dJ g with⟨j,u,rfl,e⟩|⟨y,u,rfl,e⟩
   .exact nomatch e
   .injection e with e1 _;rw[e1]
 byValue:=λk v h=>by
  rcases dJ h with⟨i,t,rfl,rfl⟩|⟨x,t,rfl,rfl⟩<;>rfl
 pyHash:=λd h=>by
  rcases dJ d with⟨i,t,rfl,rfl⟩|⟨x,t,rfl,rfl⟩
  .exact wpAny_pyHash_int h
  .exact wpAny_pyHash_str h
 eqBool:=λl d h=>by
  rcases dJ l with⟨i,t,rfl,rfl⟩|⟨x,t,rfl,rfl⟩
  .rcases dJ d with⟨j,u,rfl,rfl⟩|⟨y,u,rfl,rfl⟩
   .rw[GK]at h;exact wpAny_eqBool_int h
   .rw[GP]at h;exact Us i t y u _ _ _ _ h
  .rcases dJ d with⟨j,u,rfl,rfl⟩|⟨y,u,rfl,rfl⟩
   .rw[GQ]at h;exact Ut x t j u _ _ _ _ h
   .rw[GL]at h;exact wpAny_eqBool_str h
 «strs»:=λk x t v h=>by
  rcases dJ h with⟨i,u,rfl,e⟩|⟨y,u,rfl,e⟩
  .exact nomatch e
  .injection e with e1 _;subst e1
   cases v<;>rfl
theorem wV (prog:sC)(w:FT)(i:Int)(t:Tok):(dc prog w).is (.inl i) (.int i t)=true:=Bb i t
theorem wW (prog:sC)(w:FT)(x:Str)(t:Tok):(dc prog w).is (.inr x) (.str x t)=true:=Bc x t
inductive V where
 |gq|bl (b:Bool)|int (i:Int)|str (x:Str)|byt (b:Array UInt8)|flt (b:UInt64)|ref (a:Addr)|ty (n:String)
 deriving DecidableEq
def RelV:V->cB->Prop
 |.gq,u=>u=Value.none
 |.bl b,u=>u=Value.bool b
 |.int i,u=>∃t,u=Value.int i t
 |.str x,u=>∃t,u=Value.str x t
 |.byt b,u=>∃t,u=Value.bytes b t
 |.flt b,u=>∃t,u=Value.float b t
 |.ref a,u=>u=Value.ref a
 |.ty n,u=>u=Value.type n
abbrev Vals:List V->List cB->Prop:=Paired RelV
theorem Vals.length (r:Vals xs us):xs.length=us.length:=Paired.length r
theorem Vals.get :∀{xs:List V}{us:List cB}{i:Nat}{x:V},Vals xs us->xs[i]?=some x->∃u,us[i]?=some u/\RelV x u
 |_,_,_,_,.nil,e=>by simp at e
 |_,_,0,_,.cons r _,e=>by simp at e;subst e;exact#[_,rfl,r]
 |_,_,i+1,x,.cons _ t,e=>by
  have(u,g,d):=Vals.get (i:=i) (x:=x) t (by simpa using e);exact#[u,by simpa using g,d]
theorem Vals.set (r:RelV x u):∀{xs:List V}{us:List cB}(i:Nat),Vals xs us->Vals (xs.set i x) (us.set i u)
 |_,_,_,.nil=>.nil
 |_,_,0,.cons _ t=>.cons r t
 |_,_,i+1,.cons q t=>.cons q (Vals.set r i t)
theorem Vals.append :∀{xs ys:List V}{us d:List cB},Vals xs us->Vals ys d->Vals (xs++ys) (us++d)
 |_,_,_,_,.nil,s=>s
 |_,_,_,_,.cons r t,s=>.cons r (Vals.append t s)
theorem Vals.take :∀{xs:List V}{us:List cB}(n:Nat),Vals xs us->Vals (xs.take n) (us.take n)
 |_,_,0,_=>.nil
 |_,_,_+1,.nil=>.nil
 |_,_,n+1,.cons r t=>.cons r (Vals.take n t)
theorem Vals.drop :∀{xs:List V}{us:List cB}(n:Nat),Vals xs us->Vals (xs.drop n) (us.drop n)
 |_,_,0,r=>r
 |_,_,_+1,.nil=>.nil
 |_,_,n+1,.cons _ t=>Vals.drop n t
theorem Vals.none_of :∀{xs:List V}{us:List cB}{i:Nat},Vals xs us->xs[i]?=none->us[i]?=none:=λ{xs us i} r e=>by
 have g:=r.length;have d:xs.length<=i:=Ql.mp e;exact Ql.mpr ()
def mS:Option V->Option cB->Prop
 |some v,some u=>RelV v u
 |none,none=>True
 |_,_=>False
def KV{d:Type}:List (d×V)->List (d×cB)->Prop:=Paired λ(p:d×V) (q:d×cB)=>p.1=q.1/\RelV p.2 q.2
noncomputable def kV:Key->V
 |.inl i=>.int i
 |.inr x=>.str x
inductive HO where
 /-- a list -/
 |lst (xs:List V)
 /-- a tuple (never changes) -/
 |tup (xs:List V)
 /-- a dict whose keys are ints and texts;one whose keys are tuples of ints and texts (the empty one is both) -/
 |dK (kvs:List (Key×V))|dT (kvs:List (List Key×V))
 /-- a set of ints: its members,its size -/
 |set (S:Int->Bool) (n:Nat)
 /-- an instance of the class at C,its dict at dx,its attributes -/
 |ins (C dx:Addr) (fs:List (Str×V))
 /-- the dict of the instance at x -/
 |own (x:Addr)
 /-- the dict of an exception -/
 |xd (fs:List (Str×V))
 /-- a bound method,f of x -/
 |met (f x:Addr)
 /-- a range object lo,lo+1,.. below hi -/
 |rng (lo hi:Int)
 /-- a thing that is known to the object (the script;a dict while a loop walks it): read,never written while it is so -/
 |frz (o:Obj) (u:HO)
 /-- a code object's table -/
 |tbl (ps:Array cB)
 /-- any other thing,by what is true of its one object (a def of one's own: SetO a S n:=HO.ext λh=>..) -/
 |ext (φ:Heap->Prop)
abbrev Hp:=Addr->Option HO
noncomputable def upd(H:Hp)(a:Addr)(o:HO):Hp:=λb=>if b=a then some o else H b
theorem af :upd H a o a=some o:=by unfold upd;rw[if_pos rfl]
theorem ay (h:b≠a):upd H a o b=H b:=by unfold upd;rw[if_neg h]
theorem cI {H:Hp}(h:H a=some o)(h':H b=some u)(d:o≠u):a≠b:=by
 intro e;subst e;rw[h]at h';exact d (Nd h')
theorem au {H:Hp}(h:H a=some o)(h':H b=none):a≠b:=by
 intro e;subst e;rw[h]at h';cases h'
section
variable (P:sC) (w:FT)
def LO(h:Heap)(a:Addr):Prop:=∃o,h.get? a=some o/\o.dict=none
def dO(H:Hp)(h:Heap)(a:Addr):HO->Prop
 |.lst e=>e.length<=mC/\∃(d:List cB) (n:Nat),Vals e d/\h.get? a=some {cls:=.type "list",data:=.seq d.toArray n}
 |.tup e=>e.length<=mC/\∃d:List cB,Vals e d/\IsTup h a d.toArray/\LO h a
 |.dK kvs=>kvs.length<=mC/\(a == Og)=false/\∃j,KV kvs j/\h.DictOf (dc P w) a j
 |.dT kvs=>kvs.length<=mC/\(a == Og)=false/\∃e:List (List Key×Addr×cB),
   Paired (λ(p:List Key×V) (q:List Key×Addr×cB)=>p.1=q.1/\H q.2.1=some (.tup (p.1.map kV))/\RelV p.2 q.2.2) kvs e /\
   ∃o r y,h.get? a=some o/\o.ExactDict/\o.data=.dict r y/\r.toList=e.map (entryOfKey (SK (dc P w)))/\(e.map (·.1)).Nodup
 |.set S n=>h.SetOf (intKind P w) a S n
 |.ins C dx fs=>H dx=some (.own a)/\fs.length<=1000/\dx≠a/\h.get? a=some (PySem.W.instObj C dx) /\
   ∃g,h.Ns1 dx g/\(∀f,mS (fs.lookup f) (g f))/\PySem.Within g (fs.map (·.1))
 |.own _=>∃o,h.get? a=some o
 |.xd fs=>∃g,h.Ns1 a g/\∀f,mS (fs.lookup f) (g f)
 |.rng lo hi=>∃t u v,h.get? a=some {cls:=.type "range",data:=.fields #[.int lo t,.int hi u,.int 1 v,]}
 |.frz o u=>h.get? a=some o/\dO H h a u
 |.tbl ps=>h.get? a=some {cls:=.none,data:=.fields ps}
 |.met f x=>h.get? a=some (Ss (.ref f) (.ref x))
 |.ext φ=>φ h/\(∃o,h.get? a=some o)/\∀m l:Heap,φ m->(∀o,m.get? a=some o->l.get? a=some o)->φ l
def mU(H:Hp)(h:Heap):Prop:=∀a o,H a=some o->dO P w H h a o
end
theorem dO.lt (x:dO P w H h a o):a<h.objs.size:=by
 cases o with
 |lst xs=>have(_,_,_,_,e):=x;exact ri e
 |tup xs=>have(_,_,_,p,_):=x;exact p.lt
 |dK kvs=>have(_,_,_,_,o,_,_,e,_):=x;exact ri e
 |dT kvs=>have(_,_,_,_,o,_,_,e,_):=x;exact ri e
 |set S n=>have(o,_,_,_,e,_):=x;exact ri e
 |ins C dx fs=>have(_,_,_,e,_):=x;exact ri e
 |own y=>have(_,e):=x;exact ri e
 |xd fs=>have(_,(_,_,_,e,_),_):=x;exact ri e
 |rng lo hi=>have(_,_,_,e):=x;exact ri e
 |frz ob u=>have(e,_):=x;exact ri e
 |tbl ps=>exact ri (show h.get? a=some _ from x)
 |met f y=>exact ri (show h.get? a=some _ from x)
 |ext φ=>have(_,(_,e),_):=x;exact ri e
theorem Paired.GR {F G:g->e->Prop}:∀{l₁:List g}{d:List e},Paired F l₁ d->(∀a b,F a b->G a b)->Paired G l₁ d
 |_,_,.nil,_=>.nil
 |_,_,.cons r t,f=>.cons (f _ _ r) (Paired.GR t f)
theorem dO.stay (x:dO P w H h a o)(k:∀b u,(b=a\/H b=some (.own a))->h.get? b=some u->h'.get? b=some u)(ho:∀b,H b=some (.own a)->H' b=some (.own a))(ht:∀b xs,H b=some (.tup xs)->H' b=some (.tup xs)):dO P w H' h' a o:=by
 induction o with
 |lst xs=>have(z,m,n,r,e):=x;exact#[z,m,n,r,k _ _ (.inl rfl) e]
 |tup xs=>have(z,m,r,(g,e,c),I,D,J):=x;exact#[z,m,r,#[g,k _ _ (.inl rfl) e,c],I,k _ _ (.inl rfl) D,J]
 |dK kvs=>have(z,y,G,r,g,j,l,e,c):=x;exact#[z,y,G,r,g,j,l,k _ _ (.inl rfl) e,c]
 |dT kvs =>
  have(z,y,xs,r,g,j,l,e,c):=x;exact#[z,y,xs,Paired.GR r λp q z=>#[z.1,ht _ _ z.2.1,z.2.2],g,j,l,k _ _ (.inl rfl) e,c]
 |set S n=>have(g,j,l,t,e,c):=x;exact#[g,j,l,t,k _ _ (.inl rfl) e,c]
 |ins C dx fs =>
  have(d,z,ne,e,B,(A,j,l,D,c),r):=x;exact#[ho _ d,z,ne,k _ _ (.inl rfl) e,B,#[A,j,l,k _ _ (.inr d) D,c],r]
 |own y=>have(g,e):=x;exact#[g,k _ _ (.inl rfl) e]
 |xd fs=>have(B,(A,j,l,e,c),r):=x;exact#[B,#[A,j,l,k _ _ (.inl rfl) e,c],r]
 |rng lo hi=>have(t,u,v,e):=x;exact#[t,u,v,k _ _ (.inl rfl) e]
 |frz g u ih=>have(e,q):=x;exact#[k _ _ (.inl rfl) e,ih q]
 |tbl ps =>
  have e:h.get? a=some {cls:=.none,data:=.fields ps}:=x;show h'.get? a=some {cls:=.none,data:=.fields ps};exact k a _ (.inl rfl) e
 |met f y =>
  have e:h.get? a=some (Ss (.ref f) (.ref y)):=x;show h'.get? a=some (Ss (.ref f) (.ref y));exact k a _ (.inl rfl) e
 |ext φ=>have(p,(o,e),E):=x;exact#[E _ _ p λo q=>k _ _ (.inl rfl) q,#[o,k _ _ (.inl rfl) e],E]
theorem mU.lt (x:mU P w H h)(e:H a=some o):a<h.objs.size:=(x a o e).lt
theorem mU.fresh (x:mU P w H h)(e:h.objs.size<=a):H a=none:=by
 cases q:H a with
 |none=>rfl
 |some u=>exact absurd (zo (x.lt q) e) (Np _)
theorem mU.kept (x:mU P w H h)(k:∀b u,h.get? b=some u->h'.get? b=some u):mU P w H h':=λa o e =>
 (x a o e).stay (λb u _ q=>k b u q) (λ_ q=>q) λ_ _ q=>q
theorem mU.laid (x:mU P w H h)(k:∀b u,h.get? b=some u->h'.get? b=some u)(j:h.objs.size<=a)(new:dO P w (upd H a o) h' a o):mU P w (upd H a o) h':=λb u e=>by
 have d:=x.fresh j
 by_cases g:b=a
 .subst g;rw[af]at e;cases e;exact new
 .rw[ay g]at e;exact(x b u e).stay (λc v _ q=>k c v q) (λc q=>by rw[ay (au q d)];exact q) λc l q=>by rw[ay (au q d)];exact q
def Rd(H:Hp)(a:Addr)(u:HO):Prop:=H a=some u\/∃o,H a=some (.frz o u)
theorem Rd.ok (r:Rd H a u)(x:mU P w H h):dO P w H h a u:=by
 rcases r with r|⟨o,r⟩
 .exact x a u r
 .have(_,q):=x a _ r;exact q
def IZ:Option HO->Prop
 |some (.lst _)=>True
 |some (.dK _)=>True
 |some (.dT _)=>True
 |some (.set _ _)=>True
 |some (.ins _ _ _)=>True
 |some (.ext _)=>True
 |_=>False
theorem mU.write (ok:mU P w H h)(m:IZ (H x))(A:e=x\/H e=some (.own x))(k:∀b u,b≠e->h.get? b=some u->h'.get? b=some u)(p:∃u,h'.get? e=some u)(new:dO P w (upd H x o') h' x o'):mU P w (upd H x o') h':=λb u q=>by
 have g:∀c y,H c=some (.own y)->c≠x:=λc y r z=>by subst z;rw[r]at m;exact m
 have j:∀c l,H c=some (.tup l)->c≠x:=λc l r z=>by subst z;rw[r]at m;exact m
 by_cases o:b=x
 .subst o;rw[af]at q;cases q;exact new
 .rw[ay o]at q
  by_cases d:b=e
  .have t:H b=some (.own x):=by
    rcases A with z|z
    .exact absurd (d.trans z) o
    .rw[d];exact z
   rw[q]at t;cases t;have(v,B):=p;exact#[v,by rw[d];exact B]
  .refine(ok b u q).stay (λc v hc r=>k c v ?_ r) (λc r=>by rw[ay (g c b r)];exact r) λc l r=>by rw[ay (j c l r)];exact r
   rcases hc with rfl|hc
   .exact d
   .rintro rfl;rcases A with z|z
    .exact g c b hc z
    .rw[hc]at z;cases z;exact o rfl
structure Un(fs ex:List Addr) (H H':Hp) (h h':Heap):Prop where
 keep:∀b o,h.get? b=some o->H b=none->b∉fs->b∉ex->h'.get? b=some o
 slot:∀b o,h.get? b=some o->H b=none->b∈fs->b∉ex->∃sl,h'.get? b=some {o with slots:=sl}
 free:∀b o,h.get? b=some o->H b=none->b∉ex->H' b=none
 there:∀b o,h.get? b=some o->b∉ex->∃o',h'.get? b=some o'
 tups:∀b xs,H b=some (.tup xs)->H' b=some (.tup xs)
 frzs:∀b o u,H b=some (.frz o u)->H' b=some (.frz o u)
 tbls:∀b ps,H b=some (.tbl ps)->∃more,H' b=some (.tbl (ps++more))
theorem Un.any (u:Un fs ex H H1 h h1)(q:h.get? b=some d)(n:H b=none)(g:b∉ex):∃l,h1.get? b=some {d with slots:=l}:=by
 by_cases j:b∈fs
 .exact u.slot b d q n j g
 .exact#[d.slots,u.keep b d q n j g]
theorem Un.trans (a:Un fs ex H H1 h h1)(b:Un fs ex H1 H2 h1 h2):Un fs ex H H2 h h2 where
 keep:=λc d q n m g=>b.keep c d (a.keep c d q n m g) (a.free c d q n g) m g
 slot:=λc d q n m g=>by
  have(y,j):=a.slot c d q n m g;have(p,t):=b.slot c _ j (a.free c d q n g) m g;exact#[p,t]
 free:=λc d q n g=>by
  have(r,j):=a.there c d q g;exact b.free c r j (a.free c d q n g) g
 there:=λc d q g=>by
  have(r,j):=a.there c d q g;exact b.there c r j g
 tups:=λc l q=>b.tups c l (a.tups c l q)
 frzs:=λc d l q=>b.frzs c d l (a.frzs c d l q)
 tbls:=λc u q=>by
  have(w,j):=a.tbls c u q;have(v,t):=b.tbls c _ j;exact#[w++v,by rw[t,Uu]]
theorem Un.kept (k:∀b u,h.get? b=some u->h'.get? b=some u):Un fs ex H H h h' :=
 #[λb d q _ _ _=>k b d q,λb d q _ _ _=>#[d.slots,k b d q],λ_ _ _ n _=>n,λb d q _=>#[d,k b d q],λ_ _ q=>q,λ_ _ _ q=>q,λ_ g q=>#[#[],by rw[q];simp]]
theorem Un.refl :Un fs ex H H h h:=Un.kept λ_ _ q=>q
theorem Un.laid (k:∀b u,h.get? b=some u->h'.get? b=some u)(g:h.objs.size<=a)(hn:H a=none):Un fs ex H (upd H a o) h h' where
 keep:=λb u q _ _ _=>k b u q
 slot:=λb u q _ _ _=>#[u.slots,k b u q]
 free:=λb u q n _=>by rw[ay (MQ (zo (ri q) g))];exact n
 there:=λb u q _=>#[u,k b u q]
 tups:=λb d q=>by rw[ay (au q hn)];exact q
 frzs:=λb u d q=>by rw[ay (au q hn)];exact q
 tbls:=λb j q=>#[#[],by rw[ay (au q hn),q];simp]
theorem Un.write (g:IZ (H x))(w:e=x\/H e=some (.own x))(k:∀b u,b≠e->h.get? b=some u->h'.get? b=some u)(l:∃u,h'.get? e=some u):Un fs ex H (upd H x o) h h':=by
 have m:∀b,H b=none->b≠x:=λb n z=>by subst z;rw[n]at g;exact g
 have p:∀b,H b=none->b≠e:=λb n z=>by
  subst z;rcases w with r|r
  .exact m b n r
  .rw[n]at r;cases r
 have j:∀b u,H b=some u->¬IZ (some u)->b≠x:=λb u q v z=>by subst z;rw[q]at g;exact v g
 refine#[λb u q n _ _=>k b u (p b n) q,λb u q n _ _=>#[u.slots,k b u (p b n) q],λb u q n _=>by rw[ay (m b n)];exact n,λb u q _=>?_,
  λb t q=>by rw[ay (j b _ q λz=>z)];exact q,λb u t q=>by rw[ay (j b _ q λz=>z)];exact q,λb y q=>#[#[],by rw[ay (j b _ q λz=>z),q];simp]]
 by_cases d:b=e
 .subst d;exact l
 .exact#[u,k b u d q]
noncomputable def JY(h:Heap)(H:Hp):List Addr:=(Nj h.objs.size).filter λa=>(H a).isSome
noncomputable def pF(h:Heap)(H:Hp):Heap:=Rv h (JY h H)
theorem uG (h:Heap)(H:Hp):(pF h H).objs.size=h.objs.size:=TL _ _
theorem wX (e:h.get? b=some o)(n:H b=none):(pF h H).get? b=some o :=
 Ud _ e λd=>by
  have q:(H b).isSome=true:=(Rw.mp d).2;rw[n]at q;simp at q
theorem Af (e:(pF h H).get? b=some o):h.get? b=some o/\H b=none:=by
 have d:h.get? b=some o:=Uv (JY h H) e;refine#[d,?_]
 cases q:H b with
 |none=>rfl
 |some x =>
  have g:b∈JY h H:=Rw.mpr #[QM.mpr (ri d),by simp[q]];have z:(pF h H).get? b=none:=TM (JY h H) g;rw[z]at e;cases e
structure Mod(K:bA) (mg:Str->Option cB) (base:Heap):Prop where
 kin:K.In base
 glob:base.Ns ML mg
 blt:∃mb,base.Ns Tg mb/\∀x:Str,x≠"__name__"->mb x=RL x
 nolimit:base.NoLimit
structure Cx where
 prog:sC
 w:FT
 K:bA
 mg:Str->Option cB
 base:Heap
 A:MM
 N:List Str
 s₀:eT
 H₀:Hp
 env:Env
 outer:List Env
 stack:List Env
 ex:List Addr
 fn:Str->Bool
 calm:Bool
 pn:List (Addr×Obj)
 xe:cB->eT->Prop
noncomputable def frs(l:List Env):List Addr:=l.filterMap (·.frame)
noncomputable abbrev Cx.fs(X:Cx):List Addr:=frs X.outer
def IU(d:Ov)(x:Str):Prop:=d.names.lookup x=some .local\/d.names.lookup x=some .cell\/d.names.lookup x=some .free
def Loc(d:Ov)(x:Str):Prop:=d.names.lookup x=some .local\/d.names.lookup x=some .cell
def Look(env:Env)(h:Heap)(m:Str->Option cB)(x:Str)(u:cB):Prop :=
 (env.kindOf x=some .local/\m x=some u)\/((env.kindOf x=some .cell\/env.kindOf x=some .free)/\∃c,env.cells.lookup x=some c/\h.IsCell c (some u))
structure Cx.Ok(X:Cx):Prop where
 mod:Mod X.K X.mg X.base
 kind:X.env.scope.kind=.function
 glob:X.env.globals=ML
 blt:X.env.builtins=Tg
 above:X.s₀.heap.objs.size<=X.env.locals
 inj:∀x y c,X.env.cells.lookup x=some c->X.env.cells.lookup y=some c->x=y
 has:∀x,(X.env.kindOf x=some .cell\/X.env.kindOf x=some .free)->∃c,X.env.cells.lookup x=some c
 cab:∀x c,X.fn x=true->X.env.cells.lookup x=some c->X.s₀.heap.objs.size<=c
 hd:X.calm=true->X.A.handled=none
 frames:X.A.frames=some X.stack
 stk:X.stack=X.outer\/(X.stack=X.env::X.outer/\X.env.frame=some X.env.locals)
 exf:∀b∈X.ex,b≠X.env.locals/\∀x c,X.env.cells.lookup x=some c->c≠b
 bs:∀b o,X.base.get? b=some o->X.s₀.heap.get? b=some o/\X.H₀ b=none
 bsz:X.base.objs.size<=X.s₀.heap.objs.size
 noex:∀b o,X.base.get? b=some o->b∉X.ex
 exfs:∀b∈X.ex,b∉X.fs
 oM:X.s₀.heap.FunFrames X.base X.outer
 frf:∀b∈X.fs,X.H₀ b=none
structure Inv(X:Cx) (pins:List (Addr×Obj)) (σ:List (Option V)) (H:Hp) (s:eT):Prop where
 ok:X.Ok
 os:s.os=X.s₀.os
 bare:RM s.gens
 base:Un X.fs X.ex X.H₀ H X.s₀.heap s.heap
 loc:∃m,s.heap.Ns X.env.locals m/\∀(i:Nat) (x:Str) (v:V),X.N[i]?=some x->σ[i]?=some (some v)->IU X.env.scope x->∃u,RelV v u/\Look X.env s.heap m x u
 cell:∀x c,X.env.cells.lookup x=some c->∃v,s.heap.IsCell c v
 free:H X.env.locals=none
 freeC:∀x c,X.env.cells.lookup x=some c->H c=none
 pin:∀p∈X.pn++pins,s.heap.get? p.1=some p.2/\H p.1=none/\p.1≠X.env.locals/\p.1∉X.fs/\∀v,p.2.data≠.cell v
 hok:mU X.prog X.w H s.heap
 len:σ.length=X.N.length
theorem Cx.Ok.Kw {X:Cx}(ok:X.Ok)(e:X.base.get? b=some o):b∉X.fs:=λd=>by
 have:=(ok.oM.mem d).1;rw[e]at this;cases this
theorem Inv.bs (I:Inv X pins σ H s):∀b o,X.base.get? b=some o->s.heap.get? b=some o/\H b=none:=λb o e =>
 #[I.base.keep b o (I.ok.bs b o e).1 (I.ok.bs b o e).2 (I.ok.Kw e) (I.ok.noex b o e),I.base.free b o (I.ok.bs b o e).1 (I.ok.bs b o e).2 (I.ok.noex b o e)]
theorem Inv.bk (I:Inv X pins σ H s):∀b o,X.base.get? b=some o->s.heap.get? b=some o:=λb o e=>(I.bs b o e).1
theorem Inv.mod (I:Inv X pins σ H s):Mod X.K X.mg X.base:=I.ok.mod
theorem Inv.tZ (I:Inv X pins σ H s):X.K.In s.heap:=I.ok.mod.kin.keeps I.bk
theorem Inv.fr (I:Inv X pins σ H s):∃m,Fr X.base X.env.locals s.heap m :=
 let⟨m,hn,_⟩:=I.loc
 #[m,hn,I.bk,FA I.ok.bsz I.ok.above]
theorem Inv.lt (I:Inv X pins σ H s):X.env.locals<s.heap.objs.size:=let⟨_,hn,_⟩:=I.loc;hn.lt
theorem Inv.sz (I:Inv X pins σ H s):X.s₀.heap.objs.size<=s.heap.objs.size:=FA I.ok.above (Ny I.lt)
theorem Inv.Ex (I:Inv X pins σ H s)(h:s.heap.objs.size<=a):a∉X.fs:=λe=>by
 have(_,o,d,_):=I.ok.oM.mem e;exact absurd (zo (ri d) (FA I.sz h)) (Np _)
theorem Inv.Et (I:Inv X pins σ H s):∀x c,X.env.cells.lookup x=some c->c≠X.env.locals:=λx c e z=>by
 have(v,o,j,hd):=I.cell x c e;have(m,(l,p,q,d,g,_),_):=I.loc;rw[z,d]at j;cases j;rw[g]at hd;cases hd
theorem Inv.oM (I:Inv X pins σ H s):s.heap.FunFrames X.base X.outer:=by
 have all:∀(l:List Env),(∀b∈frs l,b∈X.fs)->X.s₀.heap.FunFrames X.base l->s.heap.FunFrames X.base l:=by
  intro l
  induction l with
  |nil=>intro _ _;trivial
  |cons env r ih =>
   intro m t;have(u,(L,o,d,q,p,hd),hr):=t;have j:L∈X.fs:=m L (by unfold frs;rw[NG,d];exact Oh);have(v,e):=I.base.slot L o p (I.ok.frf L j) j λz=>I.ok.exfs L z j;exact#[u,#[L,_,d,q,e,hd],ih (λb g=>m b (by unfold frs;rw[NG,d];exact Nz _ g)) hr]
 exact all X.outer (λ_ g=>g) I.ok.oM
theorem Inv.stack (I:Inv X pins σ H s):s.heap.FunFrames X.base X.stack:=by
 rcases I.ok.stk with e|⟨e,hf⟩
 .rw[e];exact I.oM
 .rw[e];have(m,d,_):=I.loc;refine .cons (by rw[I.ok.kind];decide) hf d ?_ I.oM;exact Rk (FA I.ok.bsz I.ok.above)
theorem Inv.qx (I:Inv X pins σ H s):∀b∈frs X.stack,b∈X.env.locals::X.fs:=λb d=>by
 rcases I.ok.stk with e|⟨e,hf⟩
 .rw[e]at d;exact Nz _ d
 .rw[e]at d;unfold frs at d;rw[NG,hf]at d;exact d
theorem Inv.rG (I:Inv X pins σ H s):∀b∈frs X.stack,H b=none:=λb hb=>by
 rcases vy.mp (I.qx b hb)with e|hb
 .rw[e];exact I.free
 .have(_,o,d,_):=I.ok.oM.mem hb;exact I.base.free b o d (I.ok.frf b hb) λz=>I.ok.exfs b z hb
theorem Inv.step {ch:List Addr}(I:Inv X pins σ H s)(hch:∀b∈ch,(b∈X.ex\/X.s₀.heap.objs.size<=b)/\b≠X.env.locals/\(∀x c,X.env.cells.lookup x=some c->c≠b)/\∀p∈X.pn++pins,p.1≠b)(keep:∀b o,b≠X.env.locals->b∉X.fs->b∉ch->s.heap.get? b=some o->H b=none->h'.get? b=some o)(slot:∀b o,b≠X.env.locals->b∈X.fs->b∉ch->s.heap.get? b=some o->H b=none->∃L,h'.get? b=some {o with slots:=L})(free:∀b o,b∉ch->s.heap.get? b=some o->H b=none->H' b=none)(there:∀b o,b∉ch->s.heap.get? b=some o->∃D,h'.get? b=some D)(tups:∀b xs,H b=some (.tup xs)->H' b=some (.tup xs))(frzs:∀b o u,H b=some (.frz o u)->H' b=some (.frz o u))(tbls:∀b ps,H b=some (.tbl ps)->∃more,H' b=some (.tbl (ps++more)))(ns:∀m,s.heap.Ns X.env.locals m->h'.Ns X.env.locals m)(hok:mU X.prog X.w H' h')(hg:RM g'):
  Inv X pins σ H' {s with heap:=h',gens:=g',drawn:=d',toks:=t'}:=by
 have E:∀b o,X.s₀.heap.get? b=some o->b≠X.env.locals:=λb o e=>MQ (zo (ri e) I.ok.above)
 have y:∀b o,X.s₀.heap.get? b=some o->b∉X.ex->b∉ch:=λb o e g B=>by
  rcases(hch b B).1 with z|z
  .exact g z
  .exact absurd (zo (ri e) z) (Np _)
 have t:∀x c,X.env.cells.lookup x=some c->∀v,s.heap.IsCell c v->h'.IsCell c v:=λx c e v ⟨o,C,hd⟩=>by
  have j:c∉ch:=λz=>(hch c z).2.2.1 x c e rfl
  by_cases O:c∈X.fs
  .have(L,q):=slot c o (I.Et x c e) O j C (I.freeC x c e);exact#[_,q,hd]
  .exact#[o,keep c o (I.Et x c e) O j C (I.freeC x c e),hd]
 refine#[I.ok,I.os,hg,#[λb o e n B g=>?_,λb o e n B g=>?_,λb o e n g=>?_,λb o e g=>?_,λb xs e=>tups b xs (I.base.tups b xs e),λb o xs e=>frzs b o xs (I.base.frzs b o xs e),λb ps e=>?_],?_,λx c e=>?_,?_,λx c e=>?_,λp N=>?_,hok,I.len]
 .exact keep b o (E b o e) B (y b o e g) (I.base.keep b o e n B g) (I.base.free b o e n g)
 .have(L,A):=I.base.slot b o e n B g;have(J,G):=slot b _ (E b o e) B (y b o e g) A (I.base.free b o e n g);exact#[J,G]
 .have(D,A):=I.base.there b o e g;exact free b D (y b o e g) A (I.base.free b o e n g)
 .have(D,A):=I.base.there b o e g;exact there b D (y b o e g) A
 .have(Q,A):=I.base.tbls b ps e;have(P,G):=tbls b _ A;exact#[Q++P,by rw[G,Uu]]
 .have(m,R,S):=I.loc;refine#[m,ns m R,λi x v A G T=>?_];have(u,r,l):=S i x v A G T;refine#[u,r,?_];rcases l with l|⟨k,c,e,z⟩
  .exact .inl l
  .exact .inr #[k,c,e,t x c e _ z]
 .have(v,z):=I.cell x c e;exact#[v,t x c e v z]
 .have(m,(o,_,_,C,_),_):=I.loc;exact free _ o (λz=>(hch _ z).2.1 rfl) C I.free
 .have(v,o,C,hd):=I.cell x c e;exact free c o (λz=>(hch c z).2.2.1 x c e rfl) C (I.freeC x c e)
 .have(e,n,ne,M,d):=I.pin p N;have j:p.1∉ch:=λz=>(hch p.1 z).2.2.2 p N rfl;exact#[keep p.1 p.2 ne M j e n,free p.1 p.2 j e n,ne,M,d]
theorem Inv.un (I:Inv X pins σ H s)(u:Un X.fs [] H H' s.heap h')(g:mU X.prog X.w H' h'):Inv X pins σ H' {s with heap:=h',toks:=t'}:=by
 have(m,(o,D,E,q,r),_):=id I.loc;have(A,y):=u.any q I.free (by simp)
 exact I.step (g':=s.gens) (d':=s.drawn) (ch:=[]) (λ_ z=>nomatch z) (λb o _ j _ e n=>u.keep b o e n j (by simp)) (λb o _ j _ e n=>u.slot b o e n j (by simp)) (λb o _ e n=>u.free b o e n (by simp)) (λb o _ e=>u.there b o e (by simp)) u.tups u.frzs u.tbls (λC v=>by
  have(B,l,p,d,t):=v;rw[q]at d;cases d;exact#[_,l,p,y,t]) g I.bare
theorem Inv.call (I:Inv X pins σ H s)(u:Un (frs X.stack) ch H H' s.heap h')(j:mU X.prog X.w H' h')(B:RM g')(hch:∀b∈ch,(b∈X.ex\/X.s₀.heap.objs.size<=b)/\b≠X.env.locals/\(∀x c,X.env.cells.lookup x=some c->c≠b)/\∀p∈X.pn++pins,p.1≠b):
  Inv X pins σ H' {s with heap:=h',gens:=g',drawn:=d',toks:=t'}:=by
 have(m,(o,J,L,v,r),_):=id I.loc;have(D,l):=u.any v I.free λz=>(hch _ z).2.1 rfl
 exact I.step (ch:=ch) hch (λb o l C d e n=>u.keep b o e n (λz=>(vy.mp (I.qx b z)).elim l C) d) (λb o _ _ d e n=>u.any e n d) (λb o d e n=>u.free b o e n d) (λb o d e=>u.there b o e d) u.tups u.frzs u.tbls (λG A=>by
  have(E,q,t,g,y):=A;rw[v]at g;cases g;exact#[_,q,t,l,y]) j B
theorem Inv.turned (I:Inv X pins σ H s)(k:∀b o,b≠it->s.heap.get? b=some o->h'.get? b=some o)(hn:H it=none)(j:it≠X.env.locals)(h1:it∈X.ex\/X.s₀.heap.objs.size<=it)(h2:∀x c,X.env.cells.lookup x=some c->c≠it)(h3:∀p∈X.pn++pins,p.1≠it):Inv X pins σ H {s with heap:=h',toks:=t'}:=by
 have g:∀b u,H b=some u->b≠it:=λb u e z=>by rw[z,hn]at e;cases e
 refine I.step (g':=s.gens) (d':=s.drawn) (ch:=[it]) (λb w=>?_) (λb o _ _ d e _=>k b o (λz=>d (by simp[z])) e) (λb o _ _ d e _=>#[o.slots,k b o (λz=>d (by simp[z])) e]) (λ_ _ _ _ n=>n)
  (λb o d e=>#[o,k b o (λz=>d (by simp[z])) e]) (λ_ _ e=>e) (λ_ _ _ e=>e) (λb B e=>#[#[],by rw[e];simp]) (λm t=>?_) (λb u e=>?_) I.bare
 .have e:b=it:=by simpa using w
  subst e;exact#[h1,j,h2,h3]
 .have(o,y,A,l,r):=t;exact#[o,y,A,k _ o (NW j) l,r]
 .refine(I.hok b u e).stay (λc v d q=>k c v ?_ q) (λ_ q=>q) λ_ _ q=>q;rcases d with z|z
  .rw[z];exact g b u e
  .exact g c _ z
theorem Inv.tok (I:Inv X pins σ H s)(t:Nat):Inv X pins σ H {s with toks:=t}:=I.un (h':=s.heap) (t':=t) Un.refl I.hok
theorem Inv.kept (I:Inv X pins σ H s)(k:∀b u,s.heap.get? b=some u->h'.get? b=some u):Inv X pins σ H {s with heap:=h',toks:=t'}:=I.un (Un.kept k) (I.hok.kept k)
theorem Inv.laid (I:Inv X pins σ H s)(k:∀b u,s.heap.get? b=some u->h'.get? b=some u)(d:s.heap.objs.size<=a)(new:dO X.prog X.w (upd H a o) h' a o):
  Inv X pins σ (upd H a o) {s with heap:=h',toks:=t'}:=I.un (Un.laid k d (I.hok.fresh d)) (I.hok.laid k d new)
theorem Inv.write (I:Inv X pins σ H s)(g:IZ (H x))(j:e=x\/H e=some (.own x))(k:∀b u,b≠e->s.heap.get? b=some u->h'.get? b=some u)(d:∃u,h'.get? e=some u)(new:dO X.prog X.w (upd H x o) h' x o):Inv X pins σ (upd H x o) {s with heap:=h',toks:=t'}:=I.un (Un.write g j k d) (I.hok.write g j k d new)
theorem Inv.weak (I:Inv X pins σ H s)(d:σ'.length=σ.length)(w:∀(i:Nat) v,σ'[i]?=some (some v)->σ[i]?=some (some v)):Inv X pins σ' H s :=
 #[I.ok,I.os,I.bare,I.base,let⟨m,hn,hl'⟩:=I.loc;#[m,hn,λi x v j g e=>hl' i x v j (w i v g) e],I.cell,I.free,I.freeC,I.pin,I.hok,d.trans I.len]
theorem Inv.iy (I:Inv X pins σ H s)(h:∀p∈d,s.heap.get? p.1=some p.2/\H p.1=none/\p.1≠X.env.locals/\p.1∉X.fs/\∀v,p.2.data≠.cell v):Inv X d σ H s :=
 #[I.ok,I.os,I.bare,I.base,I.loc,I.cell,I.free,I.freeC,λp e=>(MH.mp e).elim (λz=>I.pin p (M8 _ z)) (h p),I.hok,I.len]
theorem sf {N:List Str}(d:N.Nodup){i:Nat}(a:N[i]?=some x)(b:N[j]?=some x):i=j:=by
 have(m,g):=ko.mp a;have(l,e):=ko.mp b;exact(List.getElem_inj d).mp (g.trans e.symm)
theorem Bd (I:Inv X pins σ H s)(hN:X.N.Nodup)(hi:X.N[i]?=some x)(B:Loc X.env.scope x)(r:RelV v u)(h:∀s',Inv X pins (σ.set i (some v)) H s'->(∃a,Pc a s.heap s'.heap/\(a=X.env.locals\/X.env.cells.lookup x=some a))->Q Unit.unit s')(hf:X.fn x=true\/X.env.scope.names.lookup x=some .local:=by first|exact .inl rfl|exact .inr rfl|assumption):u4 M A (storeName X.env x u) Q E s:=by
 have(m,hn,hl):=id I.loc;have S:(X.env.scope.kind == .class||(X.env.scope.kind == .module&&X.env.locals != X.env.globals))=false:=by rw[I.ok.kind];rfl
 have G:i<σ.length:=by rw[I.len];exact(ko.mp hi).1
 have Et:=I.Et
 have l:∀{a:Addr}{h':Heap},(∃o,s.heap.get? a=some o/\H a=none)->Pc a s.heap h'->mU X.prog X.w H h':=λ{a h'} ha g b ob e=>by
  have(_,_,C):=ha;refine(I.hok b ob e).stay (λc W hc q=>(g.2 c ?_).trans q) (λ_ q=>q) λ_ _ q=>q;rintro rfl;rcases hc with rfl|hc
  .rw[C]at e;cases e
  .rw[C]at hc;cases hc
 rcases B with hk|hk
 .refine wpAny_storeName_local hk hn (λh' ab g=>?_) S;have(oL,_,_,aa,_):=id hn;refine h _ #[I.ok,I.os,I.bare,#[λb o e n O B=>?_,λb o e n O B=>?_,I.base.free,λb o e B=>?_,I.base.tups,I.base.frzs,I.base.tbls],#[_,ab,λj y Z t D e3=>?_],λy c e=>?_,I.free,I.freeC,λp hp=>?_,l #[oL,aa,I.free] g,by simpa using I.len] #[_,g,.inl rfl]
  .exact(g.2 b (MQ (zo (ri e) I.ok.above))).trans (I.base.keep b o e n O B)
  .have(sl,t):=I.base.slot b o e n O B;exact#[sl,(g.2 b (MQ (zo (ri e) I.ok.above))).trans t]
  .have(o',t):=I.base.there b o e B;exact#[o',(g.2 b (MQ (zo (ri e) I.ok.above))).trans t]
  .by_cases J:j=i
   .subst J;rw[hi]at t;cases t;rw[PK G]at D
    cases D
    exact#[u,r,.inl #[hk,by simp]]
   .rw[Pd (NW J)]at D;have(u',r',q):=hl j y Z t D e3;refine#[u',r',?_];rcases q with⟨k,e⟩|⟨k,c,e,z⟩
    .refine .inl #[k,?_];have:y≠x:=λe=>J (sf hN t (e▸hi));simp[this,e]
    .exact .inr #[k,c,e,z.sameBut g (Et y c e)]
  .have(W,z):=I.cell y c e;exact#[W,z.sameBut g (Et y c e)]
  .have(e,n,ne,nf,d):=I.pin p hp;exact#[(g.2 p.1 ne).trans e,n,ne,nf,d]
 .have L:X.fn x=true:=by
   rcases hf with z|z
   .exact z
   .rw[z]at hk;cases hk
  have(c,hc):=I.ok.has x (.inl hk);have(W,z):=I.cell x c hc;refine wpAny_storeName_cell I.ok.kind hk hc z (λh' U g=>?_);have(oc,R,P):=id z;refine h {s with heap:=h'} #[I.ok,I.os,I.bare,#[λb o e n O B=>?_,λb o e n O B=>?_,I.base.free,λb o e B=>?_,I.base.tups,I.base.frzs,I.base.tbls],#[m,hn.sameBut g (NW (Et x c hc)),λj y Z t D e3=>?_],λy Y e=>?_,I.free,I.freeC,λp hp=>?_,l #[oc,R,I.freeC x c hc] g,by simpa using I.len] #[c,g,.inr hc]
  .exact(g.2 b (MQ (zo (ri e) (I.ok.cab x c L hc)))).trans (I.base.keep b o e n O B)
  .have(sl,t):=I.base.slot b o e n O B;exact#[sl,(g.2 b (MQ (zo (ri e) (I.ok.cab x c L hc)))).trans t]
  .have(o',t):=I.base.there b o e B;exact#[o',(g.2 b (MQ (zo (ri e) (I.ok.cab x c L hc)))).trans t]
  .by_cases J:j=i
   .subst J;rw[hi]at t;cases t;rw[PK G]at D
    cases D
    exact#[u,r,.inr #[.inl hk,c,hc,U]]
   .rw[Pd (NW J)]at D;have(u',r',q):=hl j y Z t D e3;refine#[u',r',?_];rcases q with q|⟨k,Y,e,z'⟩
    .exact .inl q
    .refine .inr #[k,Y,e,z'.sameBut g ?_];rintro rfl;exact J (sf hN t (I.ok.inj _ _ _ e hc▸hi))
  .by_cases T:Y=c
   .subst T;exact#[_,U]
   .have(w2,z2):=I.cell y Y e;exact#[w2,z2.sameBut g T]
  .have(e,n,ne,nf,d):=I.pin p hp;refine#[(g.2 p.1 ?_).trans e,n,ne,nf,d];intro q;rw[q,R]at e;have q':oc=p.2:=Nd e;exact d W (by rw[<-q'];exact P)
theorem iV (I:Inv X pins σ H s)(e:X.N.Nodup)(hi:X.N[i]?=some x)(d:Loc X.env.scope x)(r:RelV v u)(h:∀s',Inv X pins (σ.set i (some v)) H s'->Q Unit.unit s')(hf:X.fn x=true\/X.env.scope.names.lookup x=some .local:=by first|exact .inl rfl|exact .inr rfl|assumption):u4 M A (storeName X.env x u) Q E s :=
 Bd I e hi d r (λs' g _=>h s' g) hf
theorem Inv.I8 (I:Inv X pins σ H s)(j:s'.os=s.os)(u:Un (frs X.stack) ch H H' s.heap s'.heap)(d:mU X.prog X.w H' s'.heap)(l:RM s'.gens)(hch:∀b∈ch,(b∈X.ex\/X.s₀.heap.objs.size<=b)/\b≠X.env.locals/\(∀x c,X.env.cells.lookup x=some c->c≠b)/\∀p∈X.pn++pins,p.1≠b):Inv X pins σ H' s':=by
 have(h',g',d',t',g):=s';have e:g=s.os:=j;subst e;exact I.call (g':=g') (t':=t') (d':=d') u d l hch
abbrev XK:=cB->Option Addr->Hp->Prop
abbrev St:=List (Option V)
abbrev VK:=V->Hp->Prop
abbrev TE:=St->Hp->VK->Prop
abbrev TT:=St->Hp->(Bool->Hp->Prop)->Prop
abbrev TA:=St->Hp->(List V->Hp->Prop)->Prop
structure Ends where
 nx:St->Hp->Prop
 rt:VK
 bk:St->Hp->Prop:=λ_ _=>False
 ct:St->Hp->Prop:=λ_ _=>False
abbrev TS:=Ends->St->Hp->Prop
def EP(X:Cx)(d:List (Addr×Obj))(g:St)(Q:VK)(u:cB)(s':eT):Prop:=∃v e,Inv X d g e s'/\RelV v u/\Q v e
def TP(X:Cx)(d:List (Addr×Obj))(g:St)(Q:Bool->Hp->Prop)(b:Bool)(s':eT):Prop:=∃e,Inv X d g e s'/\Q b e
def AP(X:Cx)(d:List (Addr×Obj))(j:St)(Q:List V->Hp->Prop)(us:List cB)(s':eT):Prop:=∃e g,Inv X d j g s'/\Vals e us/\Q e g
def SP(X:Cx)(e:List (Addr×Obj))(D:Ends)(f:Flow)(s':eT):Prop :=
 match f with
 |.next=>∃d g,Inv X e d g s'/\D.nx d g
 |.brk=>∃d g,Inv X e d g s'/\D.bk d g
 |.cont=>∃d g,Inv X e d g s'/\D.ct d g
 |.ret u=>∃v d g,Inv X e d g s'/\RelV v u/\D.rt v g
def PE(X:Cx)(e:Expr)(t:TE):Prop :=
 ∀(d:List (Addr×Obj)) (s:eT) (g:St) (H:Hp) (Q:VK),Inv X d g H s->t g H Q->u4 (L0 X.prog X.w) X.A (eval e X.env) (EP X d g Q) X.xe s
def PT(X:Cx)(e:Expr)(t:TT):Prop :=
 ∀(d:List (Addr×Obj)) (s:eT) (g:St) (H:Hp) (Q:Bool->Hp->Prop),Inv X d g H s->t g H Q->u4 (L0 X.prog X.w) X.A (isTrue e X.env (eval e X.env)) (TP X d g Q) X.xe s
def PW(X:Cx)(e:Expr)(t:TT):Prop :=
 ∀(g:Sem cB) (d:List (Addr×Obj)) (s:eT) (j:St) (H:Hp) (Q:Bool->Hp->Prop),Inv X d j H s->t j H Q->u4 (L0 X.prog X.w) X.A (isTrue e X.env g) (TP X d j Q) X.xe s
theorem PW.pt (h:PW X e t):PT X e t:=h _
def PA(X:Cx)(j:List Expr)(t:TA):Prop :=
 ∀(g:Pos) (d:List (Addr×Obj)) (s:eT) (e:St) (H:Hp) (Q:List V->Hp->Prop),Inv X d e H s->t e H Q->u4 (L0 X.prog X.w) X.A (spliced (Qo g (M3 j X.env))) (AP X d e Q) X.xe s
def PS(X:Cx)(st:Stmt)(t:TS):Prop :=
 ∀(d:List (Addr×Obj)) (s:eT) (e:St) (H:Hp) (D:Ends),Inv X d e H s->t D e H->u4 (L0 X.prog X.w) X.A (exec st X.env) (SP X d D) X.xe s
def qy(X:Cx)(st:List Stmt)(t:TS):Prop :=
 ∀(d:List (Addr×Obj)) (s:eT) (e:St) (H:Hp) (D:Ends),Inv X d e H s->t D e H->u4 (L0 X.prog X.w) X.A (execs st X.env) (SP X d D) X.xe s
theorem dw {t:Sem d}{Q e:d->eT->Prop}(h:u4 M A t Q E s)(g:∀a s,Q a s->e a s):u4 M A t e E s:=Nk h g λ_ _ x=>x
def mV(i:Nat):TE:=λd H Q=>∃v,d[i]?=some (some v)/\Q v H
abbrev tC(v:V):TE:=λ_ H Q=>Q v H
theorem Cq (y:X.N[i]?=some x)(q:IU X.env.scope x)(hd:(x == ("__debug__":Str))=false:=by decide)(o:(x == ("__classdict__":Str))=false:=by decide):PE X (.Name x j) (mV i):=by
 intro g s p H Q I h;have(v,e,h):=h;have(m,t,w):=I.loc;have(u,r,l):=w i x v y e q;have d:EP X g p Q u s:=#[v,H,I,r,h];rcases l with⟨hk,hm⟩|⟨hk,c,hc,hcell⟩
 .exact wpAny_Name (wpAny_loadName_local I.ok.kind hk t hm d) hd
 .rcases hk with hk|hk
  .exact wpAny_Name (wpAny_loadName_cell I.ok.kind hk hc hcell d) hd
  .exact wpAny_Name (wpAny_loadName_free I.ok.kind hk hc hcell d o) hd
theorem aq {i j pos}:PE X (.Constant (.int i) j pos) (tC (.int i)):=λ_ _ _ H _ I h=>wpAny_Constant_int #[.int i,H,I.tok _,#[_,rfl],h]
theorem wY {b j pos}:PE X (.Constant (.bool b) j pos) (tC (.bl b)):=λ_ _ _ H _ I h=>Constant_bool #[.bl b,H,I,rfl,h]
theorem sj {j pos}:PE X (.Constant .none j pos) (tC .gq):=λ_ _ _ H _ I h=>Constant_none #[.gq,H,I,rfl,h]
theorem aB {x j pos}:PE X (.Constant (.str x) j pos) (tC (.str x)):=λ_ _ _ H _ I h=>Calls.Constant_str #[.str x,H,I.tok _,#[_,rfl],h]
def Gl(X:Cx)(x:Str):Prop:=X.env.kindOf x=some .globalImplicit
theorem pH (I:Inv X d g H s)(j:Gl X x)(hm:X.mg x=some u)(h:Q u s)(hd:(x == ("__debug__":Str))=false:=by decide):u4 (L0 X.prog X.w) X.A (eval (.Name x e) X.env) Q E s :=
 RY I.ok.kind j (Calls.loadGlobal_global (by rw[I.ok.glob];exact I.mod.glob.keeps I.bk) hm h) hd
theorem lQ (I:Inv X d g H s)(l:Gl X x)(hm:X.mg x=none)(j:RL x=some u)(h:Q u s)(hn:x≠"__name__":=by decide)(hd:(x == ("__debug__":Str))=false:=by decide):u4 (L0 X.prog X.w) X.A (eval (.Name x e) X.env) Q E s:=by
 have(p,o,m):=I.mod.blt;exact RY I.ok.kind l (Calls.loadGlobal_builtin (by rw[I.ok.glob];exact I.mod.glob.keeps I.bk) hm (by rw[I.ok.blt];exact o.keeps I.bk) ((m x hn).trans j) h) hd
theorem dh (e:Gl X x)(hm:X.mg x=some u)(r:RelV v u)(hd:(x == ("__debug__":Str))=false:=by decide):PE X (.Name x d) (tC v) :=
 λ_ _ _ H _ I h=>pH I e hm #[v,H,I,r,h] hd
def tB(t:TE):TT:=λd H Q=>t d H λx e=>∃c,x=.bl c/\Q c e
theorem yT {e:Expr}{t:TE}(h:PE X e t)(p:∀g,isTrue e X.env g=(do let v ←g;standAt e.pos;RN [v] (truthy v)):=by intro _;rfl):PT X e (tB t):=by
 intro j s l H Q I o;refine isTrue_plain (dw (h j s l H _ I o) λv w ⟨x,u,r,m,q1⟩=>?_) (p _);have(d,rfl,q):=q1
 cases m
 exact Su #[u,r,q]
abbrev LP(u:TT)(e:St)(Q:Bool->Hp->Prop):Bool->Hp->Prop:=λc d=>if c=true then u e d Q else Q false d
abbrev LQ(u:TT)(e:St)(Q:Bool->Hp->Prop):Bool->Hp->Prop:=λc d=>if c=true then Q true d else u e d Q
abbrev Kx(t u:TT):TT:=λd H Q=>t d H (LP u d Q)
abbrev LR(t u:TT):TT:=λd H Q=>t d H (LQ u d Q)
def Ky(t:TT):TT:=λd H Q=>t d H λc e=>Q (!c) e
theorem iz {a:Expr}{pos:Pos}{tA:TT}(j:PT X a tA):PW X (.BoolOp .And [a] pos) tA:=by
 intro l d s g H Q I h;refine isTrue_and (dw (j d s g H Q I h) λc m e=>?_)
 cases c with
 |true=>exact isTrue_and_nil e
 |false=>exact e
theorem sr {a:Expr}{pos:Pos}{tA:TT}(j:PT X a tA):PW X (.BoolOp .Or [a] pos) tA:=by
 intro l d s g H Q I h;refine isTrue_or (dw (j d s g H Q I h) λc m e=>?_)
 cases c with
 |false=>exact isTrue_or_nil e
 |true=>exact e
theorem iL {a b:Expr}{pos:Pos}{tA tB':TT}{rest:List Expr}(p:PT X a tA)(o:PW X (.BoolOp .And (b::rest) pos) tB'):PW X (.BoolOp .And (a::b::rest) pos) (Kx tA tB'):=by
 intro l d s e H Q I h;refine isTrue_and (dw (p d s e H _ I h) λc m ⟨j,g,q1⟩=>?_)
 cases c with
 |true=>exact o l d m e j Q g q1
 |false=>exact#[j,g,q1]
theorem uH {a b:Expr}{pos:Pos}{tA tB':TT}{rest:List Expr}(p:PT X a tA)(o:PW X (.BoolOp .Or (b::rest) pos) tB'):PW X (.BoolOp .Or (a::b::rest) pos) (LR tA tB'):=by
 intro l d s e H Q I h;refine isTrue_or (dw (p d s e H _ I h) λc m ⟨j,g,q1⟩=>?_)
 cases c with
 |true=>exact#[j,g,q1]
 |false=>exact o l d m e j Q g q1
theorem Cr {a:Expr}{pos:Pos}{tA:TT}(g:PT X a tA):PT X (.UnaryOp .Not a pos) (Ky tA):=by
 intro d s e H Q I h;exact isTrue_not (g d s e H (λc j=>Q (!c) j) I h)
def LS(t:TT)(ta tb:TE):TE:=λd H Q=>t d H λc e=>if c=true then ta d e Q else tb d e Q
theorem wZ {a b:Expr}{ta tb:TE}{pos:Pos}{tA:TT}{c:Expr}(o:PT X c tA)(q:PE X a ta)(p:PE X b tb):PE X (.IfExp c a b pos) (LS tA ta tb):=by
 intro e s g H Q I h;refine wpAny_IfExp (dw (o e s g H _ I h) λd j ⟨m,l,q1⟩=>?_)
 cases d with
 |true=>exact q e j g m Q l q1
 |false=>exact p e j g m Q l q1
def bu(K:bA)(H:Hp)(a:Addr)(xs:List V):Prop :=
 Rd H a (.lst xs) \/
  ∃(o:Obj) (d:Array cB) (n:Nat),K.lookup a=some o/\o.cls=.type "list"/\o.dict=none/\o.data=.seq d n/\d.size<=mC/\Vals xs d.toList
def bQ(K:bA)(H:Hp)(a:Addr)(xs:List V):Prop :=
 Rd H a (.tup xs) \/
  ∃(o:Obj) (d:Array cB) (n:Nat),K.lookup a=some o/\o.cls=.type "tuple"/\o.data=.seq d n/\d.size<=mC/\Vals xs d.toList/\o.dict=none
noncomputable def Kz:cB->Option V
 |.none=>some .gq
 |.bool b=>some (.bl b)
 |.int i _=>some (.int i)
 |.str x _=>some (.str x)
 |.bytes b _=>some (.byt b)
 |.float b _=>some (.flt b)
 |.ref a=>some (.ref a)
 |.type n=>some (.ty n)
 |_=>none
theorem RelV.abs (r:RelV x u):Kz u=some x:=by
 cases x with
 |gq=>cases r;rfl
 |bl _=>cases r;rfl
 |int _=>have(t,rfl):=r;rfl
 |str _=>have(t,rfl):=r;rfl
 |byt _=>have(t,rfl):=r;rfl
 |flt _=>have(t,rfl):=r;rfl
 |ref _=>cases r;rfl
 |ty _=>cases r;rfl
theorem RelV.inj (r:RelV x u)(q:RelV y u):x=y:=Nd (r.abs.symm.trans q.abs)
theorem Vals.inj :∀{xs ys:List V}{us:List cB},Vals xs us->Vals ys us->xs=ys
 |_,_,_,.nil,.nil=>rfl
 |_,_,_,.cons r t,.cons r' t'=>by rw[r.inj r',Vals.inj t t']
theorem bu.of {K:bA}(h:H a=some (.lst xs)):bu K H a xs:=.inl (.inl h)
theorem bQ.of {K:bA}(h:H a=some (.tup xs)):bQ K H a xs:=.inl (.inl h)
theorem Inv.list (I:Inv X pins σ H s)(h:bu X.K H a xs):∃d:List cB,Vals xs d/\PlainL s.heap a d.toArray/\xs.length<=mC:=by
 rcases h with h|⟨o,d,n,hk,hc,hd,hs,hz,r⟩
 .have(z,d,n,r,e):=h.ok I.hok;exact#[d,r,#[_,n,e,rfl,rfl,rfl],z]
 .refine#[d.toList,r,#[o,n,I.tZ a o hk,hc,hd,by simpa using hs],?_];have e:=r.length;simp only[Pw]at e;omega
theorem Inv.tuple (I:Inv X pins σ H s)(h:bQ X.K H a xs):∃d:List cB,Vals xs d/\IsTup s.heap a d.toArray/\xs.length<=mC:=by
 rcases h with h|⟨o,d,n,hk,hc,hs,hz,r,_⟩
 .have(z,d,r,p,_):=h.ok I.hok;exact#[d,r,p,z]
 .refine#[d.toList,r,#[o,I.tZ a o hk,hc,n,by simpa using hs],?_];have e:=r.length;simp only[Pw]at e;omega
theorem Inv.xg (I:Inv X pins σ H s)(h:bu X.K H a xs)(h':bu X.K H a ys):xs=ys:=by
 have(j,r,(o,n,e,_,_,d),_):=I.list h;have(g,p,(q,t,l,_,_,m),_):=I.list h';rw[e]at l;cases l;rw[d]at m;injection m with d1 _;have:j=g:=by simpa using congrArg Array.toList d1
 subst this;exact r.inj p
theorem Inv.qz (I:Inv X pins σ H s)(h:bQ X.K H a xs)(h':bQ X.K H a ys):xs=ys:=by
 have(j,r,(o,e,_,n,d),_):=I.tuple h;have(g,p,(q,l,_,t,m),_):=I.tuple h';rw[e]at l;cases l;rw[d]at m;injection m with d1 _;have:j=g:=by simpa using congrArg Array.toList d1
 subst this;exact r.inj p
noncomputable abbrev Cx.jf(X:Cx)(E:cB->eT->Prop):Cx:={X with xe:=E}
noncomputable abbrev Cx.yU(X:Cx):Cx:=X.jf λ_ _=>False
theorem Cx.Ok.jf {X:Cx}(ok:X.Ok)(E:cB->eT->Prop):(X.jf E).Ok :=
 #[ok.mod,ok.kind,ok.glob,ok.blt,ok.above,ok.inj,ok.has,ok.cab,ok.hd,ok.frames,ok.stk,ok.exf,ok.bs,ok.bsz,ok.noex,ok.exfs,ok.oM,ok.frf]
theorem Cx.Ok.dY {X:Cx}(ok:(X.jf E).Ok):X.Ok :=
 #[ok.mod,ok.kind,ok.glob,ok.blt,ok.above,ok.inj,ok.has,ok.cab,ok.hd,ok.frames,ok.stk,ok.exf,ok.bs,ok.bsz,ok.noex,ok.exfs,ok.oM,ok.frf]
theorem Inv.jf (I:Inv X pins σ H s)(E:cB->eT->Prop):Inv (X.jf E) pins σ H s:=#[I.ok.jf E,I.os,I.bare,I.base,I.loc,I.cell,I.free,I.freeC,I.pin,I.hok,I.len]
theorem Inv.dY (I:Inv (X.jf E) pins σ H s):Inv X pins σ H s:=#[I.ok.dY,I.os,I.bare,I.base,I.loc,I.cell,I.free,I.freeC,I.pin,I.hok,I.len]
theorem SP.dY (h:SP (X.jf E) pins D f s'):SP X pins D f s':=by
 cases f with
 |next=>have(d,e,I,q):=h;exact#[d,e,I.dY,q]
 |brk=>have(d,e,I,q):=h;exact#[d,e,I.dY,q]
 |cont=>have(d,e,I,q):=h;exact#[d,e,I.dY,q]
 |ret u=>have(v,d,e,I,r,q):=h;exact#[v,d,e,I.dY,r,q]
theorem qy.yU {st:List Stmt}(h:qy X.yU st t):qy X st t:=λpins s σ H D I d =>
 Nk (h pins s σ H D (I.jf _) d) (λ_ _ q=>q.dY) λ_ _ z=>Nx z
def Gj:TS:=λD d H=>D.nx d H
noncomputable abbrev Ends.wn(D:Ends)(N:St->Hp->Prop):Ends:={D with nx:=N}
def aL(t u:TS):TS:=λD d H=>t (D.wn (u D)) d H
theorem jq :qy X [] Gj:=λ_ _ d H _ I h=>Rx #[d,H,I,h]
theorem bY {st:Stmt}{rest:List Stmt}{t u:TS}(o:PS X st t)(m:qy X rest u):qy X (st::rest) (aL t u):=by
 intro d s j H D I h;refine Qf (dw (o d s j H {D with nx:=u D} I h) λf l q=>?_)
 cases f with
 |next =>
  have(g,r,p,q):=q;exact m d l g r D p q
 |ret v=>exact q
 |brk=>exact q
 |cont=>exact q
theorem bW {st:Stmt}{t:TS}(j:PS X st t):qy X [st] t:=by
 intro d s g H D I h;refine Qf (dw (j d s g H D I h) λf l q=>?_)
 cases f with
 |next=>exact Rx q
 |ret v=>exact q
 |brk=>exact q
 |cont=>exact q
theorem Inv.quiet (I:Inv X d g H s):interactive X.env=false:=by simp[interactive,I.ok.kind]
abbrev LU(d:St)(N:St->Hp->Prop):VK:=λ_ g=>N d g
abbrev I9(te:TE):TS:=λD d H=>te d H (LU d D.nx)
theorem cC {e:Expr}{te:TE}{pos:Pos}(j:PE X e te)(hs:RV e none pos.line X.env=pure false:=by rfl):PS X (.Expr e pos) (I9 te):=by
 intro d s g H D I h;exact wpAny_Expr_any (dw (j d s g H _ I h) λv o ⟨x,m,l,p,q1⟩=>#[g,m,l,q1]) I.quiet hs
abbrev Ja(te:TE):TS:=λD d H=>te d H D.rt
theorem cH {e:Expr}{te:TE}{pos:Pos}(l:PE X e te):PS X (.Return (some e) pos) (Ja te):=by
 intro d s g H D I h;exact wpAny_Return_some (dw (l d s g H _ I h) λv p ⟨x,o,m,j,q1⟩=>#[x,g,o,m,j,q1])
abbrev LV(t u:TS)(D:Ends)(d:St):Bool->Hp->Prop:=λb g=>if b=true then t D d g else u D d g
abbrev GU(c:TT)(t u:TS):TS:=λD d H=>c d H (LV t u D d)
theorem kI {t u:TS}{pos:Pos}{c:Expr}{a b:List Stmt}{l:TT}(q:PT X c l)(v:qy X a t)(r:qy X b u):PS X (.If c a b pos) (GU l t u):=by
 intro g s j H D I h;refine wpAny_If (dw (q g s j H _ I h) λd m ⟨p,o,q1⟩=>?_)
 cases d with
 |true=>exact v g m j p D o q1
 |false=>exact r g m j p D o q1
abbrev TG:=V->St->Hp->(St->Hp->Prop)->Prop
abbrev Ey:=List V->St->Hp->(St->Hp->Prop)->Prop
def PG(X:Cx)(d:Expr)(t:TG):Prop :=
 ∀(e:List (Addr×Obj)) (s:eT) (j:St) (H:Hp) (v:V) (u:cB) (Q:St->Hp->Prop),Inv X e j H s->RelV v u->t v j H Q ->
  u4 (L0 X.prog X.w) X.A (Uw d X.env u) (λ_ m=>∃g l,Inv X e g l m/\Q g l) X.xe s
def Jb(X:Cx)(ts:List Expr)(t:Ey):Prop :=
 ∀(d:List (Addr×Obj)) (s:eT) (g:St) (H:Hp) (j:List V) (l:List cB) (Q:St->Hp->Prop),Inv X d g H s->Vals j l->t j g H Q ->
  u4 (L0 X.prog X.w) X.A (Uk ((QB ts X.env).map (·.2)) l) (λ_ o=>∃e m,Inv X d e m o/\Q e m) X.xe s
abbrev GV:=V->V->V->Hp->(Hp->Prop)->Prop
def Jc(X:Cx)(t:GV):Prop :=
 ∀(d:List (Addr×Obj)) (s:eT) (e:St) (H:Hp) (o i v:V) (g j u:cB) (Q:Hp->Prop),Inv X d e H s->RelV o g->RelV i j->RelV v u->t o i v H Q ->
  u4 (L0 X.prog X.w) X.A (UE g j u) (λ_ m=>∃l,Inv X d e l m/\Q l) X.xe s
abbrev JZ:=V->V->Hp->VK->Prop
def Lx(X:Cx)(op:Operator)(t:JZ):Prop :=
 ∀(d:List (Addr×Obj)) (s:eT) (e:St) (H:Hp) (x y:V) (v u:cB) (Q:VK),Inv X d e H s->RelV x v->RelV y u->t x y H Q ->
  u4 (L0 X.prog X.w) X.A (inplaceOp op v u) (EP X d e Q) X.xe s
abbrev iJ(i:Nat):TG:=λv d H Q=>Q (d.set i (some v)) H
theorem iR {pos:Pos}{i:Nat}{x:Str}(j:X.N.Nodup)(hi:X.N[i]?=some x)(e:Loc X.env.scope x)(g:X.fn x=true\/X.env.scope.names.lookup x=some .local:=by first|exact .inl rfl|exact .inr rfl|assumption):PG X (.Name x pos) (iJ i):=by
 intro d s m H v u Q I r h;exact wpAny_assign_Name (iV I j hi e r (λo l=>#[_,H,l,h]) g)
def Ez:Ey:=λe d H Q=>e=[]/\Q d H
abbrev LX(u:Ey)(r:List V)(Q:St->Hp->Prop):St->Hp->Prop:=λd e=>u r d e Q
def qL(t:TG)(u:Ey):Ey:=λe d H Q=>∃v r,e=v::r/\t v d H (LX u r Q)
theorem aX :Jb X [] Ez:=by
 intro d s g H j l Q I r h;have(e,h):=h;subst e
 cases r
 exact assignInOrder_nil #[g,H,I,h]
theorem aJ {e:Expr}{g:List Expr}{t:TG}{u:Ey}(p:PG X e t)(o:Jb X g u)(hs:(QB (e::g) X.env).map (·.2)=Uw e X.env::(QB g X.env).map (·.2):=by rfl):Jb X (e::g) (qL t u):=by
 intro d s l H z B Q I r h;have(v,A,q,h):=h;subst q
 cases r with
 |cons r rr =>
  rw[hs];refine RZ (dw (p d s l H _ _ _ I r h) λ_ m ⟨j,y,w,q1⟩=>?_);exact o d m j y _ _ Q w rr q1
def Cs(K:bA)(n:Nat)(t:Ey):TG:=λv e H Q=>∃a d,v=.ref a/\bQ K H a d/\d.length=n/\t d e H Q
theorem GW (B:X.calm=true)(h:Jb X g t)(hn:(QB g X.env).length=n:=by rfl)(hst:(QB g X.env).findIdx? (·.1)=none:=by rfl):PG X (.Tuple g k pos) (Cs X.K n t):=by
 intro d s l H v u Q I r j;have(a,p,D,z,A,j):=j;subst D
 cases r
 have(q,m,y,G):=I.tuple z;refine assign_Tuple_tuple (I.ok.hd B) y (by simp[hn,<-A,m.length]) hst λC w=>?_;have E:Inv X d l H {s with heap:=C}:=I.kept (t':=s.toks) λb o e=>w b o (MQ (ri e)) e;exact h d _ l H p _ Q E (by simpa using m) j
def KA(e g:TE)(t:GV):TG:=λv d H Q=>e d H λo m=>g d m λi l=>t o i v l λj=>Q d j
theorem vE (B:PE X o l)(hi:PE X i m)(hs:Jc X t)(ha:∀v,Uw (.Subscript o i pos) X.env v=(do
   let e ←RN [v] (eval o X.env)
   let g ←RN [v,e] (eval i X.env)
   standAt pos
   RN [v,e,g] (UE e g v)
   release [v,e,g] []):=by intro _;rfl):PG X (.Subscript o i pos) (KA l m t):=by
 intro d s j H v u Q I r h;rw[ha];refine bB (MZ (dw (B d s j H _ I h) λe q ⟨x,L,E,w,q1⟩=>?_));refine bB (MZ (dw (hi d q j L _ E q1) λg p ⟨y,J,D,r2,A⟩=>?_));refine bB (PZ (bB (MZ (dw (hs d p j J x y v e g u _ D w r2 r A) λ_ M ⟨G,C,z⟩=>?_))));exact wpAny_release #[j,G,C,z]
abbrev Ly(g:TG)(d:St)(N:St->Hp->Prop):VK:=λx e=>g x d e N
abbrev xh(e:TE)(g:TG):TS:=λD d H=>e d H (Ly g d D.nx)
theorem yV {pos:Pos}{j e:Expr}{m:TE}{g:TG}(u:PE X e m)(t:PG X j g)(hs:swapsWithSole [j] e pos.line X.env=pure false:=by rfl)(r:swappedStores [j] e X.env=pure none:=by rfl)(h1:(QB [j] X.env).map (·.2)=[Uw j X.env]:=by rfl):PS X (.Assign [j] e pos) (xh m g):=by
 intro d s l H D I h;refine wpAny_Assign_stores (dw (u d s l H _ I h) λv o ⟨x,y,w,p,q1⟩=>?_) hs r;rw[h1];exact dw (t d o l y x v _ w p q1) λ_ z q=>q
theorem ji (r:X.N.Nodup)(hi:X.N[i]?=some x)(o:Loc X.env.scope x)(q:PE X e j)(hs:RV e (some (.Name x d)) pos.line X.env=pure false:=by rfl)(p:X.fn x=true\/X.env.scope.names.lookup x=some .local:=by first|exact .inl rfl|exact .inr rfl|assumption):
  PS X (.Assign [.Name x d] e pos) (xh j (iJ i)):=by
 intro g s l H D I h;refine wpAny_Assign_Name (dw (q g s l H _ I h) λv A ⟨y,w,u,m,q1⟩=>?_) hs;exact iV u r hi o m (λz t=>#[_,w,t,q1]) p
def KC(i j:Nat)(g:TA):TS:=λD d H=>g d H λe l=>∃v w,e=[v,w]/\D.nx ((d.set i (some v)).set j (some w)) l
theorem GX {pos:Pos}{i j:Nat}{x y:Str}{a b:Expr}{E:TA}{u t pt:Pos}{kt k2 pt2}(R:X.calm=true)(G:X.N.Nodup)(hi:X.N[i]?=some x)(Q:X.N[j]?=some y)(B:i≠j)(hx:X.env.scope.names.lookup x=some .local)(hy:X.env.scope.names.lookup y=some .local)(ha:PA X [a,b] E)(hw:swappedStores [.Tuple [.Name x u,.Name y t] kt pt] (.Tuple [a,b] k2 pt2) X.env=pure (some [x,y]))(hs:swapsWithSole [.Tuple [.Name x u,.Name y t] kt pt] (.Tuple [a,b] k2 pt2) pos.line X.env=pure false:=by rfl):
  PS X (.Assign [.Tuple [.Name x u,.Name y t] kt pt] (.Tuple [a,b] k2 pt2) pos) (KC i j E):=by
 intro d s C H D I h;rw[exec_Assign_arm];refine bB (PZ ?_);rw[hs];refine bB (lj ?_);rw[if_neg (by decide)];refine bB (Tuple_ (dw (ha _ d s C H _ I h) λM m ⟨Y,L,W,P,q1⟩=>?_));have(v,w,S,q1):=q1;subst S
 obtain⟨l,g,rfl,O,r⟩:∃l g,M=[l,g]/\RelV v l/\RelV w g:=by
  cases P with
  |cons p q =>
   cases q with
   |cons p' q' =>
    cases q'
    exact#[_,_,rfl,p,p']
 refine NX ?_ (by show 2<=mC;decide);have V:Inv X d C L {m with heap:=m.heap.push {cls:=.type "tuple",data:=.seq [l,g].toArray}}:=W.kept (t':=m.toks) λb o e=>lu _ e;rw[hw];refine bB (lj ?_);show u4 (L0 X.prog X.w) X.A (do rule "assign.swapped-stores";let items ←unpackItems (.ref m.heap.objs.size) 2 none;Uk [λv=>TN X.env y v,λv=>TN X.env x v] items.reverse;pure Flow.next) _ _ _;refine bB (P7 (bB (unpackItems_tuple (items:=#[l,g,]) (I.ok.hd R) (UX m.heap _) λh' z=>?_)));have U:=V.kept (h':=h') (t':=m.toks) λb o e=>z b o (MQ (ri e)) e;show u4 _ _ (Uk [λv=>TN X.env y v,λv=>TN X.env x v] [g,l]>>=λ_=>pure Flow.next) _ _ _;refine bB (RZ (TQ (iV U G Q (.inl hy) r (λs2 T=>?_) (.inr hy))));refine RZ (TQ (iV T G hi (.inl hx) O (λZ J=>assignInOrder_nil (lj ?_)) (.inr hx)));rw[List.set_comm _ _ (NW B)]at J;exact#[_,L,J,q1]
def KG(i:Nat)(g:TE)(e:JZ):TS:=λD d H=>∃x,d[i]?=some (some x)/\g d H λy l=>e x y l λz j=>D.nx (d.set i (some z)) j
theorem GY (R:X.N.Nodup)(hi:X.N[i]?=some x)(q:Loc X.env.scope x)(Q:PE X e C)(L:Lx X op B)(P:X.fn x=true\/X.env.scope.names.lookup x=some .local:=by first|exact .inl rfl|exact .inr rfl|assumption):
  PS X (.AugAssign (.Name x o) op e pos) (KG i C B):=by
 intro d s t H D I h;have(v,S,h):=h;have(m,M,O):=I.loc;have p:IU X.env.scope x:=by rcases q with k|k;exact .inl k;exact .inr (.inl k)
 have(u,r,l):=O i x v hi S p;refine wpAny_AugAssign_Name ?_
 have go:u4 (L0 X.prog X.w) X.A (eval e X.env) (λw j=>u4 (L0 X.prog X.w) X.A (inplaceOp op u w) (λr g=>u4 (L0 X.prog X.w) X.A (storeName X.env x r) (λ_=>SP X d D .next) X.xe g) X.xe j) X.xe s:=by
  refine dw (Q d s t H _ I h) λw E ⟨y,Y,V,G,q1⟩=>?_;refine dw (L d E t Y v y u w _ V r G q1) λz s2 ⟨Z,W,U,r2,J⟩=>?_;exact iV U R hi q r2 (λs3 T=>#[_,W,T,J]) P
 rcases l with⟨hk,hm⟩|⟨hk,c,hc,hcell⟩
 .exact wpAny_loadName_local I.ok.kind hk M hm go
 .rcases hk with hk|hk
  .exact wpAny_loadName_cell I.ok.kind hk hc hcell go
  .rcases q with k|k
   .have:X.env.scope.names.lookup x=some .free:=hk;rw[k]at this;cases this
   .have:X.env.scope.names.lookup x=some .free:=hk;rw[k]at this;cases this
def LY(f:Int->Int->Int):JZ:=λx y H Q=>∃i j,x=.int i/\y=.int j/\Q (.int (f i j)) H
theorem GZ :Lx X .Add (LY λi j=>i+j):=by
 intro d s m H x y v u Q I e r2 h;have(i,j,l,g,q):=h;subst l;subst g;have(t,rfl):=e;have(o,rfl):=r2;exact iadd_int #[.int _,H,I.tok _,#[_,rfl],q]
def G0(c:TT)(o:TS):TS:=λD d H=>∃W:Nat->St->Hp->Prop,(∃m,W m d H)/\∀m d H,W m d H ->
 c d H λb j=>if b=true then ∃N:St->Hp->Prop,(∀e l,N e l->∃g,g < m/\W g e l)/\o {D with nx:=N,ct:=N,bk:=D.nx} d j else D.nx d j
theorem pJ {pos:Pos}{c:Expr}{j:List Stmt}{B:TT}{C:TS}(E:PassesOwn (L0 X.prog X.w) X.A X.env X.xe)(V:PT X c B)(Y:qy X j C):PS X (.While c j [] pos) (G0 B C):=by
 intro e s P H D I h;have(W,(U,R),m):=h;refine wpAny_While (codeAny_whileLoop (λn T=>∃l O,Inv X e l O T/\W n l O) ?_ U #[P,H,I,R]);rintro n s1 ⟨g,M,Z,Q⟩;refine O8 E (dw (V e s1 g M _ Z (m n g M Q)) λb S ⟨L,J,q⟩=>?_)
 cases b with
 |true =>
  have(N,G,q):=q;rw[if_pos rfl];refine O8 E (dw (Y e S g L _ J q) λf s3 p=>?_)
  cases f with
  |next =>
   have(d,o,z,t):=p;have(u,y,r):=G d o t;exact#[u,y,d,o,z,r]
  |cont =>
   have(d,o,z,t):=p;have(u,y,r):=G d o t;exact#[u,y,d,o,z,r]
  |brk=>exact p
  |ret v=>exact p
 |false =>
  rw[if_neg FG];exact Rx #[g,L,J,q]
structure It where
 go:Nat->Hp->Prop
 yld:Nat->Hp->V->Hp->Prop
 stop:Nat->Hp->Prop
def qZ(X:Cx)(d:List (Addr×Obj))(H:Hp)(b:Addr):Prop :=
 H b=none/\b≠X.env.locals/\b∉X.fs/\(b∈X.ex\/X.s₀.heap.objs.size<=b)/\(∀x c,X.env.cells.lookup x=some c->c≠b)/\∀p∈X.pn++d,p.1≠b
theorem Inv.Ct (I:Inv X d l H s)(g:s.heap.objs.size<=b)(hn:j b=none):qZ X d j b:=by
 refine#[hn,Oo (zo I.lt g),I.Ex g,.inr (FA I.sz g),λx c e z=>?_,λp m z=>?_]
 .have(v,q):=I.cell x c e;exact absurd (zo q.lt (by rw[z];exact g)) (Np _)
 .exact absurd (zo (ri (I.pin p m).1) (by rw[z];exact g)) (Np _)
structure Turn(P:sC) (w:FT) (K:bA) (tg:Expr) (J:It) (fp:List Addr) (it:Addr) (tn:Nat->Heap->Prop):Prop where
 mem:it∈fp
 obj:∀i h,tn i h->∀b∈fp,∃o,h.get? b=some o/\∀v,o.data≠.cell v
 keep:∀i h h',tn i h->(∀b∈fp,∀o,h.get? b=some o->h'.get? b=some o)->tn i h'
 item:∀(X:Cx),X.prog=P->X.w=w->X.K=K->X.calm=true->∀(i:Nat) (pins:List (Addr×Obj)) (s:eT) (σ:St) (H:Hp) (E:cB->eT->Prop),Inv X pins σ H s->(∀b∈fp,qZ X pins H b)->tn i s.heap->J.go i H ->
  u4 (L0 P w) X.A (Qp (.ref it)) (λr s1=>∃u,r=some u /\
   u4 (L0 P w) X.A (Ry tg (.ref it) u) (λ_ s2=>∃x H',Inv X pins σ H' s2/\RelV x u/\J.yld i H x H'/\tn (i+1) s2.heap/\∀b∈fp,H' b=none) E s1) E s
 done:∀(X:Cx),X.prog=P->X.w=w->X.K=K->X.calm=true->∀(i:Nat) (pins:List (Addr×Obj)) (s:eT) (σ:St) (H:Hp) (E:cB->eT->Prop),Inv X pins σ H s->(∀b∈fp,qZ X pins H b)->tn i s.heap->J.stop i H ->
  u4 (L0 P w) X.A (Qp (.ref it)) (λr s1=>r=none/\Inv X pins σ H s1) E s
 self:∀(A:MM) (i:Nat) (s:eT) (Q:cB->eT->Prop) (E:cB->eT->Prop),tn i s.heap->Q (.ref it) s->u4 (L0 P w) A (pyIter (.ref it)) Q E s
abbrev TI:=St->Hp->(It->Hp->Prop)->Prop
def Lz(X:Cx)(d:List (Addr×Obj))(p:St)(q:Expr)(R:It->Hp->Prop)(e:cB)(l:eT):Prop :=
 ∃(m:Addr) (o:List Addr) (j:Nat->Heap->Prop) (J:It) (g:Hp),e=.ref m/\Inv X d p g l/\Turn X.prog X.w X.K q J o m j/\j 0 l.heap/\(∀b∈o,qZ X d g b)/\R J g
def PI(X:Cx)(l e:Expr)(j:TI):Prop :=
 ∀(d:List (Addr×Obj)) (s:eT) (g:St) (H:Hp) (R:It->Hp->Prop),Inv X d g H s->j g H R ->
  u4 (L0 X.prog X.w) X.A (eval e X.env) (λv m=>u4 (L0 X.prog X.w) X.A (pyIter v) (Lz X d g l R) X.xe m) X.xe s
theorem Cu (g : s.heap.get? it = some o)(j : o.cls = .type n)(hd : o.data = .fields d)(hn : ["enumerate", "zip", "dict_itemiterator", "dict_reverseitemiterator", "odict_iterator", "itertools.zip_longest", "itertools.pairwise"].contains n = false)(hQ : Q Unit.unit s): u4 M A (Ry e (.ref it) u) Q E s := by
  unfold Ry
  cases e <;> first
    | exact lj hQ
    | (cases u <;> first
        | exact lj hQ
        | (refine bB (wpAny_load g ?_)
           rw [j, hd];show u4 M A (if (["enumerate", "zip", "dict_itemiterator", "dict_reverseitemiterator", "odict_iterator", "itertools.zip_longest", "itertools.pairwise"].contains n && d[0]? == some (NK _)) = true then _ else _) Q E s;rw [if_neg (by intro h; rw [hn, Bool.false_and] at h; cases h)];exact lj hQ))
noncomputable def EA(K:bA)(a:Addr):It :=
 #[λi H=>∃d x,bu K H a d/\d[i]?=some x,λi H x e=>e=H/\∀d,bu K H a d->d[i]?=some x,λi H=>∃d,bu K H a d/\d.length<=i]
noncomputable def Cv(K:bA)(a:Addr):It :=
 #[λi H=>∃d x,bQ K H a d/\d[i]?=some x,λi H x e=>e=H/\∀d,bQ K H a d->d[i]?=some x,λi H=>∃d,bQ K H a d/\d.length<=i]
noncomputable def G1(lo:Int)(n:Nat):It:=#[λi _=>i<n,λi H x d=>d=H/\x=.int (lo+i),λi _=>n<=i]
theorem Be {K:bA}(a it:Addr):Turn P w K U (EA K a) [it] it (λi h=>h.IsListIter it a i) where
 mem:=by simp
 obj:=λi h g b l=>by
  have e:b=it:=by simpa using l
  subst e;have(o,e,c,d):=g;exact#[o,e,λv z=>by rw[d]at z;cases z]
 keep:=λi h t g k=>g.at λo e=>k it (by simp) o e
 item:=by
  intro X G C J S i j s R H E I r g D;subst G C J;have(T,x,q,B):=D;have(A,y,p,Z):=I.list q;have(u,hu,Y):=y.get B;have(Q,O,f2,N,M,L):=r it (by simp);refine wpAny_pyNext_list_item g p.isList (x:=u) (by simpa using hu) λt m V=>?_;have I1:Inv X j R H {s with heap:=t}:=I.turned (t':=s.toks) (λb o l e=>(V.2 b l).trans e) Q O N M L;have(o,e,c,d):=id m;exact#[u,rfl,Cu (s:={s with heap:=t}) e c d (by decide) #[x,H,I1,Y,#[rfl,λys hy=>by rw[I.xg hy q];exact B],m,λb l=>(r b l).1]]
 done:=by
  intro X G C J S i j s R H E I r g D;subst G C J;have(T,q,B):=D;have(A,y,p,Z):=I.list q;have(Q,O,f2,N,M,L):=r it (by simp);have hl:=y.length;exact wpAny_pyNext_list_end (I.ok.hd S) g p.isList (by simp;omega) λt eb=>#[rfl,I.turned (t':=s.toks) (λb o l e=>eb b o l e) Q O N M L]
 self:=λ_ _ _ _ _ g h=>wpAny_pyIter_listiter g h
theorem yW {K:bA}(a it:Addr):Turn P w K U (Cv K a) [it] it (λi h=>h.IsTupleIter it a i) where
 mem:=by simp
 obj:=λi h g b m=>by
  have e:b=it:=by simpa using m
  subst e;have(o,e,c,d):=g;exact#[o,e,λv z=>by rw[d]at z;cases z]
 keep:=λi h y g k=>g.at λo e=>k it (by simp) o e
 item:=by
  intro X G C J S i j s R H E I t g D;subst G C J;have(T,x,r,B):=D;have(l,A,p,Z):=I.tuple r;have(u,hu,Y):=A.get B;have(Q,O,f2,N,M,L):=t it (by simp);refine wpAny_pyNext_tuple_item g (show s.heap.IsTuple a l.toArray from p) (x:=u) (by simpa using hu) λy q V=>?_;have I1:Inv X j R H {s with heap:=y}:=I.turned (t':=s.toks) (λb o m e=>(V.2 b m).trans e) Q O N M L;have(o,e,c,d):=id q;exact#[u,rfl,Cu (s:={s with heap:=y}) e c d (by decide) #[x,H,I1,Y,#[rfl,λys hy=>by rw[I.qz hy r];exact B],q,λb m=>(t b m).1]]
 done:=by
  intro X G C J S i j s R H E I t g D;subst G C J;have(T,r,B):=D;have(l,A,p,Z):=I.tuple r;have(Q,O,f2,N,M,L):=t it (by simp);have hl:=A.length;exact wpAny_pyNext_tuple_end (I.ok.hd S) g (show s.heap.IsTuple a l.toArray from p) (by simp;omega) λy eb=>#[rfl,I.turned (t':=s.toks) (λb o m e=>eb b o m e) Q O N M L]
 self:=λ_ _ _ _ _ g h=>wpAny_pyIter_tupleiter g h
theorem yX {K:bA}(it:Addr)(lo:Int)(n:Nat):Turn P w K O (G1 lo n) [it] it (λi h=>IsRangeIter h it (lo+(i:Nat)*1) ((n:Int) - (i:Nat)) 1) where
 mem:=by simp
 obj:=λi h d b j=>by
  have e:b=it:=by simpa using j
  subst e
  exact#[_,d,λv z=>by
   have N:Data.fields _=Data.cell v:=z
   cases N]
 keep:=λi h p d k=>k it (by simp) _ d
 item:=by
  intro X y q A u i g s L H E I m d r;subst y q A;have(J,G,S,D,C,B):=m it (by simp);have W:=Walks.range (prog:=X.prog) (w:=X.w) (I.ok.hd u) it lo 1 n;refine W.item i s _ _ r d λv p M R l Q=>?_;have(t,rfl):=R;have U:Inv X g L H {s with heap:=p,toks:=M}:=I.turned (λb o j e=>Q b o (by simpa using j) e) J G D C B;refine#[_,rfl,Cu (s:={s with heap:=p,toks:=M}) (n:="range_iterator") l rfl rfl (by decide) #[.int (lo+i),H,U,#[t,?_],#[rfl,rfl],l,λb j=>(m b j).1]];rw[Int.mul_one]
 done:=by
  intro X y q A u i g s L H E I m d r;subst y q A;have(J,G,S,D,C,B):=m it (by simp);exact wpAny_pyNext_range_end (I.ok.hd u) d (by have:n<=i:=r;omega) λp T=>#[rfl,I.turned (t':=s.toks) (λb o j e=>T b o j e) J G D C B]
 self:=λ_ _ _ _ _ d h=>wpAny_pyIter_rangeiter d h
def Jd(K:bA)(j:TE):TI:=λe H R=>j e H λx d=>∃a,x=.ref a/\(∃g,bu K d a g)/\R (EA K a) d
def KH(K:bA)(j:TE):TI:=λe H R=>j e H λx d=>∃a,x=.ref a/\(∃g,bQ K d a g)/\R (Cv K a) d
theorem cJ {tg:Expr}{l:Expr}{m:TE}(y:PE X l m):PI X tg l (Jd X.K m):=by
 intro d s r H R I h;refine dw (y d s r H _ I h) λv g ⟨x,A,j,t,q1⟩=>?_;have(a,e,(B,w),q):=q1;subst e
 cases t
 have(u,C,p,D):=j.list w;refine Sv p.isList ?_;refine#[g.heap.objs.size,[g.heap.objs.size],_,_,A,rfl,j.kept (t':=g.toks) λb o e=>lu _ e,Be a _,#[_,zv _ rfl,rfl,rfl],λb z=>?_,q];have e:b=g.heap.objs.size:=by simpa using z
 subst e;exact j.Ct (mu _) (j.hok.fresh (mu _))
theorem dZ {tg:Expr}{l:Expr}{r:TE}(y:PE X l r):PI X tg l (KH X.K r):=by
 intro g s t H R I h;refine dw (y g s t H _ I h) λv d ⟨x,A,j,u,q1⟩=>?_;have(a,e,(B,w),q):=q1;subst e
 cases u
 have(m,C,p,D):=j.tuple w;refine R0 (show d.heap.IsTuple a m.toArray from p) ?_;refine#[d.heap.objs.size,[d.heap.objs.size],_,_,A,rfl,j.kept (t':=d.toks) λb o e=>lu _ e,yW a _,#[_,zv _ rfl,rfl,rfl],λb z=>?_,q];have e:b=d.heap.objs.size:=by simpa using z
 subst e;exact j.Ct (mu _) (j.hok.fresh (mu _))
theorem Cw {lo:Int}(I:Inv X d g H s)(y:-(2 ^ 62)<=lo)(r:lo<2 ^ 62)(p:-(2 ^ 62)<=hi)(m:hi<2 ^ 62)(q:R (G1 lo (hi-lo).toNat) H):u4 (L0 X.prog X.w) X.A (pyIter (.ref s.heap.objs.size)) (Lz X d g tg R) E {s with heap:=s.heap.push {cls:=.type "range",data:=.fields #[.int lo t,.int hi u,.int 1 v,]},toks:=tk}:=by
 refine wpAny_pyIter_range (IsRange.new ..) (small_one y r p m) ?_;have j:Inv X d g H {s with heap:=s.heap.push {cls:=.type "range",data:=.fields #[.int lo t,.int hi u,.int 1 v,]},toks:=tk}:=I.kept λb o e=>lu _ e
 refine#[(s.heap.push {cls:=.type "range",data:=.fields #[.int lo t,.int hi u,.int 1 v,]}).objs.size,[(s.heap.push {cls:=.type "range",data:=.fields #[.int lo t,.int hi u,.int 1 v,]}).objs.size],_,_,H,rfl,
  j.kept (t':=tk) λb o e=>lu _ e,yX _ lo (hi-lo).toNat,?_,λb l=>?_,q]
 .have B:lo+((0:Nat):Int)*1=lo:=by simp
  have z:(((hi-lo).toNat:Nat):Int) - ((0:Nat):Int)=Px.Range.rangeSize lo hi 1:=by rw[rangeSize_one];split<;>omega
  show IsRangeIter _ _ (lo+((0:Nat):Int)*1) ((((hi-lo).toNat:Nat):Int) - ((0:Nat):Int)) 1;rw[B,z];exact zv _ rfl
 .have e:b=(s.heap.push {cls:=.type "range",data:=.fields #[.int lo t,.int hi u,.int 1 v,]}).objs.size:=by simpa using l
  subst e;exact j.Ct (mu _) (j.hok.fresh (mu _))
def Je(g:TA):TI:=λd H R=>g d H λe l=>∃j:Int,e=[.int j]/\-(2 ^ 62)<=j/\j<2 ^ 62/\R (G1 0 j.toNat) l
theorem uI {tg:Expr}{a:Expr}{l:TA}{p d:Pos}(v:Gl X "range")(hm:X.mg "range"=none)(w:PA X [a] l)(hs:M3 [a] X.env=[(false,eval a X.env)]:=by rfl):PI X tg (.Call (.Name "range" p) [a] [] d) (Je l):=by
 intro g s m H R I h;refine Call_ (lQ I v hm boot_range (Nl (dw (w d g s m H _ I h) λA B ⟨z,C,y,o,q1⟩=>?_) hs rfl));have(j,e,q1,u,q):=q1;subst e
 cases o with
 |cons r rr =>
  cases rr
  have(t,rfl):=r;exact call_range_1 (Cw y () () q1 u (by simpa using q))
def KL(p:TI)(g:TG)(q:TS):TS:=λD d H=>p d H λJ t=>∃W:Nat->Nat->St->Hp->Prop,(∃m,W 0 m d t)/\∀i m d H,W i m d H ->
 (J.stop i H/\D.nx d H)\/(J.go i H/\∃N:St->Hp->Prop,(∀e j,N e j->∃o,o < m/\W (i+1) o e j)/\∀x j,J.yld i H x j->g x d j λl r=>q {D with nx:=N,ct:=N,bk:=D.nx} l r)
noncomputable def su(d:List Addr)(h:Heap):List (Addr×Obj):=d.filterMap λb=>(h.get? b).map λo=>(b,o)
theorem lR (g:b∈d)(e:h.get? b=some o):(b,o)∈su d h:=R1.mpr #[b,g,by rw[e];rfl]
theorem Bf (g:p∈su d h):p.1∈d/\h.get? p.1=some p.2:=by
 have(b,j,e):=R1.mp g
 cases q:h.get? b with
 |none=>rw[q]at e;cases e
 |some o =>
  rw[q]at e;have l:(b,o)=p:=Nd e;subst l;exact#[j,q]
theorem Inv.pinned (I:Inv X g l H s)(u:∀b∈j,qZ X g H b)(t:∀b∈j,∃o,s.heap.get? b=some o/\∀v,o.data≠.cell v):Inv X (g++su j s.heap) l H s :=
 I.iy λp r=>(MH.mp r).elim (λz=>I.pin p (I0 _ z)) λz=>by
  have(m,e):=Bf z;have(A,y,w,_):=u p.1 m;have(o,q,d):=t p.1 m;rw[e]at q;cases q;exact#[e,A,y,w,d]
theorem Inv.sy (I:Inv X (d++g) e H s):Inv X d e H s:=I.iy λp j=>I.pin p (I0 _ (M8 _ j))
theorem qA {tg:Expr}{y:Expr}{L:List Stmt}{wi:TI}{g:TG}{tb:TS}{aa:Pos}(R:PassesOwn (L0 X.prog X.w) X.A X.env X.xe)(hc:X.calm=true)(hi:PI X tg y wi)(hg:PG X tg g)(z:qy X L tb)(hs:∀x,Pe y X.env x=pure x:=by intro _;rfl):PS X (.For tg y L [] aa) (KL wi g tb):=by
 intro l s σ H D I h;refine wpAny_For (dw (hi l s σ H _ I h) λv s1 h1=>dw h1 λad s2 h2=>?_) hs;have(it,U,tn,J,H2,e,I2,T,Z,f2,W,(m0,w0),O):=h2;subst e
 -- what stays true of the iterator's objects through the loop
 have t:∀{E:Hp},(∀b∈U,E b=none)->∀b∈U,qZ X l E b:=λhn b z=>#[hn b z,(f2 b z).2];refine codeAny_forLoop_any (λn s'=>∃i q E,Inv X l q E s'/\tn i s'.heap/\(∀b∈U,E b=none)/\W i n q E) ?_ m0 #[0,σ,H2,I2,Z,λb z=>(f2 b z).1,w0];rintro n s3 ⟨i,p,V,I3,P,S,w3⟩;rcases O i n p V w3 with⟨stop,qn⟩|⟨go,N,hN,step⟩
 .refine O8 R (dw (T.done X rfl rfl rfl hc i l s3 p V X.xe I3 (t S) P stop) λr s4 ⟨hr,I4⟩=>?_);subst hr;exact Rx #[p,V,I4,qn]
 .refine O8 R (dw (T.item X rfl rfl rfl hc i l s3 p V X.xe I3 (t S) P go) λr s4 ⟨u,hr,h4⟩=>?_);subst hr;refine O8 R (dw h4 λ_ s5 ⟨x,H5,I5,r5,y5,M,ab⟩=>?_);have ac:=I5.pinned (t ab) (T.obj _ _ M);refine O8 R (dw (hg _ s5 p H5 x u _ ac r5 (step x H5 y5)) λ_ s6 ⟨Y,H6,I6,q6⟩=>?_);refine O8 R (dw (z _ s6 Y H6 _ I6 q6) λf s7 G=>?_)
  have again:∀{j:St}{C:Hp},Inv X (l++su U s5.heap) j C s7->N j C->∃m,m<n/\∃i q E,Inv X l q E s7/\tn i s7.heap/\(∀b∈U,E b=none)/\W i m q E:=λ{j C} B Q=>by
   have(m',hm,w7):=hN j C Q;refine#[m',hm,i+1,j,C,B.sy,T.keep _ _ _ M λb z o e=>(B.pin (b,o) (I0 _ (I0 _ (lR z e)))).1,λb z=>?_,w7];have(o,e,d):=T.obj _ _ M b z;exact(B.pin (b,o) (I0 _ (I0 _ (lR z e)))).2.1
  cases f with
  |next=>have(j,C,B,Q):=G;exact again B Q
  |cont=>have(j,C,B,Q):=G;exact again B Q
  |brk=>have(j,C,B,G):=G;exact#[j,C,B.sy,G]
  |ret v=>have(x7,j,C,B,r7,G):=G;exact#[x7,j,C,B.sy,r7,G]
theorem mW {K:bA}{g:TG}{u:TS}{D:Ends}(j:Nat->St->Hp->Prop)(B:j 0 d H)(z:∀i d H,i<=xs.length->j i d H->bu K H a xs)(hs:∀i x d H,xs[i]?=some x->j i d H->g x d H λl t=>u {D with nx:=j (i+1),ct:=j (i+1),bk:=D.nx} l t)(hd:∀d H,j xs.length d H->D.nx d H):
  ∃W:Nat->Nat->St->Hp->Prop,(∃m,W 0 m d H)/\∀i m d H,W i m d H ->
   ((EA K a).stop i H/\D.nx d H)\/((EA K a).go i H/\∃N:St->Hp->Prop,(∀σ' o,N σ' o->∃v,v < m/\W (i+1) v σ' o)/\∀x o,(EA K a).yld i H x o->g x d o λl t=>u {D with nx:=N,ct:=N,bk:=D.nx} l t):=by
 refine#[λi m d H=>m=xs.length-i/\i<=xs.length/\j i d H,#[xs.length,by simp,MP _,B],?_];rintro i m d H ⟨rfl,A,p⟩;have q:=z i d H A p
 by_cases r:i<xs.length
 .refine .inr #[#[xs,xs[i],q,by simp[r]],j (i+1),λσ' o w=>#[xs.length - (i+1),(),rfl,r,w],λx o y=>?_];have(e,y):=y;subst e;exact hs i x d _ (y xs q) p
 .have e:i=xs.length:=()
  subst e;exact .inl #[#[xs,q,mu _],hd d H p]
theorem nT {K:bA}{g:TG}{u:TS}{D:Ends}(j:Nat->St->Hp->Prop)(B:j 0 d H)(z:∀i d H,i<=xs.length->j i d H->bQ K H a xs)(hs:∀i x d H,xs[i]?=some x->j i d H->g x d H λl t=>u {D with nx:=j (i+1),ct:=j (i+1),bk:=D.nx} l t)(hd:∀d H,j xs.length d H->D.nx d H):
  ∃W:Nat->Nat->St->Hp->Prop,(∃m,W 0 m d H)/\∀i m d H,W i m d H ->
   ((Cv K a).stop i H/\D.nx d H)\/((Cv K a).go i H/\∃N:St->Hp->Prop,(∀σ' o,N σ' o->∃v,v < m/\W (i+1) v σ' o)/\∀x o,(Cv K a).yld i H x o->g x d o λl t=>u {D with nx:=N,ct:=N,bk:=D.nx} l t):=by
 refine#[λi m d H=>m=xs.length-i/\i<=xs.length/\j i d H,#[xs.length,by simp,MP _,B],?_];rintro i m d H ⟨rfl,A,p⟩;have q:=z i d H A p
 by_cases r:i<xs.length
 .refine .inr #[#[xs,xs[i],q,by simp[r]],j (i+1),λσ' o w=>#[xs.length - (i+1),(),rfl,r,w],λx o y=>?_];have(e,y):=y;subst e;exact hs i x d _ (y xs q) p
 .have e:i=xs.length:=()
  subst e;exact .inl #[#[xs,q,mu _],hd d H p]
theorem eO {lo:Int}{g:TG}{t:TS}{D:Ends}(o:Nat->St->Hp->Prop)(w:o 0 d H)(hs:∀i d H,i<n->o i d H->g (.int (lo+i)) d H λj r=>t {D with nx:=o (i+1),ct:=o (i+1),bk:=D.nx} j r)(hd:∀d H,o n d H->D.nx d H):
  ∃W:Nat->Nat->St->Hp->Prop,(∃m,W 0 m d H)/\∀i m d H,W i m d H ->
   ((G1 lo n).stop i H/\D.nx d H)\/((G1 lo n).go i H/\∃N:St->Hp->Prop,(∀σ' q,N σ' q->∃u,u < m/\W (i+1) u σ' q)/\∀x q,(G1 lo n).yld i H x q->g x d q λj r=>t {D with nx:=N,ct:=N,bk:=D.nx} j r):=by
 refine#[λi m d H=>m=n-i/\i<=n/\o i d H,#[n,by simp,MP _,w],?_];rintro i m d H ⟨rfl,z,p⟩
 by_cases l:i<n
 .refine .inr #[l,o (i+1),λσ' q v=>#[n - (i+1),(),rfl,l,v],λx q y=>?_];have(e,y):=y;subst e y;exact hs i d _ l p
 .have e:i=n:=()
  subst e;exact .inl #[mu _,hd d H p]
abbrev R2:=V->V->Hp->VK->Prop
def nZ(X:Cx)(f:cB->cB->Sem cB)(r:R2):Prop :=
 ∀(d:List (Addr×Obj)) (s:eT) (e:St) (H:Hp) (x y:V) (v u:cB) (Q:VK),Inv X d e H s->RelV x v->RelV y u->r x y H Q ->
  u4 (L0 X.prog X.w) X.A (f v u) (EP X d e Q) X.xe s
def KN(X:Cx)(f:cB->Sem cB)(r:V->Hp->VK->Prop):Prop :=
 ∀(d:List (Addr×Obj)) (s:eT) (e:St) (H:Hp) (x:V) (v:cB) (Q:VK),Inv X d e H s->RelV x v->r x H Q ->
  u4 (L0 X.prog X.w) X.A (f v) (EP X d e Q) X.xe s
def j4(X:Cx)(f:cB)(r:List V->Hp->VK->Prop):Prop :=
 ∀(d:List (Addr×Obj)) (s:eT) (e:St) (H:Hp) (g:List V) (j:List cB) (Q:VK),Inv X d e H s->Vals g j->r g H Q ->
  u4 (L0 X.prog X.w) X.A (call f j) (EP X d e Q) X.xe s
def KQ(X:Cx)(r:V->Hp->(Bool->Hp->Prop)->Prop):Prop :=
 ∀(d:List (Addr×Obj)) (s:eT) (e:St) (H:Hp) (x:V) (v:cB) (Q:Bool->Hp->Prop),Inv X d e H s->RelV x v->r x H Q ->
  u4 (L0 X.prog X.w) X.A (truthy v) (TP X d e Q) X.xe s
abbrev LZ(r:R2)(x:V)(Q:VK):VK:=λy d=>r x y d Q
abbrev L6(r:R2)(e:TE)(d:St)(Q:VK):VK:=λx g=>e d g (LZ r x Q)
abbrev Cy(r:R2)(g e:TE):TE:=λd H Q=>g d H (L6 r e d Q)
abbrev L7(r:V->Hp->VK->Prop)(Q:VK):VK:=λx d=>r x d Q
abbrev L8(r:V->Hp->VK->Prop)(e:TE):TE:=λd H Q=>e d H (L7 r Q)
def rI(C:Int->Int->Prop)(g:Int->Int->V):R2:=λx y H Q=>∃i j,x=.int i/\y=.int j/\C i j/\Q (g i j) H
def G3(g:Int->Int->V):R2:=λx y H Q=>∃i j,x=.int i/\y=.int j/\Q (g i j) H
def rU(g:Int->V):V->Hp->VK->Prop:=λx H Q=>∃i,x=.int i/\Q (g i) H
theorem G4 (z:PE X a ta)(t:PE X b tb){R:V->V->Hp->Prop}(I:Inv X d e H s)(h:ta e H λx o=>tb e o λy g=>R x y g){f:cB->cB->Sem cB}(hf:∀v u m x y g,Inv X d e g m->RelV x v->RelV y u->R x y g->u4 (L0 X.prog X.w) X.A (f v u) Q X.xe m):
  u4 (L0 X.prog X.w) X.A (eval a X.env) (λv l=>u4 (L0 X.prog X.w) X.A (eval b X.env) (λu j=>u4 (L0 X.prog X.w) X.A (f v u) Q X.xe j) X.xe l) X.xe s:=by
 refine dw (z d s e H _ I h) λv p ⟨x,o,C,q,q1⟩=>?_;refine dw (t d p e o _ C q1) λu m ⟨y,g,B,r2,r⟩=>?_;exact hf v u m x y g B q r2 r
theorem aS {a b:Expr}{ta tb:TE}{pos:Pos}{op:Operator}{r:R2}(m:nZ X (Pf op) r)(p:PE X a ta)(o:PE X b tb):PE X (.BinOp a op b pos) (Cy r ta tb):=by
 intro d s e H Q I h;exact wpAny_BinOp (G4 p o I h λv u g x y w t l j q=>m d g e w x y v u Q t l j q)
theorem qM (l:KN X (unaryOp op) r)(m:PE X a ta):PE X (.UnaryOp op a pos) (L8 r ta):=by
 intro d s e H Q I h;exact UnaryOp_ (dw (m d s e H _ I h) λv g ⟨x,p,o,j,q1⟩=>l d g e p x v Q o j q1)
theorem J0 {g:Int->Int->Int}(rule:∀(i j:Int) (t u:Tok) (s:eT) (Q:cB->eT->Prop) (E:cB->eT->Prop),C i j->Q (.int (g i j) s.toks) {s with toks:=s.toks+1}->u4 (L0 X.prog X.w) X.A (f (.int i t) (.int j u)) Q E s):
  nZ X f (rI C λi j=>.int (g i j)):=by
 intro d s p H x y v u Q I m l h;have(i,j,rfl,rfl,o,q):=h;have(t,rfl):=m;have(e,rfl):=l;exact rule i j t e s _ _ o #[.int (g i j),H,I.tok _,#[_,rfl],q]
theorem Jf {g:Int->Int->Int}(rule:∀(i j:Int) (t u:Tok) (s:eT) (Q:cB->eT->Prop) (E:cB->eT->Prop),Q (.int (g i j) s.toks) {s with toks:=s.toks+1}->u4 (L0 X.prog X.w) X.A (f (.int i t) (.int j u)) Q E s):
  nZ X f (G3 λi j=>.int (g i j)):=by
 intro d s o H x y v u Q I m l h;have(i,j,rfl,rfl,q):=h;have(t,rfl):=m;have(e,rfl):=l;exact rule i j t e s _ _ #[.int (g i j),H,I.tok _,#[_,rfl],q]
theorem G5 {g:Int->Int->Bool}(rule:∀(i j:Int) (t u:Tok) (s:eT) (Q:cB->eT->Prop) (E:cB->eT->Prop),Q (.bool (g i j)) s->u4 (L0 X.prog X.w) X.A (f (.int i t) (.int j u)) Q E s):
  nZ X f (G3 λi j=>.bl (g i j)):=by
 intro d s o H x y v u Q I m l h;have(i,j,rfl,rfl,q):=h;have(t,rfl):=m;have(e,rfl):=l;exact rule i j t e s _ _ #[.bl (g i j),H,I,rfl,q]
def Jg(i j:Int):Prop:=0<j/\j<1073741824
def Jh(i j:Int):Prop:=0<=j/\j<=1000000/\i.natAbs<2 ^ 64
def EB(i j:Int):Prop:=(-(2 ^ 64)<i/\i<2 ^ 64)\/(-(2 ^ 64)<j/\j<2 ^ 64)
theorem EB.ok (h:EB i j):IntMulOk i j:=by
 rcases h with⟨h1,h2⟩|⟨h1,h2⟩
 .exact .of_left (intBits_le_64 h1 h2)
 .exact .of_right (intBits_le_64 h1 h2)
theorem cK :nZ X (Pf .Add) (G3 λi j=>.int (i+j)):=Jf λ_ _ _ _ _ _ _ q=>add_int q
theorem bK :nZ X (Pf .Sub) (G3 λi j=>.int (i-j)):=Jf λ_ _ _ _ _ _ _ q=>sub_int q
theorem jI :nZ X (Pf .Mult) (rI EB λi j=>.int (i*j)):=J0 λ_ _ _ _ _ _ _ d q=>mul_int q d.ok
theorem j5 :nZ X (Pf .FloorDiv) (rI Jg λi j=>.int (i / j)):=J0 λi j _ _ _ _ _ d q=>by
 have g:(0:Int)<j:=d.1;have e:j<1073741824:=d.2;exact floordiv_int () (by rw[Int.fdiv_eq_ediv_of_nonneg i ()];exact q) (.inl (PyProof.noPylong_small ()))
theorem iM :nZ X (Pf .Mod) (rI (λ_ j=>0<j) λi j=>.int (i % j)):=J0 λi j _ _ _ _ _ d q=>by
 have e:(0:Int)<j:=d;exact mod_int' () (by rw[Int.fmod_eq_emod_of_nonneg i ()];exact q)
theorem G6 :nZ X (Pf .Pow) (rI Jh λi j=>.int (i ^ j.toNat)):=J0 λ_ _ _ _ _ _ _ d q=>pow_int_small d.1 d.2.1 d.2.2 q
theorem Ma {g:Int->Int}(rule:∀(i:Int) (t:Tok) (s:eT) (Q:cB->eT->Prop) (E:cB->eT->Prop),Q (.int (g i) s.toks) {s with toks:=s.toks+1}->u4 (L0 X.prog X.w) X.A (f (.int i t)) Q E s):
  KN X f (rU λi=>.int (g i)):=by
 intro d s j H x v Q I e h;have(i,rfl,q):=h;have(t,rfl):=e;exact rule i t s _ _ #[.int (g i),H,I.tok _,#[_,rfl],q]
theorem mX :KN X (unaryOp .USub) (rU λi=>.int (-i)):=Ma λ_ _ _ _ _ q=>neg_int q
noncomputable def Ji:V->V->Bool
 |.gq,.gq=>true|.gq,.int _=>true|.int _,.gq=>true|.gq,.bl _=>true|.bl _,.gq=>true|.gq,.str _=>true|.str _,.gq=>true
 |.int _,.int _=>true|.bl _,.bl _=>true|.str _,.str _=>true|.byt _,.byt _=>true
 |.int _,.str _=>true|.str _,.int _=>true|.bl _,.str _=>true|.str _,.bl _=>true
 |_,_=>false
def LA:R2:=λx y H Q=>Ji x y=true/\Q (.bl (decide (x=y))) H
def Mb:R2:=λx y H Q=>Ji x y=true/\Q (.bl (!decide (x=y))) H
theorem Ag :decide (V.int i=V.int j)=(i == j):=by
 rw[Qz];simp
theorem Cz :decide (V.bl i=V.bl j)=(i == j):=by
 rw[Qz];simp
theorem Ah :decide (V.str i=V.str j)=(i == j):=by
 rw[Qz];simp
theorem Ai :decide (V.byt i=V.byt j)=(i.toList == j.toList):=by
 rw[Qz]
 cases i
 cases j
 simp
theorem cD (I:Inv X d g H s)(q:Q (.bl k) H)(e:k=j):EP X d g Q (.bool j) s:=by
 subst e;exact#[.bl k,H,I,rfl,q]
theorem bR :nZ X (Ox .Eq) LA:=by
 intro m s o H x y v u Q I l d h;have(g,q):=h
 cases x with
 |gq =>
  cases l
  cases y with
  |gq=>cases d;exact PySem.EqNone.eq_none_none (cD I q (by simp))
  |bl j=>cases d;exact PySem.EqNone.eq_none_bool (cD I q (by simp))
  |int j=>have(e,rfl):=d;exact PySem.EqNone.eq_none_int (cD I q (by simp))
  |str j=>have(e,rfl):=d;exact PySem.EqNone.eq_none_str (cD I q (by simp))
  |_=>exact absurd (show false=true from g) FG
 |bl i =>
  cases l
  cases y with
  |gq=>cases d;exact PySem.EqNone.eq_bool_none (cD I q (by simp))
  |bl j=>cases d;exact eq_bool (cD I q Cz)
  |str j=>have(e,rfl):=d;exact PySem.EqMixed.eq_bool_str (cD I q (by simp))
  |_=>exact absurd (show false=true from g) FG
 |int i =>
  have(t,rfl):=l
  cases y with
  |gq=>cases d;exact PySem.EqNone.eq_int_none (cD I q (by simp))
  |int j=>have(e,rfl):=d;exact eq_int (cD I q Ag)
  |str j=>have(e,rfl):=d;exact PySem.EqMixed.eq_int_str (cD I q (by simp))
  |_=>exact absurd (show false=true from g) FG
 |str i =>
  have(t,rfl):=l
  cases y with
  |gq=>cases d;exact PySem.EqNone.eq_str_none (cD I q (by simp))
  |bl j=>cases d;exact PySem.EqMixed.eq_str_bool (cD I q (by simp))
  |int j=>have(e,rfl):=d;exact PySem.EqMixed.eq_str_int (cD I q (by simp))
  |str j=>have(e,rfl):=d;exact eq_str (cD I q Ah)
  |_=>exact absurd (show false=true from g) FG
 |byt i =>
  have(t,rfl):=l
  cases y with
  |byt j=>have(e,rfl):=d;exact PySem.W.eq_bytes (cD I q Ai)
  |_=>exact absurd (show false=true from g) FG
 |_=>cases y<;>exact absurd (show false=true from g) FG
theorem Jj :nZ X (Ox .NotEq) Mb:=by
 intro m s o H x y v u Q I l d h;have(g,q):=h
 cases x with
 |gq =>
  cases l
  cases y with
  |gq=>cases d;exact PySem.EqNone.ne_none_none (cD I q (by simp))
  |bl j=>cases d;exact PySem.EqNone.ne_none_bool (cD I q (by simp))
  |int j=>have(e,rfl):=d;exact PySem.EqNone.ne_none_int (cD I q (by simp))
  |str j=>have(e,rfl):=d;exact PySem.EqNone.ne_none_str (cD I q (by simp))
  |_=>exact absurd (show false=true from g) FG
 |bl i =>
  cases l
  cases y with
  |gq=>cases d;exact PySem.EqNone.ne_bool_none (cD I q (by simp))
  |bl j=>cases d;exact ne_bool (cD I q (congrArg not Cz))
  |str j=>have(e,rfl):=d;exact PySem.EqMixed.ne_bool_str (cD I q (by simp))
  |_=>exact absurd (show false=true from g) FG
 |int i =>
  have(t,rfl):=l
  cases y with
  |gq=>cases d;exact PySem.EqNone.ne_int_none (cD I q (by simp))
  |int j=>have(e,rfl):=d;exact ne_int (cD I q (congrArg not Ag))
  |str j=>have(e,rfl):=d;exact PySem.EqMixed.ne_int_str (cD I q (by simp))
  |_=>exact absurd (show false=true from g) FG
 |str i =>
  have(t,rfl):=l
  cases y with
  |gq=>cases d;exact PySem.EqNone.ne_str_none (cD I q (by simp))
  |bl j=>cases d;exact PySem.EqMixed.ne_str_bool (cD I q (by simp))
  |int j=>have(e,rfl):=d;exact PySem.EqMixed.ne_str_int (cD I q (by simp))
  |str j=>have(e,rfl):=d;exact ne_str (cD I q (congrArg not Ah))
  |_=>exact absurd (show false=true from g) FG
 |byt i =>
  have(t,rfl):=l
  cases y with
  |byt j=>have(e,rfl):=d;exact PySem.W.ne_bytes (cD I q (congrArg not Ai))
  |_=>exact absurd (show false=true from g) FG
 |_=>cases y<;>exact absurd (show false=true from g) FG
theorem mY :nZ X (Ox .Lt) (G3 λi j=>.bl (decide (i<j))):=G5 λ_ _ _ _ _ _ _ q=>lt_int q
theorem mH :nZ X (Ox .Gt) (G3 λi j=>.bl (decide (j<i))):=G5 λ_ _ _ _ _ _ _ q=>gt_int q
theorem Jk :nZ X (Ox .GtE) (G3 λi j=>.bl (decide (j<=i))):=G5 λ_ _ _ _ _ _ _ q=>ge_int q
theorem CA :nZ X (Ox .Is) (λx y H Q=>y=.gq/\Q (.bl (decide (x=.gq))) H):=by
 intro e s j H x y v u Q I d g h;have(rfl,q):=h
 cases g
 refine is_none_gen (cD I q ?_)
 cases x<;>first
  |(cases d;rfl)
  |(have(t,rfl):=d;rfl)
theorem sA (b:Expr)(h:op≠.In:=by decide)(d:op≠.NotIn:=by decide):SD op b=false:=by
 have g:(op == CmpOp.In)=false:=by cases op<;>first|rfl|exact absurd rfl h
 have e:(op == CmpOp.NotIn)=false:=by cases op<;>first|rfl|exact absurd rfl d
 cases b<;>simp[SD,g,e]
theorem pK {a b:Expr}{ta tb:TE}{pos:Pos}{op:CmpOp}{r:R2}(m:nZ X (Ox op) r)(p:PE X a ta)(o:PE X b tb)(hm:SD op b=false):PE X (.Compare a [op] [b] pos) (Cy r ta tb):=by
 intro d s e H Q I h;exact wpAny_Compare1 (G4 p o I h λv u g x y w t l j q=>m d g e w x y v u Q t l j q) hm
def Mc(Q:Bool->Hp->Prop):VK:=λx d=>∃k,x=.bl k/\Q k d
abbrev Gk(t:TE):TT:=λd H Q=>t d H (Mc Q)
theorem fh {a b:Expr}{ta tb:TE}{pos:Pos}{op:CmpOp}{r:R2}(q:nZ X (Ox op) r)(w:PE X a ta)(t:PE X b tb)(hm:SD op b=false):PT X (.Compare a [op] [b] pos) (Gk (Cy r ta tb)):=by
 intro d s g H Q I h
 refine wpAny_isTrue_Compare1 (dw (w d s g H _ I h) λv l ⟨x,G,C,m,q1⟩=>dw (t d l g G _ C q1) λu j ⟨y,E,B,r2,p⟩ =>
  dw (q d j g E x y v u _ B m r2 p) λc J ⟨z,D,A,r3,k,e,o⟩=>?_) hm
 subst e
 cases r3
 exact Su #[D,A,o]
def G7(K:bA)(x:V)(H:Hp)(k:Bool):Prop :=
 match x with
 |.gq=>k=false
 |.bl b=>k=b
 |.int i=>k=(i != 0)
 |.str y=>y.length<=mC/\k=((y.length:Int) != 0)
 |.byt y=>y.size<=mC/\k=((y.size:Int) != 0)
 |.ref p=>(∃d,bu K H p d/\k=!d.isEmpty)\/(∃d,bQ K H p d/\k=!d.isEmpty)\/∃e,H p=some (.dK e)/\k=!e.isEmpty
 |_=>False
theorem yY {kvs:List (d×V)}{e:List (d×cB)}(r:KV kvs e):(!e.isEmpty)=!kvs.isEmpty:=by
 cases r<;>rfl
theorem sF (r:Vals xs d):(!d.toArray.isEmpty)=!xs.isEmpty:=by
 cases r<;>simp
theorem oO :(mC:Nat)<2 ^ 63:=by rw[Rl];decide
theorem G8 :KQ X (λx H Q=>∃k,G7 X.K x H k/\Q k H):=by
 intro B s G H x v Q I o h;have(k,e,q):=h;have L:=oO;have J:mC=16777216:=Rl
 cases x with
 |gq =>
  cases o
  have d:k=false:=e;subst d;exact truthy_none #[H,I,q]
 |bl b =>
  cases o
  have d:k=b:=e;subst d;exact Su #[H,I,q]
 |int i =>
  have(t,rfl):=o;have d:k=(i != 0):=e;subst d;exact PySem.P.truthy_int #[H,I,q]
 |str y =>
  have(t,rfl):=o;obtain⟨D,d⟩:y.length<=mC/\k=((y.length:Int) != 0):=e;subst d;exact PySem.P.truthy_str () #[H,I.tok _,q]
 |byt y =>
  have(t,rfl):=o;obtain⟨D,d⟩:y.size<=mC/\k=((y.size:Int) != 0):=e;subst d;exact PySem.W.truthy_bytes () #[H,I.tok _,q]
 |ref p =>
  cases o
  have d:(∃l,bu X.K H p l/\k=!l.isEmpty)\/(∃l,bQ X.K H p l/\k=!l.isEmpty)\/∃g,H p=some (.dK g)/\k=!g.isEmpty:=e;rcases d with⟨l,hx,d⟩|⟨l,hx,d⟩|⟨g,hx,d⟩
  .subst d;have(A,r,z,C):=I.list hx;have j:=r.length;exact wpAny_truthy_list z.isList (by simp only[sE];omega) #[H,I.tok _,by rw[sF r];exact q]
  .subst d;have(A,r,z,C):=I.tuple hx;have j:=r.length;exact truthy_tuple z (by simp only[sE];omega) #[H,I.tok _,by rw[sF r];exact q]
  .subst d;obtain⟨C,E,u,r,m⟩:g.length<=mC/\(p == Og)=false/\∃u,KV g u/\s.heap.DictOf (dc X.prog X.w) p u:=I.hok p _ hx;have j:g.length=u.length:=Paired.length r;exact wpAny_truthy_dict E m () #[H,I.tok _,by rw[yY r];exact q]
 |_=>exact(show False from e).elim
theorem pL (p:PE X a ta)(o:∀d,isTrue a X.env d=(do let v ←d;standAt a.pos;RN [v] (truthy v))):
  PT X a (λg H Q=>ta g H λx j=>∃k,G7 X.K x j k/\Q k j):=by
 intro e s g H Q I h;exact isTrue_plain (dw (p e s g H _ I h) λv l ⟨x,r,q,m,q1⟩=>G8 e l g r x v Q q m q1) (o _)
theorem lS :nZ X (Pf .Add) (λx y H Q=>∃i j,x=.str i/\y=.str j/\i.length+j.length<=mC/\Q (.str (i++j)) H):=by
 intro d s o H x y v u Q I l g h;have(i,j,rfl,rfl,m,q):=h;have(t,rfl):=l;have(e,rfl):=g;exact add_str (λe p=>#[.str (i++j),H,I.tok _,#[_,rfl],q]) m
theorem vals1 (r:Vals [x] us):∃u,us=[u]/\RelV x u:=by
 cases r with
 |cons r1 r2=>cases r2;exact#[_,rfl,r1]
theorem vals2 (r:Vals [x,y] us):∃u d,us=[u,d]/\RelV x u/\RelV y d:=by
 cases r with
 |cons r1 r2 =>
  cases r2 with
  |cons r3 r4=>cases r4;exact#[_,_,rfl,r1,r3]
theorem qB (g:X.calm=true):j4 X (.builtin "max") (λxs H Q=>∃i j,xs=[.int i,.int j]/\Q (.int (if j>i then j else i)) H):=by
 intro e s l H xs o Q I r h;have(i,j,rfl,q):=h;have(u,m,rfl,(t,rfl),(v,rfl)):=vals2 r;refine max_two_ints (I.ok.hd g) λw p k=>#[_,H,I.kept k,?_,q]
 by_cases d:j>i
 .rw[if_pos d,if_pos d];exact#[_,rfl]
 .rw[if_neg d,if_neg d];exact#[_,rfl]
theorem Bg (g:X.calm=true):j4 X (.builtin "min") (λxs H Q=>∃i j,xs=[.int i,.int j]/\Q (.int (if j<i then j else i)) H):=by
 intro e s l H xs o Q I r h;have(i,j,rfl,q):=h;have(u,m,rfl,(t,rfl),(v,rfl)):=vals2 r;refine min_two_ints (I.ok.hd g) λw p k=>#[_,H,I.kept k,?_,q]
 by_cases d:j<i
 .rw[if_pos d,if_pos d];exact#[_,rfl]
 .rw[if_neg d,if_neg d];exact#[_,rfl]
theorem kJ :j4 X (.type "int") (λxs H Q=>(∃i,xs=[.int i]/\Q (.int i) H)\/∃k,xs=[.bl k]/\Q (.int (if k then 1 else 0)) H):=by
 intro d s g H xs j Q I r h;rcases h with⟨i,rfl,q⟩|⟨k,rfl,q⟩
 .have(u,rfl,t,rfl):=vals1 r;exact call_int_int #[.int i,H,I,#[_,rfl],q]
 .have(u,rfl,e):=vals1 r
  cases e
  exact call_int_bool #[.int (if k then 1 else 0),H,I.tok _,#[_,rfl],q]
noncomputable def EC(f:Str)(v:V):List (Str×V)->List (Str×V)
 | []=>[(f,v)]
 |(g,x)::r=>if g=f then(g,v)::r else(g,x)::EC f v r
theorem mS.some_of (r:mS (some v) o):∃u,o=some u/\RelV v u:=by
 cases o with
 |none=>exact(show False from r).elim
 |some u=>exact#[u,rfl,r]
theorem Bh (r:RelV v u):PySem.W.handedIn u=true:=by
 cases v with
 |gq=>cases(show u=Value.none from r);rfl
 |bl b=>cases(show u=Value.bool b from r);rfl
 |int i=>have(t,e):=(show ∃t,u=Value.int i t from r);cases e;rfl
 |str x=>have(t,e):=(show ∃t,u=Value.str x t from r);cases e;rfl
 |byt b=>have(t,e):=(show ∃t,u=Value.bytes b t from r);cases e;rfl
 |flt b=>have(t,e):=(show ∃t,u=Value.float b t from r);cases e;rfl
 |ref a=>cases(show u=Value.ref a from r);rfl
 |ty n=>cases(show u=Value.type n from r);rfl
structure LB(K:bA) (C:Addr):Prop where
 pg:UY K C MY=true
 hd:PySem.W.hasDictIn K C=true
 po:PySem.W.plainOver K C=true
 sa:PySem.W.findIn K (.ref C) "__setattr__"=some (some (.builtin "object.__setattr__"))
theorem LB.get {K:bA}(c:LB K C)(f:Str):UY K C f=true:=c.pg
theorem ED (j:Rf e f env (eval e env)=eval e env)(h:u4 (L0 prog w) A (eval e env) (λo d=>u4 (L0 prog w) A (getAttr o f true) Q E d) E s):u4 (L0 prog w) A (eval (.Attribute e f g) env) Q E s :=
 Attribute_any_ h (by rw[arm_eval_Attribute,j])
structure fB(k:Nat) (A:MM):Prop where
 hd:A.handled=none
 dp:A.depth+2*k+5<recursionLimit
 un:A.units+16*k+200<Rm
 gd:A.guards=some []
theorem fB.mono (r:fB k A)(h:j<=k):fB j A:=#[r.hd,by have:=r.dp;omega,by have:=r.un;omega,r.gd]
theorem fB.deeper (r:fB (k+1) A)(env:Env):fB k (A.deeper env) :=
 #[r.hd,by have:=r.dp;show A.depth+1+2*k+5<_;omega,by have:=r.un;show A.units+3+16*k+200<_;omega,r.gd]
theorem yZ {A:MM}:(A.under (.builtin "type.__call__" #[.ref C::us,kw])).depth=A.depth+1:=by
 first|rfl|simp[Th,Code.weight,Code.isCreation,Code.isGuard,Code.isCaller,Code.frames,UG,guardIds]
theorem za {A:MM}:(A.under (.builtin "type.__call__" #[.ref C::us,kw])).units=A.units+1:=by
 first|rfl|simp[Th,Code.cUnits,Code.frames,UG]
theorem xm {A:MM}:(A.under (.builtin "type.__call__" #[.ref C::us,kw])).guards=A.guards:=by
 first|rfl|simp[Th,pushGuards,Code.guards,Code.isGuard,guardIds]
theorem fB.make (r:fB (k+1) A)(C:Addr)(us:List cB)(kw:List (Str×cB)):fB k (A.under (.builtin "type.__call__" #[.ref C::us,kw])) :=
 #[r.hd,by have:=r.dp;rw[yZ];omega,by have:=r.un;rw[za];omega,by rw[xm];exact r.gd]
theorem fB.depth (r:fB k A):A.depth<recursionLimit:=by have:=r.dp;omega
theorem fB.units (r:fB k A):A.units+64<Rm:=by have:=r.un;omega
abbrev xn:TA:=λ_ H Q=>Q [] H
abbrev Me(x:V)(Q:List V->Hp->Prop):List V->Hp->Prop:=λd e=>Q (x::d) e
abbrev Mf(tr:TA)(d:St)(Q:List V->Hp->Prop):VK:=λx e=>tr d e (Me x Q)
abbrev mZ(e:TE)(tr:TA):TA:=λd H Q=>e d H (Mf tr d Q)
theorem ao :PA X [] xn:=λ_ _ _ _ H Q I h=>QN #[[],H,I,.nil,h]
theorem aH (p:PE X e te)(hr:PA X es t)(hs:M3 (e::es) X.env=(false,eval e X.env)::M3 es X.env:=by rfl):PA X (e::es) (mZ te t):=by
 intro pos d s g H Q I h;rw[hs];show u4 _ _ (spliced ((false,eval e X.env)::Qo pos (M3 es X.env))) _ _ s;refine PL (dw (p d s g H _ I h) λu l ⟨x,w,r,m,q1⟩=>?_);exact dw (hr pos d l g w _ r q1) λy z ⟨j,v,q,r2,o⟩=>#[x::j,v,q,.cons m r2,o]
def Mg(Q:VK):List V->Hp->Prop:=λd g=>d.length<=mC/\∀p,g p=none->Q (.ref p) (upd g p (.tup d))
def Mh(Q:VK):List V->Hp->Prop:=λd g=>d.length<=mC/\∀p,g p=none->Q (.ref p) (upd g p (.lst d))
abbrev xo(t:TA):TE:=λd H Q=>t d H (Mg Q)
abbrev G9(t:TA):TE:=λd H Q=>t d H (Mh Q)
theorem eu {es:List Expr}{t:TA}{pos:Pos}{x1}(h:PA X es t):PE X (.Tuple es x1 pos) (xo t):=by
 intro d s m H Q I v;refine wpAny_Tuple_spliced (dw (h pos d s m H _ I v) λp g ⟨o,l,j,r,z,q⟩=>#[by rw[<-r.length];exact z,?_]);have w:l g.heap.objs.size=none:=j.hok.fresh (mu _);refine#[.ref g.heap.objs.size,upd l g.heap.objs.size (.tup o),j.laid (t':=g.toks) (λb u e=>lu _ e) (mu _) ?_,rfl,q _ w];exact#[z,p,r,#[_,zv _ rfl,rfl,_,rfl],_,zv _ rfl,rfl]
theorem bh {es:List Expr}{t:TA}{pos:Pos}(h:PA X es t):PE X (.List es pos) (G9 t):=by
 intro d s m H Q I v;refine wpAny_List_spliced (dw (h pos d s m H _ I v) λp g ⟨o,l,j,r,z,q⟩=>#[by rw[<-r.length];exact z,?_]);have w:l g.heap.objs.size=none:=j.hok.fresh (mu _);refine#[.ref g.heap.objs.size,upd l g.heap.objs.size (.lst o),j.laid (t':=g.toks) (λb u e=>lu _ e) (mu _) ?_,rfl,q _ w];exact#[z,p,0,r,zv _ rfl]
abbrev Sp:=List V->Hp->VK->XK->Prop
abbrev uJ:=List Env->Hp->eT->XK->cB->eT->Prop
structure vF(P:sC) (w:FT) (K:bA) (mg:Str->Option cB) (base:Heap) (A:MM) (outer:List Env) (s:eT) (H:Hp):Prop where
 frames:A.frames=some outer
 mod:Mod K mg base
 bs:∀b o,base.get? b=some o->s.heap.get? b=some o/\H b=none
 bsz:base.objs.size<=s.heap.objs.size
 oM:s.heap.FunFrames base outer
 frf:∀b∈frs outer,H b=none
 hok:mU P w H s.heap
 bare:RM s.gens
def CE(d:List Env)(P:sC)(w:FT)(H:Hp)(s:eT)(Q:VK)(u:cB)(s':eT):Prop :=
 ∃v e,s'.os=s.os/\RM s'.gens/\Un (frs d) [] H e s.heap s'.heap/\mU P w e s'.heap/\RelV v u/\Q v e
def CR(g:uJ)(d:List Env)(P:sC)(w:FT)(H:Hp)(s:eT)(Q:VK)(E:XK)(r:TR)(s':eT):Prop :=
 match r with
 |.ok (.ret u)=>CE d P w H s Q u s'
 |.ok _=>False
 |.error e=>g d H s E e s'
structure bH(P:sC) (w:FT) (K:bA) (mg:Str->Option cB) (base:Heap) (CX:uJ) (k:Nat) (f:Addr) (fd:rE) (ps:List Str) (sp:Sp):Prop where
 len:∀vs H Q E,sp vs H Q E->vs.length=ps.length
 run:∀(A:MM) (outer:List Env) (s:eT) (H:Hp) (args:Args) (us:List cB) (vs:List V) (Q:VK) (E:XK),fB k A->vF P w K mg base A outer s H->UH s fd args (ps.zip us)->Vals vs us->sp vs H Q E ->
  Qg (L0 P w) A (.call (.ref f) args) (CR CX outer P w H s Q E) s
theorem bH.mono {K:bA}(F:bH P w K mg d m j f l ps sp)(h:j<=k):
  bH P w K mg d m k f l ps sp:=#[F.len,λA e s H g p o Q E hr=>F.run A e s H g p o Q E (hr.mono h)]
theorem vF.make {K:bA}(e:vF P w K mg g A d s H)(C:Addr)(us:List cB)(kw:List (Str×cB)):
  vF P w K mg g (A.under (.builtin "type.__call__" #[.ref C::us,kw])) d s H:=#[by first|exact e.frames|(simpa[Th,Code.envs,UG,pushEnvs]using e.frames),e.mod,e.bs,e.bsz,e.oM,e.frf,e.hok,e.bare]
theorem Inv.Jl (I:Inv X pins σ H s):vF X.prog X.w X.K X.mg X.base X.A X.stack s H :=
 #[I.ok.frames,I.ok.mod,I.bs,FA I.ok.bsz I.sz,I.stack,I.rG,I.hok,I.bare]
theorem Inv.after (I:Inv X pins σ H s)(h:CE X.stack X.prog X.w H s Q u s'):EP X pins σ Q u s':=by
 have(v,p,m,e,un,l,r,q):=h;have(o,g,d,t,j):=s';obtain rfl:j=s.os:=m;exact#[v,p,I.call (h':=o) (g':=g) (d':=d) (t':=t) (ch:=[]) un l e (λb z=>absurd z (by simp)),r,q]
abbrev Mi(sp:Sp)(dvs:List V)(E:XK)(Q:VK):List V->Hp->Prop:=λd e=>sp (d++dvs) e Q E
abbrev Jm(sp:Sp)(dvs:List V)(E:XK)(t:TA):TE:=λd H Q=>t d H (Mi sp dvs E Q)
def Binds(K:bA)(g:rE)(ps:List Str)(e:List cB):Prop :=
 ∀(s:eT) (d:List cB),K.In s.heap->(d++e).length=ps.length->UH s g #[d,[]] (ps.zip (d++e))
theorem Binds.all {K:bA}(h:∀us:List cB,us.length=ps.length->bindArgs e #[us,[]]=pure (ps.zip us)):Binds K e ps []:=λs us _ d=>by
 rw[M5]at d|-;exact .of_eq (h us d)
def Passes(l:uJ)(X:Cx)(E:XK):Prop:=∀(d:List (Addr×Obj)) (j:St) (H:Hp) (s:eT) (e:cB) (g:eT),Inv X d j H s->l X.stack H s E e g->X.xe e g
theorem zb (F:bH X.prog X.w X.K X.mg X.base CX k f fd ps sp)(hr:fB k X.A)(z:Binds X.K fd ps ds)(hd:Vals dvs ds)(v:Passes CX X E)(I:Inv X d l H s)(r:Vals j us)(h:sp (j++dvs) H Q E):u4 (L0 X.prog X.w) X.A (call (.ref f) us) (EP X d l Q) X.xe s:=by
 have r2:Vals (j++dvs) (us++ds):=r.append hd;have y:(us++ds).length=ps.length:=by rw[<-r2.length];exact F.len _ _ _ _ h
 refine QC (PM (F.run X.A X.stack s H #[us,[]] (us++ds) (j++dvs) Q E hr I.Jl (z s us I.tZ y) r2 h) λr q g=>?_)
 cases r with
 |error e=>exact v d l H s e q I g
 |ok fl =>
  cases fl with
  |ret u=>exact I.after g
  |next=>exact Nx g
  |brk=>exact Nx g
  |cont=>exact Nx g
theorem iA {CX:uJ}{k:Nat}{f:Addr}{fd:rE}{ps:List Str}{sp:Sp}{dvs:List V}{ds:List cB}{E:XK}{x:Str}{p pos:Pos}{e:Expr}{es:List Expr}{t:TA}(F:bH X.prog X.w X.K X.mg X.base CX k f fd ps sp)(hr:fB k X.A)(v:Gl X x)(hm:X.mg x=some (.ref f))(u:NF X.K (.ref f)=true)(y:Binds X.K fd ps ds)(hd:Vals dvs ds)(l:Passes CX X E)(ha:PA X (e::es) t)(hdb:(x == ("__debug__":Str))=false:=by decide)(he:M3 (e::es) X.env=(false,eval e X.env)::M3 es X.env:=by rfl)(hpl:(Qo pos (M3 es X.env)).any (·.1)=false:=by rfl):
  PE X (.Call (.Name x p) (e::es) [] pos) (Jm sp dvs E t):=by
 intro d s j H Q I h;refine Nf (pH I v hm ?_ hdb);refine R3 (h₀:=X.base) I.ok.mod.kin u (dw (ha pos d s j H _ I h) λB D ⟨z,G,g,r,q⟩=>#[g.tZ,?_]) he hpl;exact zb F hr y hd l g r q
structure aK(N P:List Str) (sc:Ov):Prop where
 kind:sc.kind=.function
 co:sc.isCoroutine=false
 gen:sc.isGenerator=false
 nd:N.Nodup
 pre:N.take P.length=P
 par:∀x∈P,sc.names.lookup x=some .local\/sc.names.lookup x=some .cell
 nofree:∀y∈sc.names,y.2≠.free
theorem uK :∀{binds:List (Str×cB)}{m:Str->Option cB},(∀v,(x,v)∉binds)->Vi d binds m x=m x
 | [],_,_=>rfl
 |(n,v)::r,m,h=>by
  unfold Vi;rw[uK λw e=>h w (Nz _ e)]
  split
  .have:x≠n:=by rintro rfl;exact h v Oh
   simp[this]
  .rfl
theorem uL :∀{binds:List (Str×cB)}{m:Str->Option cB},(∀v,(x,v)∉binds)->Vj d binds m x=m x
 | [],_,_=>rfl
 |(n,v)::r,m,h=>by
  unfold Vj;rw[uL λw e=>h w (Nz _ e)]
  split
  .rfl
  .have:x≠n:=by rintro rfl;exact h v Oh
   simp[this]
theorem uM :∀{P:List Str}{e:List cB}{i:Nat}{m:Str->Option cB},P.Nodup->P[i]?=some x->e[i]?=some v->d x=some .local ->
  Vi d (P.zip e) m x=some v
 | [],_,_,_,_,h,_,_=>by simp at h
 |_::_,[],_,_,_,_,h,_=>by simp at h
 |p::P,w::e,0,m,nd,h1,h2,hk=>by
  simp at h1 h2;subst h1;subst h2;show Vi d ((p,w)::P.zip e) m p=_;unfold Vi;rw[uK λv g=>(O9.mp nd).1 (PN g).1,if_pos hk];simp
 |p::P,w::e,i+1,m,nd,h1,h2,hk=>by
  show Vi d ((p,w)::P.zip e) m x=_;unfold Vi;exact uM (i:=i) (O9.mp nd).2 (by simpa using h1) (by simpa using h2) hk
theorem uN :∀{P:List Str}{e:List cB}{i:Nat}{m:Str->Option cB},P.Nodup->P[i]?=some x->e[i]?=some v->d x≠some .local ->
  Vj d (P.zip e) m x=some v
 | [],_,_,_,_,h,_,_=>by simp at h
 |_::_,[],_,_,_,_,h,_=>by simp at h
 |p::P,w::e,0,m,nd,h1,h2,hk=>by
  simp at h1 h2;subst h1;subst h2;show Vj d ((p,w)::P.zip e) m p=_;unfold Vj;rw[uL λv g=>(O9.mp nd).1 (PN g).1,if_neg hk];simp
 |p::P,w::e,i+1,m,nd,h1,h2,hk=>by
  show Vj d ((p,w)::P.zip e) m x=_;unfold Vj;exact uN (i:=i) (O9.mp nd).2 (by simpa using h1) (by simpa using h2) hk
noncomputable def start(N:List Str)(d:List V):St:=d.map some++MU (N.length-d.length) none
noncomputable def m6(m:uJ)(P:sC)(w:FT)(K:bA)(mg:Str->Option cB)(base:Heap)(N:List Str)(g:Str)(d:Ov)(f:Addr)(l:cB)(A:MM)(outer:List Env)(s:eT)(H:Hp)(E:XK):Cx where
 prog:=P
 w:=w
 K:=K
 mg:=mg
 base:=base
 A:=A.deeper (Rz g d s.heap.objs.size f l)
 N:=N
 s₀:=s
 H₀:=H
 env:=Rz g d s.heap.objs.size f l
 outer:=outer
 stack:=Rz g d s.heap.objs.size f l::outer
 ex:=[]
 calm:=true
 fn:=λ_=>true
 pn:=[]
 xe:=λe o=>u4 (L0 P w) (A.deeper (Rz g d s.heap.objs.size f l)) (leaving (Rz g d s.heap.objs.size f l) e) (λ_ j=>m outer H s E e j) (λp j=>m outer H s E p j) o
theorem xq {d:Ov}(h:d.names.lookup x=some .cell):∃c,(UZ n d.names []).lookup x=some c:=by
 have q:=QO d.names n [] (.inl h);exact SE.mp q
theorem uO {K:bA}(S:aK N ps d)(hd:A.handled=none)(e0:vF P w K mg m A g s H)(hl:o.length=ps.length)(r:Vals o us)(x:InCallC s s.heap.objs.size (Vi (Rz j d s.heap.objs.size f I).kindOf (ps.zip us) λ_=>none) (UZ (s.heap.objs.size+1) d.names []) (Vj (Rz j d s.heap.objs.size f I).kindOf (ps.zip us) λ_=>none) J):
  Inv (m6 O P w K mg m N j d f I A g s H E) [] (start N o) H J:=by
 have R:ps.length<=N.length:=by have:=congrArg PF S.pre;rw[we]at this;omega
 have(G,U,rfl,M):=x.done;have t:∀b:Addr,b∉(m6 O P w K mg m N j d f I A g s H E).ex:=λb z=>absurd (show b∈([]:List Addr)from z) (by simp)
 refine#[#[e0.mod,S.kind,rfl,rfl,mu _,λy z c G l=>?_,λy hy=>?_,λy c _ h=>?_,λ_=>hd,TU e0.frames,.inr #[rfl,rfl],λb z=>absurd z (t b),e0.bs,e0.bsz,λb _ _=>t b,λb z=>absurd z (t b),e0.oM,e0.frf],
  rfl,e0.bare,Un.kept M,#[_,x.toInCall.ns,λi y v G l X=>?_],λy c h=>#[_,x.cell y c h],e0.hok.fresh (mu _),λy c h=>?_,λp C=>absurd (show p∈([]:List (Addr×Obj))from C) (by simp),e0.hok.kept M,?_]
 .exact name_of_addr x.apart (Nh G) (Nh l)
 .have hy:d.names.lookup y=some .cell\/d.names.lookup y=some .free:=hy;rcases hy with hy|hy
  .exact xq hy
  .exact absurd rfl (S.nofree _ (Nh hy))
 .exact Ny (x.above y c (Nh h))
 .have D:i<o.length:=by
   unfold start at l
   by_cases D:i<o.length
   .exact D
   .rw[M7 (by simpa using D)]at l;rw[Py]at l
    split at l<;>cases l
  have T:o[i]?=some v:=by
   unfold start at l;rw[Ng (by simpa using D),rj]at l
   cases e:o[i]? with
   |none=>rw[e]at l;cases l
   |some a=>rw[e]at l;cases l;rfl
  have(u,L,Q):=r.get T
  have C:ps[i]?=some y:=by
   rw[<-S.pre,SG ()];exact G
  have B:ps.Nodup:=by rw[<-S.pre];exact S.nd.sublist (UI _ _)
  refine#[u,Q,?_];rcases S.par y (t9 C)with k|k
  .exact .inl #[k,uM B C L k]
  .have(c,e):=xq (n:=s.heap.objs.size+1) k;refine .inr #[.inl k,c,e,?_];have q:=x.cell y c e;rw[uN B C L (by show d.names.lookup y≠_;rw[k];decide)]at q;exact q
 .exact e0.hok.fresh (Ny (x.above y c (Nh h)))
 .unfold start;show _=N.length;rw[j3,bC,O0];omega
theorem CB {K:bA}{kV T:cB}(lk:K.lookup f=some #[oc,od,.func (Pg name j m z d dV kV T pm an l ct),osl])(hcd:Qq K l j=true)(S:aK N ps d)(len:∀C H Q E,sp C H Q E->C.length=ps.length)(hbody:∀(A:MM) (g:List Env) (s:eT) (H:Hp) (C:List V) (Q:VK) (E:XK),fB k (A.deeper (Rz j d s.heap.objs.size f l))->sp C H Q E ->
   ∃t,qy (m6 U P w K mg p N j d f l A g s H E) z t/\t {nx:=λ_ D=>Q .gq D,rt:=Q} (start N C) H):
  bH P w K mg p U (k+1) f (Pg name j m z d dV kV T pm an l ct) ps sp:=by
 refine#[len,λA g s H aa us C Q E hr R hb r M=>?_];have hl:=len _ _ _ _ M;have KX:K.In s.heap:=R.mod.kin.keeps λb o e=>(R.bs b o e).1;have Z:s.heap.NoLimit:=R.mod.nolimit.keeps λb o e=>(R.bs b o e).1
 have G:∀y∈ps.zip us,d.names.lookup y.1=some .local\/(d.names.lookup y.1=some .cell/\((UZ (s.heap.objs.size+1) d.names []).lookup y.1).isSome=true):=λ⟨n,v⟩ hy=>by
  rcases S.par n (PN hy).1 with q|q
  .exact .inl q
  .exact .inr #[q,QO _ _ _ (.inl q)]
 refine Q2 hr.depth (KX _ _ lk) rfl S.co S.gen rfl (Ux KX hcd) (hb _ _ _ _ ?_);refine R4 S.kind G λab he s1 x=>?_;subst he;refine#[Z.keeps x.toInCall.keep,UJ ?_];have(t,ht,hq):=hbody A g s H C Q E (hr.deeper _) M;have I:Inv (m6 U P w K mg p N j d f l A g s H E) [] (start N C) H s1:=uO S hr.hd R hl r x;refine Nk (ht [] s1 (start N C) H _ I hq) (λfl X L=>?_) λe X L=>L
 have O:∀{B:St}{D:Hp}{v:V}{u:cB},Inv (m6 U P w K mg p N j d f l A g s H E) [] B D X->RelV v u->Q v D->CE g P w H s Q u X :=
  λ{B D v u} J Y q=>#[v,D,J.os,J.bare,J.base,J.hok,Y,q]
 cases fl with
 |ret u =>
  have(v,B,D,J,Y,q):=L;exact O J Y q
 |next =>
  have(B,D,J,q):=L;exact O (v:=V.gq) (u:=Value.none) J rfl q
 |brk =>
  have(_,_,_,q):=L;exact Nx q
 |cont =>
  have(_,_,_,q):=L;exact Nx q
abbrev Mj(r:List V->Hp->VK->Prop)(Q:VK):List V->Hp->Prop:=λd g=>r d g Q
abbrev LC(r:List V->Hp->VK->Prop)(t:TA):TE:=λd H Q=>t d H (Mj r Q)
theorem dQ {x:Str}{p pos:Pos}{e:Expr}{es:List Expr}{t:TA}{id:String}{r:List V->Hp->VK->Prop}(w:j4 X (.builtin id) r)(v:Gl X x)(hm:X.mg x=none)(u:RL x=some (.builtin id))(y:PA X (e::es) t)(hn:x≠"__name__":=by decide)(g:(x == ("__debug__":Str))=false:=by decide)(he:M3 (e::es) X.env=(false,eval e X.env)::M3 es X.env:=by rfl)(hpl:(Qo pos (M3 es X.env)).any (·.1)=false:=by rfl):PE X (.Call (.Name x p) (e::es) [] pos) (LC r t):=by
 intro d s j H Q I h;refine Nf (lQ I v hm u ?_ hn g);exact PyProof.Rows.callWith_builtin1 (dw (y pos d s j H _ I h) λm o ⟨l,A,z,q,q1⟩=>w d o j A l m Q z q q1) he hpl
theorem Bj {x:Str}{p pos:Pos}{e:Expr}{es:List Expr}{t:TA}{T:String}{r:List V->Hp->VK->Prop}(w:j4 X (.type T) r)(v:Gl X x)(hm:X.mg x=none)(u:RL x=some (.type T))(y:PA X (e::es) t)(hn:x≠"__name__":=by decide)(g:(x == ("__debug__":Str))=false:=by decide)(he:M3 (e::es) X.env=(false,eval e X.env)::M3 es X.env:=by rfl)(hpl:(Qo pos (M3 es X.env)).any (·.1)=false:=by rfl):PE X (.Call (.Name x p) (e::es) [] pos) (LC r t):=by
 intro d s j H Q I h;refine Nf (lQ I v hm u ?_ hn g);exact Nl (dw (y pos d s j H _ I h) λm o ⟨l,A,z,q,q1⟩=>w d o j A l m Q z q q1) he hpl
end L2
namespace HT
open PySem PyProof.Rows
section
open PySem.SeqAt
open PySem.AutoSeq1 (wpAny_loadPart')
open PySem.MeetsSeq PySem.MeetsSeq2 PySem.MeetsSeq3
end
theorem EE (ht:IsTup s.heap t j.toArray)(G:IsTup s.heap b d.toArray)(z:j≠[])(h1:d=[]->Q (.ref t) s)(h2:d≠[]->Q (.ref s.heap.objs.size) {s with heap:=s.heap.push {cls:=.type "tuple",data:=.seq (j++d).toArray}})(hsz:j.length+d.length<=mC):u4 (L0 prog w) A (Pf .Add (.ref t) (.ref b)) Q E s:=by
 have((cls,C,data,v),r,B,n,hd):=id ht;have((D,p,u,l),g,o,y,m):=id G;simp only at B hd o m;subst B hd o m;have e:j.toArray++d.toArray=(j++d).toArray:=by simp
 by_cases q:d=[]
 .exact UK #[_,r,rfl] #[_,g,rfl] SM Ul QS QI (Qw _ _)
   (tuple_addW1 t b j.toArray d.toArray n y C p v l (by simpa using z) (by simp[q])) #[r,g,h1 q]
 .refine UK #[_,r,rfl] #[_,g,rfl] SM Ul QS QI (Qw _ _)
   (tuple_addW2 t b j.toArray d.toArray n y C p v l (by simpa using z) (by simpa using q) (by rw[sE,sE];exact hsz)) #[r,g,?_]
  rw[e];exact h2 q
noncomputable def iB(n d:Nat):Option Int->Nat
 |none=>d
 |some v=>if v<0 then(v+(n:Int)).toNat else min v.toNat n
theorem xr (n d:Nat):iB n d none=d:=rfl
theorem pN (n d k:Nat):iB n d (some (k:Int))=min k n:=by
 show(if(k:Int)<0 then((k:Int)+(n:Int)).toNat else min (k:Int).toNat n)=min k n;rw[if_neg (),NY]
theorem Hg (n d:Nat)(hd:d<=n)(o:Option Int):iB n d o<=n:=by
 cases o with
 |none=>exact hd
 |some v =>
  show(if v<0 then(v+(n:Int)).toNat else min v.toNat n)<=n
  by_cases e:v<0
  .rw[if_pos e];omega
  .rw[if_neg e];exact Nat.min_le_right _ _
theorem Aj (v:Int)(n d:Nat):(if v<0 then max (v+(n:Int)) 0 else min v (n:Int))=((iB n d (some v):Nat):Int):=by
 show(if v<0 then max (v+(n:Int)) 0 else min v (n:Int))=(((if v<0 then(v+(n:Int)).toNat else min v.toNat n):Nat):Int)
 by_cases e:v<0
 .simp only[if_pos e];omega
 .simp only[if_neg e];omega
theorem zc (lo hi:Option Int)(n:Nat):Qm lo hi 1 (n:Int)=(((iB n 0 lo:Nat):Int),((iB n n hi:Nat):Int)):=by
 have d:¬((1:Int)<0):=()
 unfold Qm;simp only[d,if_false];refine Prod.ext ?_ ?_
 .cases lo with
  |none=>rfl
  |some v=>exact Aj v n 0
 .cases hi with
  |none=>rfl
  |some v=>exact Aj v n n
theorem zd (i j:Nat):O7 (i:Int) (j:Int) 1=j-i:=by
 unfold O7;have d:(1:Int)>0:=()
 simp only[d,if_true,Int.ediv_one]
 split<;>omega
theorem sH (p:RB v o)(h:Q o s):u4 (L0 prog w) A (Px.Slice.slicePartIndex v) Q E s:=by
 cases p with
 |none=>exact slicePart_none h
 |int i t=>exact slicePart_int h
theorem kK {g:cB}{lo hi:Option Int}{n:Nat}{Q:Int×Int×Nat->eT->Prop}(hs:s.heap.IsSliceOf l j g .none)(o:RB j lo)(m:RB g hi)(h:Q (((iB n 0 lo:Nat):Int),1,iB n n hi-iB n 0 lo) s):u4 (L0 prog w) A (R5 (.ref l) (pure (n:Int))) Q E s:=by
 have(q,d,p,e):=id hs;unfold R5 Px.Slice.sliceFields;refine bB (bB (MX d e (x:=j) rfl (bB (MX d e (x:=g) rfl (bB (MX d e (x:=.none) rfl (lj ?_)))))));refine bB (slicePart_none ?_);show u4 _ _ (if((1:Int) == 0)=true then _ else _) _ _ s;rw[if_neg (by decide)];refine bB (sH o (bB (sH m (bB (lj ?_)))));show u4 _ _ (match Qm lo hi 1 (n:Int)with|(lo,hi)=>pure (lo,(1:Int),O7 lo hi 1)) _ _ s
 rw[zc lo hi n];show u4 _ _ (pure (((iB n 0 lo:Nat):Int),(1:Int),O7 ((iB n 0 lo:Nat):Int) ((iB n n hi:Nat):Int) 1)) _ _ s;rw[zd];exact lj h
theorem CC (xs:Array cB)(i k:Nat):((Nj k).filterMap λ(m:Nat)=>xs[((i:Int)+(m:Int)*1).toNat]?).toArray=((xs.toList.drop i).take k).toArray:=by
 have e:(λ(m:Nat)=>xs[((i:Int)+(m:Int)*1).toNat]?)=λm=>xs[i+m]?:=by
  funext m
  have:((i:Int)+(m:Int)*1).toNat=i+m:=()
  rw[this]
 rw[e];have:=pick_run xs i k;rw[Uy]at this;have d:((λx=>xs[x]?) ∘ λx=>i+x)=λm=>xs[i+m]?:=rfl;rw[d]at this;rw[this]
theorem pO {lo:Option Int}(ht:IsTup s.heap t items)(hs:s.heap.IsSliceOf e r p .none)(v:RB r lo)(u:RB p hi)(hw:¬(iB items.size 0 lo=0/\iB items.size items.size hi=items.size))(h:Q (.ref s.heap.objs.size) {s with heap:=s.heap.push {cls:=.type "tuple",data:=.seq ((items.toList.drop (iB items.size 0 lo)).take (iB items.size items.size hi-iB items.size 0 lo)).toArray}})(hsz:items.size<=mC):u4 (L0 prog w) A (RO (.ref t) (.ref e)) Q E s:=by
 have d:sizeOk (.seq ((items.toList.drop (iB items.size 0 lo)).take (iB items.size items.size hi-iB items.size 0 lo)).toArray):=by
  show((items.toList.drop (iB items.size 0 lo)).take (iB items.size items.size hi-iB items.size 0 lo)).toArray.size<=mC;rw[sE,we,Oj,Pw];omega
 have C:iB items.size items.size hi<=items.size:=Hg _ _ (mu _) hi;have(y,g,l,z):=id hs;have o:s.TypeIs (.ref e) "slice":=#[y,g,l];unfold RO
 try with_reducible refine MZ ?_
 first|refine bB (lj ?_)|skip
 refine bB (Sw ht.typeIs (by decide) ?_)
 refine bB (Nb (name:=MI "__getitem__") ht.typeIs ND
  (NT ND ht.typeIs entry_tuple_getitem ?_ (args_tuple_getitem _ _)))
 show u4 _ _ (R6 (.ref t)>>=_) _ _ s;refine bB (tupleItemsOf_ ht ?_);refine bB (Of o ?_);rw[if_pos (by decide)];refine bB (kK hs v u ?_)
 have j:¬((((iB items.size 0 lo:Nat):Int) == 0&&(1:Int) == 1&&(iB items.size items.size hi-iB items.size 0 lo) == items.size)=true):=by
  intro q;rw[Nr,Nr]at q;have q1:((iB items.size 0 lo:Nat):Int)=0:=Oa q.1.1;have B:iB items.size items.size hi-iB items.size 0 lo=items.size:=Oa q.2;exact hw #[(),()]
 show u4 _ _ (if(((iB items.size 0 lo:Nat):Int) == 0&&(1:Int) == 1&&(iB items.size items.size hi-iB items.size 0 lo) == items.size)=true then _ else _) _ _ s;rw[if_neg j,CC]
 first
  |exact bB (m:=Pp _) (NX (lj #[_,rfl,lj h]) d)
  |exact bB (m:=Pp _) (NX (bB (lj (lj #[_,rfl,lj h]))) d)
  |exact bB (bB (m:=Pp _) (NX (lj (lj #[_,rfl,lj h])) d))
  |exact bB (bB (m:=Pp _) (NX (lj #[_,rfl,lj h]) d))
end HT
namespace L2
open PySem PySem.Spec PyProof.Rows
abbrev TO:=St->Hp->(Option Int->Hp->Prop)->Prop
def PO(X:Cx)(e:Option Expr)(t:TO):Prop :=
 ∀(d:List (Addr×Obj)) (s:eT) (g:St) (H:Hp) (Q:Option Int->Hp->Prop),Inv X d g H s->t g H Q ->
  u4 (L0 X.prog X.w) X.A (evalPart e X.env) (λu l=>∃o j,Inv X d g j l/\RB u o/\Q o j) X.xe s
abbrev vG:TO:=λ_ H Q=>Q none H
def Mk(Q:Option Int->Hp->Prop):VK:=λx d=>∃i,x=.int i/\Q (some i) d
abbrev CD(t:TE):TO:=λd H Q=>t d H (Mk Q)
theorem cW :PO X none vG:=by
 intro d s g H Q I h;rw[Um];exact lj #[none,H,I,.none,h]
theorem bL {e:Expr}{te:TE}(h:PE X e te):PO X (some e) (CD te):=by
 intro d s g H Q I l;rw[evalPart_some];refine dw (h d s g H _ I l) λu p ⟨x,o,m,j,q1⟩=>?_;have(i,rfl,q):=q1;have(t,rfl):=j;exact#[some i,o,m,.int i t,q]
def IV(X:Cx)(r:V->Option Int->Option Int->Hp->VK->Prop):Prop :=
 ∀(d:List (Addr×Obj)) (s:eT) (g:St) (H:Hp) (x:V) (v l j:cB) (lo hi:Option Int) (m:Addr) (Q:VK),Inv X d g H s->RelV x v->s.heap.IsSliceOf m l j .none->RB l lo->RB j hi->r x lo hi H Q ->
  ∃T id,Pq (.type T) "__getitem__"=pure (some (.builtin id))/\s.TypeIs v T/\u4 (L0 X.prog X.w) X.A (RO v (.ref m)) (EP X d g Q) X.xe s
abbrev Ml(r:V->Option Int->Option Int->Hp->VK->Prop)(x:V)(l:Option Int)(Q:VK):Option Int->Hp->Prop:=λu d=>r x l u d Q
abbrev Mm(r:V->Option Int->Option Int->Hp->VK->Prop)(th:TO)(d:St)(x:V)(Q:VK):Option Int->Hp->Prop:=λl g=>th d g (Ml r x l Q)
abbrev Mn(r:V->Option Int->Option Int->Hp->VK->Prop)(tl th:TO)(d:St)(Q:VK):VK:=λx g=>tl d g (Mm r th d x Q)
abbrev KR(r:V->Option Int->Option Int->Hp->VK->Prop)(te:TE)(tl th:TO):TE:=λd H Q=>te d H (Mn r tl th d Q)
theorem bZ {e:Expr}{te:TE}{lo hi:Option Expr}{tl th:TO}{pos p2:Pos}{r:V->Option Int->Option Int->Hp->VK->Prop}(hr:IV X r)(N:PE X e te)(L:PO X lo tl)(G:PO X hi th):PE X (.Subscript e (.Slice lo hi none p2) pos) (KR r te tl th):=by
 intro d s j H Q I h;refine Uz (dw (N d s j H _ I h) λv y ⟨x,Y,U,z,q1⟩=>?_);refine wpAny_Slice (dw (L d y j Y _ U q1) λo t ⟨l,W,S,E,C⟩=>dw (G d t j W _ S C) λm g ⟨u,p,R,D,B⟩=>?_);rw[Um];refine lj ?_;have P:Inv X d j p {g with heap:=g.heap.push {cls:=.type "slice",data:=.fields #[o,m,.none,]}}:=R.kept (t':=g.toks) λb Z q=>lu _ q;have(T,id,O,J,M):=hr d {g with heap:=g.heap.push {cls:=.type "slice",data:=.fields #[o,m,.none,]}} j p x v o m l u g.heap.objs.size Q P z (R7 ..) E D B;show u4 (L0 X.prog X.w) X.A (Uo e (.Slice lo hi none p2) v (.ref g.heap.objs.size)) (EP X d j Q) X.xe {g with heap:=g.heap.push {cls:=.type "slice",data:=.fields #[o,m,.none,]}};exact tail_any (ops:=[.ref g.heap.objs.size,v]) J O M (by with_unfolding_all rfl)
noncomputable def iW(xs:List V)(lo hi:Option Int):List V:=(xs.drop (HT.iB xs.length 0 lo)).take (HT.iB xs.length xs.length hi-HT.iB xs.length 0 lo)
theorem qN (xs:List V)(lo hi:Option Int):(iW xs lo hi).length<=xs.length:=by
 unfold iW;rw[we,Oj];omega
def KS(K:bA):V->Option Int->Option Int->Hp->VK->Prop:=λx lo hi H Q=>∃a d,x=.ref a/\bQ K H a d /\
 ¬(HT.iB d.length 0 lo=0/\HT.iB d.length d.length hi=d.length)/\∀p,H p=none->Q (.ref p) (upd H p (.tup (iW d lo hi)))
theorem CF :IV X (KS X.K):=by
 intro l s B H x v D C lo hi E Q I t A w u h;have(a,g,rfl,y,z,q):=h
 cases t
 have(j,r,p,m):=I.tuple y;have d:j.toArray.size=g.length:=by rw[sE];exact r.length.symm
 refine#["tuple",_,ND.lookup,p.typeIs,?_];refine HT.pO p A w u (by rw[d];exact z) ?_ (by rw[d];exact m);rw[d];refine#[.ref s.heap.objs.size,_,I.laid (t':=s.toks) (o:=.tup (iW g lo hi)) (λb G q=>lu _ q) (mu _) ?_,rfl,q _ (I.hok.fresh (mu _))];exact#[FA (qN g lo hi) m,_,(r.drop (HT.iB g.length 0 lo)).take (HT.iB g.length g.length hi-HT.iB g.length 0 lo),UX _ _,_,zv _ rfl,rfl]
def Jo(K:bA):R2:=λx y H Q=>∃a b g d,x=.ref a/\y=.ref b/\bQ K H a g/\bQ K H b d/\g≠[]/\g.length+d.length<=mC /\
 (d=[]->Q (.ref a) H)/\(d≠[]->∀p,H p=none->Q (.ref p) (upd H p (.tup (g++d))))
theorem Vals.vH (r:Vals xs us):us=[]↔xs=[]:=by
 cases r with
 |nil=>simp
 |cons _ _=>simp
theorem EG :nZ X (Pf .Add) (Jo X.K):=by
 intro g s J H x y v u Q I t r h;have(a,b,p,m,rfl,rfl,G,E,D,l,q1,A):=h
 cases t
 cases r
 have(C,d,B,_):=I.tuple G;have(j,r2,p2,_):=I.tuple E;refine HT.EE B p2 (λz=>D (d.vH.mp z)) (λz=>#[.ref a,H,I,rfl,q1 (r2.vH.mp z)]) (λz=>?_) (by rw[<-d.length,<-r2.length];exact l);refine#[.ref s.heap.objs.size,_,I.laid (t':=s.toks) (o:=.tup (p++m)) (λb L q=>lu _ q) (mu _) ?_,rfl,A (λw=>z (r2.vH.mpr w)) _ (I.hok.fresh (mu _))];exact#[by rw[j3];exact l,_,d.append r2,UX _ _,_,zv _ rfl,rfl]
noncomputable def Ak(n:Nat)(i:Int):Option Nat:=if 0<=i then(if i<n then some i.toNat else none)else if -(n:Int)<=i then some (i+n).toNat else none
noncomputable def jZ{d:Type}(xs:List d)(i:Int):Option d:=(Ak xs.length i).bind λj=>xs[j]?
theorem Al (h:Ak n i=some j):RX i n=some j/\j<n/\-(n:Int)<=i/\i<n:=by
 unfold Ak at h
 by_cases g:0<=i
 .rw[if_pos g]at h
  by_cases d:i<n
  .rw[if_pos d]at h;have e:i.toNat=j:=Nd h;exact#[by rw[seqIndex_of g d,e],(),(),d]
  .rw[if_neg d]at h;cases h
 .rw[if_neg g]at h
  by_cases d:-(n:Int)<=i
  .rw[if_pos d]at h;have e:(i+n).toNat=j:=Nd h;exact#[by rw[seqIndex_neg () d,e],(),d,()]
  .rw[if_neg d]at h;cases h
theorem vI {xs:List d}{v:d}(h:jZ xs i=some v):∃j,RX i xs.length=some j/\xs[j]?=some v/\j<xs.length/\-(xs.length:Int)<=i/\i<xs.length:=by
 unfold jZ at h
 cases e:Ak xs.length i with
 |none=>rw[e]at h;cases h
 |some j =>
  rw[e]at h;have(o,m,l,g):=Al e;exact#[j,o,h,m,l,g]
theorem bz {xs:List d}{j:Nat}{v:d}(h:xs[j]?=some v):jZ xs (j:Int)=some v:=by
 have g:j<xs.length:=(ko.mp h).1
 have e:Ak xs.length (j:Int)=some j:=by
  unfold Ak;rw[if_pos (),if_pos ()];simp
 unfold jZ;rw[e];exact h
def EH(b:Expr):Prop:=∀o i,TV b false o i=operate [o,i] (RO o i)
def Cn(X:Cx)(r:R2):Prop :=
 ∀(e slice:Expr) (d:List (Addr×Obj)) (s:eT) (g:St) (H:Hp) (x y:V) (v u:cB) (Q:VK),Inv X d g H s->RelV x v->RelV y u->r x y H Q ->
  TV slice false v u=operate [v,u] (RO v u)->u4 (L0 X.prog X.w) X.A (Uo e slice v u) (EP X d g Q) X.xe s
def J1(X:Cx)(id:String)(r:V->List V->Hp->VK->Prop):Prop :=
 ∀(d:List (Addr×Obj)) (s:eT) (e:St) (H:Hp) (x:V) (g:List V) (v:cB) (j:List cB) (Q:VK),Inv X d e H s->RelV x v->Vals g j->r x g H Q ->
  u4 (L0 X.prog X.w) X.A (call (.builtin id) (v::j)) (EP X d e Q) X.xe s
theorem Cn.or (h:Cn X r)(h':Cn X m):Cn X (λx y H Q=>r x y H Q\/m x y H Q):=by
 intro d slice e s g H x y v u Q I l j q o;rcases q with q|q
 .exact h d slice e s g H x y v u Q I l j q o
 .exact h' d slice e s g H x y v u Q I l j q o
theorem gm {a b:Expr}{ta tb:TE}{pos:Pos}{r:R2}(hr:Cn X r)(o:PE X a ta)(m:PE X b tb)(hs:EH b):PE X (.Subscript a b pos) (Cy r ta tb):=by
 intro d s e H Q I h;exact Uz (G4 o m I h λv u g x y t p l j q=>hr a b d g e t x y v u Q p l j q (hs _ _))
def Hh(K:bA):R2:=λx y H Q=>∃p d i v,x=.ref p/\y=.int i/\bu K H p d/\jZ d i=some v/\Q v H
def Bk(K:bA):R2:=λx y H Q=>∃p d i v,x=.ref p/\y=.int i/\bQ K H p d/\jZ d i=some v/\Q v H
def Jp:R2:=λx y H Q=>∃z i c,x=.str z/\y=.int i/\z.length<=mC/\jZ z.cps.toList i=some c/\Q (.str ⟨#[c]⟩) H
theorem aN :Cn X (Hh X.K):=by
 intro l slice d s C H x y v u Q I M L h D;have(p,U,i,z,rfl,rfl,N,P,q):=h
 cases M
 have(t,rfl):=L;have(A,r,o,V):=I.list N;have(j,g,T,Y,S,R):=vI P;have(w,G,m):=r.get T;have O:=r.length;have W:=oO;have e:EP X d C Q w s:=#[z,H,I,m,q]
 by_cases E:0<=i
 .have B:i.toNat=j:=by
   rw[seqIndex_of E R]at g;exact Nd g
  exact item_listR o.isList E () (by rw[B];simpa using G) e D
 .have B:(i+(A.toArray.size:Int)).toNat=j:=by
   rw[seqIndex_neg () S]at g;rw[sE,<-O];exact Nd g
  exact Ti (x:=w) o.isList.typeIs Sx.lookup
   (wpAny_getItem_list_neg (Q:=λr J=>r=w/\EP X d C Q r J) o.isList () (by rw[sE]<;>omega) () (by rw[B];simpa using G) #[rfl,e]) D
theorem aZ :Cn X (Bk X.K):=by
 intro e slice d s m H x y v u Q I C B h E;have(p,P,i,z,rfl,rfl,G,L,q):=h
 cases C
 have(t,rfl):=B;have(D,r,o,R):=I.tuple G;have(j,N,M,V,U,T):=vI L;have(w,O,g):=r.get M;have J:=r.length;have S:=oO;have l:EP X d m Q w s:=#[z,H,I,g,q]
 exact Ti (x:=w) o.typeIs slot_tuple_getitem.lookup
  (getItem_tuple (j:=j) (Q:=λr A=>r=w/\EP X d m Q r A) o () () (by rw[sE,<-J];exact N) (by simpa using O) #[rfl,l]) E
theorem vK :Cn X Jp:=by
 intro d slice e s E H x y v u Q I m l h o;have(z,i,c,rfl,rfl,J,r,q):=h;have(t,rfl):=m;have(G,rfl):=l;have(j,g,B,M,A,w):=vI r;have p:z.cps.toList.length=z.length:=by simp[R8]
 rw[p]at g A w;have L:=oO
 exact tail_any (typeIs_str s z t) slot_str_getitem.lookup (getItem_str (c:=c) (by
  have D:decide (i < -(2 ^ 63:Int))=false:=decide_eq_false ();have C:decide (i ≥ 2 ^ 63)=false:=decide_eq_false ();rw[D,C,Up]) (by rw[g];simpa using B) #[.str ⟨#[c]⟩,H,I.tok _,#[_,rfl],q]) o
def Jq(K:bA):R2:=λx y H Q=>Hh K x y H Q\/Bk K x y H Q\/Jp x y H Q
theorem jJ :Cn X (Jq X.K):=aN.or (aZ.or vK)
theorem ze (d:List cB)(n j:Nat)(u:cB):Nn (·.setIfInBounds j u) {cls:=.type "list",data:=.seq d.toArray n}={cls:=.type "list",data:=.seq (d.set j u).toArray n}:=by
 simp[Nn]
theorem Inv.lst (I:Inv X g j H s)(h:H p=some (.lst xs)):
  ∃(d:List cB) (n:Nat),Vals xs d/\s.heap.get? p=some {cls:=.type "list",data:=.seq d.toArray n}/\xs.length<=mC:=by
 have(z,d,n,r,e):=I.hok p _ h;exact#[d,n,r,e,z]
theorem Inv.Hj {g:List cB}(I:Inv X d l H s)(h:H p=some (.lst xs))(ho:s.heap.get? p=some {cls:=.type "list",data:=.seq g.toArray n})(hf:f {cls:=.type "list",data:=.seq g.toArray n}={cls:=.type "list",data:=.seq its'.toArray j})(r:Vals ys its')(hz:ys.length<=mC)(t:Nat):
  Inv X d l (upd H p (.lst ys)) {s with heap:=s.heap.update p f,toks:=t}:=by
 have e:(s.heap.update p f).get? p=some {cls:=.type "list",data:=.seq its'.toArray j}:=by
  rw[Nc f ho (by rw[hf]<;>rfl),hf]
 refine I.write (x:=p) (e:=p) (by rw[h];trivial) (.inl rfl) (λb u m q=>(M9 _ _ (NW m)).trans q) #[_,e] ?_;exact#[hz,its',j,r,e]
def Jr:V->V->V->Hp->(Hp->Prop)->Prop:=λo i v H Q=>∃p d k j,o=.ref p/\i=.int k/\H p=some (.lst d)/\Ak d.length k=some j/\Q (upd H p (.lst (d.set j v)))
theorem set_list :Jc X Jr:=by
 intro d s D H o i v O P u Q I J L G h;have(p,E,k,j,rfl,rfl,y,N,q):=h
 cases J
 have(t,rfl):=L;have(e,n,r,l,M):=I.lst y;have(g,S,A,z):=Al N;have m:=r.length;have R:=oO
 have C:Inv X d D (upd H p (.lst (E.set j v))) {s with heap:=s.heap.update p (Nn (·.setIfInBounds j u))} :=
  I.Hj y l (ze e n j u) (r.set G j) (by rw[List.length_set];exact M) s.toks
 by_cases B:0<=k
 .have w:k.toNat=j:=by
   rw[seqIndex_of B z]at g;exact Nd g
  exact PySem.W.ki_setAt l B () (by rw[sE,<-m];exact z) (by rw[w];exact#[_,C,q])
 .have w:(k+(e.toArray.size:Int)).toNat=j:=by
   rw[seqIndex_neg () A]at g;rw[sE,<-m];exact Nd g
  exact PySem.W.ki_setBack l () (by rw[sE,<-m];exact A) () (by rw[w];exact#[_,C,q])
theorem vL (lo hi:Option Int)(n:Nat):(Nq lo hi none n).1=((HT.iB n 0 lo:Nat):Int)/\(Nq lo hi none n).2.1=((HT.iB n n hi:Nat):Int)/\(Nq lo hi none n).2.2=1:=by
 refine#[?_,?_,rfl]
 .cases lo with
  |none=>simp[Nq,HT.iB]
  |some i =>
   simp only[Nq,HT.iB,SO,show(1:Int)>0 by decide,if_true]
   by_cases h:i<0
   .simp only[h,if_true]<;>omega
   .simp only[h,if_false]<;>omega
 .cases hi with
  |none=>simp[Nq,HT.iB]
  |some i =>
   simp only[Nq,HT.iB,SO,show(1:Int)>0 by decide,if_true]
   by_cases h:i<0
   .simp only[h,if_true]<;>omega
   .simp only[h,if_false]<;>omega
theorem ua (d:List cB)(lo hi:Option Int):U0 d.toArray lo hi none=((d.drop (HT.iB d.length 0 lo)).take (HT.iB d.length d.length hi-HT.iB d.length 0 lo)).toArray:=by
 have(j,g,e):=vL lo hi d.toArray.size;unfold U0;rw[j,g,e];simp only[sliceRange_one,pick_run,sE]<;>rfl
def Js(K:bA):V->Option Int->Option Int->Hp->VK->Prop:=λx e g H Q=>∃a d,x=.ref a/\bu K H a d/\∀p,H p=none->Q (.ref p) (upd H p (.lst (iW d e g)))
theorem iC :IV X (Js X.K):=by
 intro l s B H x v D C g j E Q I p A u t h;have(a,d,rfl,z,q):=h
 cases p
 have(w,r,m,y):=I.list z;have e:=r.length;refine#["list",_,Sx.lookup,m.isList.typeIs,?_];refine SH m.isList A u t .none (by simp) ?_ (by rw[sE]<;>omega)
 rw[ua,<-e];refine#[.ref s.heap.objs.size,_,I.laid (t':=s.toks) (o:=.lst (iW d g j)) (λb G q=>lu _ q) (mu _) ?_,rfl,q _ (I.hok.fresh (mu _))];exact#[FA (qN d g j) y,_,0,(r.drop (HT.iB d.length 0 g)).take (HT.iB d.length d.length j-HT.iB d.length 0 g),zv _ rfl]
noncomputable def mJ:V->Bool
 |.gq=>true
 |.bl _=>true
 |.int _=>true
 |.str _=>true
 |_=>false
noncomputable def Gm:V->V->Bool
 |.gq,.gq=>true
 |.bl a,.bl b=>a == b
 |.bl a,.int b=>(if a then 1 else 0) == b
 |.int a,.bl b=>a == (if b then 1 else 0)
 |.int a,.int b=>a == b
 |.str a,.str b=>a == b
 |_,_=>false
theorem Hl (g:RelV y u)(d:RelV x v)(l:mJ y=true)(j:mJ x=true):Oi A s u v (Gm y x):=by
 cases y with
 |gq =>
  cases g
  cases x with
  |gq=>cases d;exact Oi.same _
  |bl b=>cases d;exact Oi.none_bool b
  |int b=>have(t,rfl):=d;exact Oi.none_int b t
  |str b=>have(t,rfl):=d;exact Oi.none_str b t
  |_=>exact absurd (show false=true from j) FG
 |bl a =>
  cases g
  cases x with
  |gq=>cases d;exact Oi.bool_none a
  |bl b=>cases d;exact Oi.bool_bool a b
  |int b=>have(t,rfl):=d;exact Oi.bool_int a b t
  |str b=>have(t,rfl):=d;exact Oi.bool_str a b t
  |_=>exact absurd (show false=true from j) FG
 |int a =>
  have(e,rfl):=g
  cases x with
  |gq=>cases d;exact Oi.int_none a e
  |bl b=>cases d;exact Oi.int_bool a e b
  |int b=>have(t,rfl):=d;exact Oi.int_int a e b t
  |str b=>have(t,rfl):=d;exact Us a e b t
  |_=>exact absurd (show false=true from j) FG
 |str a =>
  have(e,rfl):=g
  cases x with
  |gq=>cases d;exact Oi.str_none a e
  |bl b=>cases d;exact Oi.str_bool a e b
  |int b=>have(t,rfl):=d;exact Ut a e b t
  |str b=>have(t,rfl):=d;exact Oi.str_str a e b t
  |_=>exact absurd (show false=true from j) FG
 |_=>exact absurd (show false=true from l) FG
noncomputable def zf(x:V)(u:cB):Bool:=match u with
 |.none=>Gm .gq x
 |.bool b=>Gm (.bl b) x
 |.int i _=>Gm (.int i) x
 |.str z _=>Gm (.str z) x
 |_=>false
theorem CG (r:RelV y u)(f:mJ y=true):zf x u=Gm y x:=by
 cases y with
 |gq=>cases r;rfl
 |bl b=>cases r;rfl
 |int i=>have(t,rfl):=r;rfl
 |str z=>have(t,rfl):=r;rfl
 |_=>exact absurd (show false=true from f) FG
theorem pQ :∀{xs:List V}{us:List cB},Vals xs us->xs.all mJ=true->us.any (zf x)=xs.any λy=>Gm y x
 |_,_,.nil,_=>rfl
 |y::xs,u::us,.cons r t,f=>by
  rw[Rg,Nr]at f;rw[Rh,Rh,CG r f.1,pQ t f.2]
theorem m9 (d:RelV x v)(e:mJ x=true):∀{xs:List V}{us:List cB},Vals xs us->xs.all mJ=true->∀u∈us,Oi A s u v (zf x u)
 |_,_,.nil,_=>λu hu=>by cases hu
 |y::xs,u::us,.cons r t,f=>λg hu=>by
  rw[Rg,Nr]at f;rcases vy.mp hu with rfl|hu
  .rw[CG r f.1];exact Hl r d f.1 e
  .exact m9 d e t f.2 g hu
noncomputable def rK(x:V)(xs:List V):Bool:=xs.any λy=>Gm y x
def Ka(K:bA)(e:Bool):R2:=λx y H Q=>∃p d,y=.ref p/\(bu K H p d\/bQ K H p d)/\mJ x=true/\d.all mJ=true/\Q (.bl (if e then !rK x d else rK x d)) H
theorem jE :nZ X (Ox .In) (Ka X.K false):=by
 intro l s z H x y v u Q I j o h;have(p,A,rfl,hq,m,fs,q):=h
 cases o
 rcases hq with hq|hq
 .have(d,r,e,t):=I.list hq;refine SeqAt.in_listAt (zf x) e.isList (λw g=>m9 j m r fs w (by simpa using g)) #[.bl _,H,I,rfl,?_];rw[show d.toArray.any (zf x)=d.any (zf x) by simp,pQ r fs];exact q
 .have(d,r,e,t):=I.tuple hq;refine SeqAt.in_tupleAt (zf x) e (λw g=>m9 j m r fs w (by simpa using g)) #[.bl _,H,I,rfl,?_];rw[show d.toArray.any (zf x)=d.any (zf x) by simp,pQ r fs];exact q
theorem pS :nZ X (Ox .NotIn) (Ka X.K true):=by
 intro l s z H x y v u Q I j o h;have(p,A,rfl,hq,m,fs,q):=h
 cases o
 rcases hq with hq|hq
 .have(d,r,e,t):=I.list hq;refine SeqAt.notIn_listAt (zf x) e.isList (λw g=>m9 j m r fs w (by simpa using g)) #[.bl _,H,I,rfl,?_];rw[show d.toArray.any (zf x)=d.any (zf x) by simp,pQ r fs];exact q
 .have(d,r,e,t):=I.tuple hq;refine SeqAt.notIn_tupleAt (zf x) e (λw g=>m9 j m r fs w (by simpa using g)) #[.bl _,H,I,rfl,?_];rw[show d.toArray.any (zf x)=d.any (zf x) by simp,pQ r fs];exact q
theorem iD :j4 X (.builtin "len") (λxs H Q=>∃p ys,xs=[.ref p]/\(bu X.K H p ys\/bQ X.K H p ys)/\Q (.int ys.length) H):=by
 intro l s t H xs v Q I r h;have(p,ys,rfl,hq,q):=h;have(u,rfl,m):=vals1 r
 cases m
 have w:=oO;rcases hq with hq|hq
 .have(j,e,g,o):=I.list hq;have d:=e.length;exact Calls.call_len_list g.isList (by simp only[sE]<;>omega) #[.int ys.length,H,I.tok _,#[s.toks+1,by rw[sE,d]],q]
 .have(j,e,g,o):=I.tuple hq;have d:=e.length;exact len_tuple g (by simp only[sE]<;>omega) #[.int ys.length,H,I.tok _,#[s.toks+1,by rw[sE,d]],q]
theorem pT :j4 X (.builtin "len") (λxs H Q=>∃z,xs=[.str z]/\z.length<=mC/\Q (.int z.length) H):=by
 intro d s e H xs g Q I r h;have(z,rfl,j,q):=h;have(u,rfl,t,rfl):=vals1 r;have l:=oO;exact len_str () #[.int z.length,H,I.tok _,#[_,rfl],q]
theorem jt :j4 X (.type "list") (λxs H Q=>∃p ys,xs=[.ref p]/\(bu X.K H p ys\/bQ X.K H p ys)/\∀l,H l=none->Q (.ref l) (upd H l (.lst ys))):=by
 intro t s E H xs J Q I r h;have(p,ys,rfl,hq,q):=h;have(u,rfl,G):=vals1 r
 cases G
 have z:∀(d:List cB),Vals ys d->ys.length<=mC->∀(g:Heap) (m:Nat),(∀b D,s.heap.get? b=some D->g.get? b=some D) ->
   g.get? s.heap.objs.size=some {cls:=.type "list",dict:=none,data:=.seq d.toArray m,slots:=#[]}->EP X t E Q (.ref s.heap.objs.size) {s with heap:=g}:=λd j v g m kp e =>
  #[.ref s.heap.objs.size,_,I.laid (t':=s.toks) kp (mu _) (show dO X.prog X.w _ g _ (.lst ys)from#[v,d,m,j,e]),rfl,q _ (I.hok.fresh (mu _))]
 rcases hq with hq|hq
 .have(d,j,A,v):=I.list hq;have y:=j.length;have(o,B,C,n,hd):=A.isList;exact call_list_seq p (.inl rfl) B C hd (λg m kp e=>z d j v g m kp e) (by simp only[sE]<;>omega)
 .have(d,j,A,v):=I.tuple hq;have y:=j.length;have(o,B,C,n,hd):=A;exact call_list_seq p (.inr rfl) B C hd (λg m kp e=>z d j v g m kp e) (by simp only[sE]<;>omega)
theorem aU :j4 X (.type "tuple") (λxs H Q=>∃p ys,xs=[.ref p]/\((bu X.K H p ys/\∀l,H l=none->Q (.ref l) (upd H l (.tup ys)))\/(bQ X.K H p ys/\Q (.ref p) H))):=by
 intro d s v H xs D Q I r h;have(p,ys,rfl,h):=h;have(u,rfl,B):=vals1 r
 cases B
 rcases h with⟨hq,q⟩|⟨hq,q⟩
 .have(g,m,t,y):=I.list hq;have z:=m.length;refine call_tuple_list t.isList (λj kp=>?_) (by simp only[sE]<;>omega)
  have A:Inv X d v H {s with heap:=j}:=I.kept (t':=s.toks) kp
  have C:Inv X d v (upd H j.objs.size (.tup ys)) {s with heap:=j.push {cls:=.type "tuple",data:=.seq g.toArray}} :=
   A.laid (t':=s.toks) (λb o e=>lu _ e) (mu _) (show dO X.prog X.w _ _ _ (.tup ys)from#[y,g,m,UX _ _,_,zv _ rfl,rfl])
  exact#[.ref j.objs.size,_,C,rfl,q _ (A.hok.fresh (mu _))]
 .have(g,m,t,y):=I.tuple hq;exact call_tuple_same t #[.ref p,H,I,rfl,q]
def Kc(K:bA)(T:String)(x:V)(H:Hp):Prop:=match x with
 |.str _=>T="str"
 |.int _=>T="int"
 |.ref p=>(T="list"/\∃e,bu K H p e)\/(T="tuple"/\∃o,K.lookup p=some o/\o.cls=.type "tuple"/\o.dict=none) \/
   (T="dict"/\((∃d,H p=some (.dK d))\/∃d,H p=some (.dT d)))\/(T="set"/\∃S n,H p=some (.set S n))
 |_=>False
theorem CH {T:String}(I:Inv X d m H s)(r:RelV x v)(ty:Kc X.K T x H):
  s.TypeIs v T/\∀a,v=.ref a->∃l,s.heap.get? a=some l/\l.dict=none:=by
 cases x with
 |str z =>
  have(t,rfl):=r
  cases(show T="str" from ty)
  exact#[typeIs_str s z t,λ_ e=>nomatch e]
 |int i =>
  have(t,rfl):=r
  cases(show T="int" from ty)
  exact#[typeIs_int s i t,λ_ e=>nomatch e]
 |ref p =>
  cases r
  rcases ty with⟨rfl,xs,hq⟩|⟨rfl,o,hk,hc,hd⟩|⟨rfl,hk⟩|⟨rfl,S,n,hk⟩
  .have(q,_,j,_):=I.list hq;refine#[j.isList.typeIs,λa e=>?_]
   cases e
   have(o,n,e,c,hd,_):=j;exact#[o,e,hd]
  .refine#[#[o,I.tZ p o hk,hc],λa e=>?_]
   cases e
   exact#[o,I.tZ _ o hk,hd]
  .have z:∃o,s.heap.get? p=some o/\o.ExactDict:=by
    rcases hk with⟨kvs,hk⟩|⟨kvs,hk⟩
    .have(_,_,_,_,o,_,_,e,ex,_):=I.hok p _ hk;exact#[o,e,ex]
    .have(_,_,_,_,o,_,_,e,ex,_):=I.hok p _ hk;exact#[o,e,ex]
   have(o,e,ex):=z;refine#[#[o,e,ex.1],λa g=>?_]
   cases g
   exact#[o,e,ex.2.1]
  .have(o,_,_,_,e,ex,_):=I.hok p _ hk;refine#[#[o,e,ex.1],λa g=>?_]
   cases g
   exact#[o,e,ex.2.1]
 |_=>exact Nx ty
abbrev Mp(r:V->List V->Hp->VK->Prop)(x:V)(Q:VK):List V->Hp->Prop:=λd e=>r x d e Q
def Mq(K:bA)(T:String)(r:V->List V->Hp->VK->Prop)(t:TA)(e:St)(Q:VK):VK:=λx d=>Kc K T x d/\t e d (Mp r x Q)
def KU(K:bA)(T:String)(r:V->List V->Hp->VK->Prop)(g:TE):TE:=λe H Q=>g e H λx d=>Kc K T x d/\r x [] d Q
abbrev Mr(K:bA)(T:String)(r:V->List V->Hp->VK->Prop)(e:TE)(t:TA):TE:=λd H Q=>e d H (Mq K T r t d Q)
theorem CJ {T id:String}(u:PlainAttrs T)(g:Slot T name id)(j:typeOf (.builtin id)=pure (.type "method_descriptor"))(hm:J1 X id r)(w:PE X o to)(hbase:Rf o name X.env (eval o X.env)=eval o X.env:=by rfl)(hline:(apos.endLine == cpos.line)=true:=by rfl):PE X (.Call (.Attribute o name apos) [] [] cpos) (KU X.K T r to):=by
 intro d s l H Q I h;refine wpAny_Call_method0_late hbase hline (dw (w d s l H _ I h) λv q ⟨x,A,p,m,ty,q1⟩=>?_);have(z,y):=CH p m ty;exact#[T,id,u,g,j,z,y,QT rfl (PySem.evalArgs_none (hm d q l A x [] v [] Q p m .nil q1))]
theorem Am {o e:Expr}{es:List Expr}{to:TE}{t:TA}{name:Str}{apos cpos:Pos}{T id:String}{r:V->List V->Hp->VK->Prop}(C:PlainAttrs T)(g:Slot T name id)(l:typeOf (.builtin id)=pure (.type "method_descriptor"))(hm:J1 X id r)(D:PE X o to)(E:PA X (e::es) t)(hbase:Rf o name X.env (eval o X.env)=eval o X.env:=by rfl)(hfew:((Qo cpos (M3 (e::es) X.env)).all (λx=>!x.1)&&(backToKw cpos (keywordEach [] X.env)).all (λx=>x.1.isSome)
   && decide ((e::es).length+([]:List Vg).length+(if([]:List Vg).isEmpty then 0 else 1)<30))=true:=by rfl)(hline:(apos.endLine == cpos.line)=true:=by rfl)(hs:M3 (e::es) X.env=(false,eval e X.env)::M3 es X.env:=by rfl)(hplain:(Qo cpos (M3 es X.env)).any (·.1)=false:=by rfl):
  PE X (.Call (.Attribute o name apos) (e::es) [] cpos) (Mr X.K T r to t):=by
 intro d s j H Q I h;refine wpAny_Call_method_late hbase hfew hline rfl (dw (D d s j H _ I h) λv A ⟨x,N,u,p,ty,q1⟩=>?_);have(J,G):=CH u p ty;refine#[T,id,C,g,l,J,G,?_];have q:=E cpos d A j N _ u q1;rw[hs]at q|-;refine QT (by show(false||(Qo cpos (M3 es X.env)).any (·.1))=false;rw[hplain]<;>rfl) (TX ?_)
 exact dw q λy z ⟨w,M,L,r2,B⟩=>hm d z j M x w v y Q L p r2 B
/- xs.append(e),list.index on a module's tuple .. are J1 facts of 06m -/
def Kd(X:Cx)(id:String)(r:V->List V->Hp->VK->Prop):Prop :=
 ∀(d:List (Addr×Obj)) (s:eT) (e:St) (H:Hp) (x:V) (g:List V) (v:cB) (j:List cB) (Q:VK),Inv X d e H s->RelV x v->Vals g j->r x g H Q ->
  u4 (L0 X.prog X.w) X.A (call (.builtin id) (v::j)) (EP X d e Q) X.xe s
theorem Vals.one :∀{x:V}{us:List cB},Vals [x] us->∃u,us=[u]/\RelV x u
 |_,_,.cons r .nil=>#[_,rfl,r]
theorem Vals.zero :∀{us:List cB},Vals [] us->us=[]
 |_,.nil=>rfl
theorem Vals.dropLast (h:Vals xs us):Vals xs.dropLast us.dropLast:=by
 induction h with
 |nil=>exact .nil
 |cons r t ih =>
  cases t with
  |nil=>exact .nil
  |cons q t'=>exact .cons r ih
theorem Vals.eraseIdx :∀{xs:List V}{us:List cB}(i:Nat),Vals xs us->Vals (xs.eraseIdx i) (us.eraseIdx i)
 |_,_,_,.nil=>.nil
 |_,_,0,.cons _ t=>t
 |_,_,i+1,.cons r t=>.cons r (Vals.eraseIdx i t)
theorem Vals.reverse (h:Vals xs us):Vals xs.reverse us.reverse:=by
 induction h with
 |nil=>exact .nil
 |cons r t ih=>rw[P5,P5];exact Vals.append ih (.cons r .nil)
theorem Vals.rep (h:Vals xs us):∀k:Nat,Vals (MU k xs).flatten (MU k us).flatten
 |0=>.nil
 |k+1=>by
  rw[OP,OP,QU,QU];exact Vals.append h (Vals.rep h k)
theorem zg {d:Type}(l:List d):l.eraseIdx (l.length-1)=l.dropLast:=by
 induction l with
 |nil=>rfl
 |cons a r ih =>
  cases r with
  |nil=>rfl
  |cons b r =>
   have e:(a::b::r).length-1=((b::r).length-1)+1:=by
    have j:(a::b::r).length=r.length+2:=rfl;have g:(b::r).length=r.length+1:=rfl;omega
   rw[e,List.eraseIdx_cons_succ,ih]
   all_goals rfl
theorem uP {d:Type}:∀(l:List d) (i:Nat),(l.eraseIdx i).length<=l.length
 | [],_=>mu _
 |_::_,0=>PJ _
 |_::r,i+1=>SQ (uP r i)
theorem foldl_rep (d:List cB):∀(k:Nat) (acc:List cB),
  Vk (λg x2=>g++x2) acc.toArray (MU k d.toArray)=(acc++(MU k d).flatten).toArray
 |0,acc=>by simp
 |k+1,acc=>by
  have e:acc.toArray++d.toArray=(acc++d).toArray:=by simp
  have j:(acc++d)++(MU k d).flatten=acc++(MU (k+1) d).flatten:=by
   rw[OP,QU,M6]
  rw[<-j,<-foldl_rep d k (acc++d),<-e,OP,List.foldl_cons]
theorem Inv.CK {d:List cB}(I:Inv X pins σ H s)(m:H l=some (.lst xs))(e:s.heap.get? l=some {cls:=.type "list",data:=.seq d.toArray n})(hf:f d.toArray=its'.toArray)(hv:Vals ys its')(hz:ys.length<=mC):
  Inv X pins σ (upd H l (.lst ys)) {s with heap:=s.heap.update l (Nn f),toks:=t'}:=by
 have q:=PySem.IsL.update e f;rw[hf]at q;refine I.write (x:=l) (e:=l) (by rw[m];exact trivial) (.inl rfl) (λo u j g=>(M9 s.heap (Nn f) (NW j)).trans g) #[_,q] ?_;exact#[hz,its',_,hv,q]
theorem Inv.Jt (I:Inv X pins σ H s)(e:Vals ys d)(hz:ys.length<=mC):
  Inv X pins σ (upd H s.heap.objs.size (.lst ys)) {s with heap:=s.heap.push {cls:=.type "list",data:=.seq d.toArray},toks:=t'} :=
 I.laid (λ_ _ q=>lu _ q) (mu _) #[hz,d,0,e,zv _ rfl]
theorem Inv.fresh (I:Inv X pins σ H s):H s.heap.objs.size=none:=I.hok.fresh (mu _)
theorem Inv.uc (I:Inv X pins σ H s)(g:H l=some (.lst xs)):xs.length<=mC/\∃(d:List cB) (n:Nat),Vals xs d/\xs.length=d.length/\s.heap.get? l=some {cls:=.type "list",data:=.seq d.toArray n}:=by
 have(z,d,n,r,e):=I.hok l _ g;exact#[z,d,n,r,r.length,e]
theorem pU (h:n<=mC):Pr n=false:=by
 unfold Pr;exact decide_eq_false ()
def EI:V->List V->Hp->VK->Prop:=λx e H Q=>∃l d y,x=.ref l/\e=[y]/\H l=some (.lst d)/\d.length<mC/\Q .gq (upd H l (.lst (d++[y])))
theorem cQ :Kd X "list.append" EI:=by
 intro g s t H x A v B Q I m o h;have(l,w,y,rfl,rfl,j,C,q):=h
 cases m
 have(u,rfl,p):=o.one;have(z,d,n,r,D,e):=I.uc j;refine R9 F.slot_list_append #[_,e,rfl] F.entry_list_append (F.args_list_append_2 _ _) (PySem.list_append l d.toArray n u (by rw[sE];omega)) #[e,?_];refine#[.gq,_,I.CK (its':=d++[u]) j e (by simp) (r.append (.cons p .nil)) ?_,rfl,q];rw[j3,Q3];omega
def EJ:V->List V->Hp->VK->Prop:=λx g H Q=>∃l b e d,x=.ref l/\g=[.ref b]/\H l=some (.lst e)/\H b=some (.lst d)/\e.length+d.length<=mC/\Q .gq (upd H l (.lst (e++d)))
theorem jF :Kd X "list.extend" EJ:=by
 intro o s E H x M v N Q I t w h;have(l,b,L,G,rfl,rfl,p,C,O,q):=h
 cases t
 have(u,rfl,y):=w.one
 cases y
 have(z,g,n,r,P,e):=I.uc p;have(J,d,A,r2,B,D):=I.uc C;have m:g.toArray.size+d.toArray.size<=mC:=by rw[sE,sE];omega
 have j:¬(!g.toArray.isEmpty&&Pr (g.toArray.size+d.toArray.size))=true:=by
  rw[pU m,Bool.and_false];exact FG
 refine R9 F.slot_list_extend #[_,e,rfl] F.entry_list_extend (F.args_list_extend_2 _ _)
  (AutoSeq1.list_extend_list_list_0 l g.toArray n b d.toArray A j (by rw[sE];omega) ()) #[e,D,?_]
 refine#[.gq,_,I.CK (its':=g++d) p e (by simp) (r.append r2) ?_,rfl,q];rw[j3];omega
def KW:V->List V->Hp->VK->Prop:=λx e H Q=>∃l d y,x=.ref l/\e=[]/\H l=some (.lst d)/\d[d.length-1]?=some y/\Q y (upd H l (.lst d.dropLast))
theorem CL :Kd X "list.pop" KW:=by
 intro m s D H x G v J Q I p t h;have(l,E,y,rfl,rfl,o,A,q):=h
 cases p
 have j:=t.zero;subst j;have(z,d,n,r,C,e):=I.uc o;have(u,B,w):=r.get A
 have g:d.toArray[d.toArray.size-1]?=some u:=by
  show d.toArray[d.length-1]?=some u;rw[<-P1,<-C];exact B
 refine R9 OQ #[_,e,rfl] F.entry_list_pop (F.args_list_pop_1 _) (MeetsSeq.list_pop_last l d.toArray n u g (by rw[sE];omega)) #[e,?_];refine#[y,_,I.CK (its':=d.dropLast) o e ?_ r.dropLast ?_,w,q]
 .show d.toArray.eraseIdxIfInBounds (d.toArray.size-1)=d.dropLast.toArray;rw[sE,Q0,zg]
 .rw[List.length_dropLast];omega
def Ho:V->List V->Hp->VK->Prop:=λx e H Q=>∃l d i k y,x=.ref l/\e=[.int i]/\H l=some (.lst d)/\-(2 ^ 63)<=i/\i<2 ^ 63/\RX i d.length=some k/\d[k]?=some y/\Q y (upd H l (.lst (d.eraseIdx k)))
theorem xu :Kd X "list.pop" Ho:=by
 intro j s M H x N v O Q I p A h;have(l,o,i,k,y,rfl,rfl,m,L,J,G,C,q):=h
 cases p
 have(u,rfl,B):=A.one;have(t,rfl):=B;have(z,d,n,r,E,e):=I.uc m;have(w,D,g):=r.get C
 refine R9 OQ #[_,e,rfl] F.entry_list_pop (F.args_list_pop_2 _ _)
  (MeetsSeq.list_pop_at l d.toArray n i t k w (fitsIndex_both L J) (by rw[sE,<-E];exact G) (by rw[<-P1];exact D) (by rw[sE];omega)) #[e,?_]
 refine#[y,_,I.CK (its':=d.eraseIdx k) m e ?_ (r.eraseIdx k) ?_,g,q]
 .show d.toArray.eraseIdxIfInBounds k=(d.eraseIdx k).toArray;rw[Q0]
 .have:=uP o k;omega
def Ju:R2:=λx y H Q=>∃l b e d,x=.ref l/\y=.ref b/\H l=some (.lst e)/\H b=some (.lst d)/\e.length+d.length<=mC/\∀p,H p=none->Q (.ref p) (upd H p (.lst (e++d)))
theorem sJ :nZ X (Pf .Add) Ju:=by
 intro j s C H x y v u Q I o m h;have(l,b,G,D,rfl,rfl,t,w,L,q):=h
 cases o
 cases m
 have(z,g,n,r,M,e):=I.uc t;have(E,d,J,r2,p,B):=I.uc w;refine PySem.P.add_list e B ?_ (by rw[sE,sE];omega);have A:g.toArray++d.toArray=(g++d).toArray:=by simp
 rw[A];exact#[.ref _,_,I.Jt (t':=s.toks) (r.append r2) (by rw[j3];omega),rfl,q _ I.fresh]
def KY:R2:=λx y H Q=>∃l k d,x=.ref l/\y=.int k/\H l=some (.lst d)/\-(2 ^ 63)<=k/\k<2 ^ 63/\d.length*k.toNat<=mC /\
 ∀p,H p=none->Q (.ref p) (upd H p (.lst (MU k.toNat d).flatten))
theorem len_rep {d:Type}(xs:List d)(k:Nat):(MU k xs).flatten.length=k*xs.length:=by
 induction k with
 |zero=>simp
 |succ k ih=>rw[OP,QU,j3,ih,UL,Nat.add_comm]
theorem Hq :nZ X (Pf .Mult) KY:=by
 intro C s R H x y v u Q I J G h;have(l,k,S,rfl,rfl,M,O,N,D,q):=h
 cases J
 have(t,rfl):=G;have(z,d,n,r,L,e):=I.uc M;have o:d.toArray.size*k.toNat<=mC:=by rw[sE,<-L];exact D
 have w:¬d.toArray.size*k.toNat>(2 ^ 63-1) / 8:=by
  have:(mC:Nat)<=(2 ^ 63-1) / 8:=by decide
  omega
 have p:¬(!Px.List.listFitsIndex k)=true:=by
  rw[fitsIndex_both O N];exact FG
 have g:¬Pr (d.toArray.size*k.toNat)=true:=by
  rw[pU o];exact FG
 have j:Vk (λB A=>B++A) #[] (MU (if d.toArray.isEmpty=true then 0 else k.toNat) d.toArray)=(MU k.toNat d).flatten.toArray:=by
  have P:∀m:Nat,Vk (λB A=>B++A) #[] (MU m d.toArray)=(MU m d).flatten.toArray:=λm=>by
   have:=foldl_rep d m [];rw[PR]at this;exact this
  rw[P]
  cases d with
  |nil=>simp
  |cons a r'=>rw[if_neg (by simp)]
 refine wpAny_binaryOp_repeat_ref (T:="list") (U:="int") (by decide) #[_,e,rfl] (λE=>typeIs_int E k t) noFill_list_mul F.fills_int_mul F.slot_int_rmul repeat_list F.slot_int_index.lookup
  (R9 F.slot_int_rmul (typeIs_int s k t) F.entry_int_rmul (F.args_int_rmul_2 _ _) (int___rmul___int_list k t l d.toArray n)
   #[e,rfl,#[_,e,rfl],R9 F.slot_list_mul #[_,e,rfl] F.entry_list_mul (F.args_list_mul_2 _ _) (AutoListH.list___mul___list_int_3 l d.toArray n k t p w g) #[e,?_]])
 rw[j];exact#[.ref _,_,I.Jt (t':=s.toks) (r.rep k.toNat) (by rw[len_rep,Nat.mul_comm];exact D),rfl,q _ I.fresh]
theorem Bl (d e : List cB)(a c : Nat): d.toArray.extract 0 a ++ e.toArray ++ d.toArray.extract c d.toArray.size = (d.take a ++ e ++ d.drop c).toArray := by
  apply U1.mp
  first
    | (simp
       exact Na (by simp))
    | simp [Na]
    | simp
end L2
namespace Att
open PySem PySem.W PySem.Calls PyProof.Rows
theorem q9 :∀(ns:List Int) (d:List cB),WellAll P h d (ns.map WData.int)->Vh d ns:=by
 intro ns
 induction ns with
 |nil =>
  intro d w;rw[Tj]at w
  cases w
  exact .nil
 |cons n ns ih =>
  intro d w;rw[M0]at w
  cases w with
  |cons a b =>
   cases a
   exact .cons _ _ (ih _ b)
theorem Bm {l:RJ}(hn:l.most=some n)(hpre:l.row.toRowW.claim.pre args=true)(hwl:WellAll P h e args):
  ∃a p ns,e=[Value.ref a]/\args=[WData.list (ns.map WData.int)]/\h.get? a=some {cls:=.type "list",data:=.seq p.toArray}/\Vh p ns/\ns.length<=n:=by
 have o:WShape.hasAll [] args [.list .int]=true:=(pre_splitW hpre).1;have t:l.pre.holds [] {args:=args}=true:=(pre_splitW hpre).2;have(d,r,rfl,y,w):=hasAllW_cons o;obtain rfl:=hasAllW_nil w;have(z,rfl,v):=hasW_list y;have(ns,rfl):=items_int v
 have g:ns.length<=n:=by
  unfold RJ.pre at t
  have m:(WTm.not (.lt (.lit (.int (n:Int))) (.len (.arg 0)))).holds [] {args:=[.list (ns.map .int)]}=true:=by
   have m:=(holds_andW t).1;rw[hn]at m;exact m
  have j:=condW_of m (w_not (w_lt w_lit (w_len_list (w_arg rfl))));rw[bC]at j;refine Nat.le_of_not_lt λq=>?_;have u:(n:Int)<((ns.length:Nat):Int):=()
  first
   |(rw[decide_eq_true u]at j;exact absurd j (by decide))
   |(simp at j;omega)
 cases hwl with
 |cons w1 w2 =>
  cases w2
  cases w1 with
  |list ho hall=>exact#[_,_,ns,rfl,rfl,ho,q9 ns _ hall,g]
theorem Bo (l:RJ)(args:List WData):l.row.toRowW.claim.post args (.bool true) args=true :=
 postW_of (r:=l.row.toRowW) (X:=(true == true))
  (show WShape.has [] (.bool true) .bool=true by first|rfl|decide|simp[WShape.has,WShape.arms,WShape.armsAll])
  (show(WTm.eq .res (.lit (.bool true))).value [] {args:=args,res:=some (.bool true),after:=args}=some (.bool (true == true))from w_eq_bool (w_res rfl) w_lit) rfl
theorem xw {l:RJ}(hn:l.most=some n)(hdf:d.params.defaults=[])(call:∀(w:FT) (g e:eT) (mg C:Str->Option cB) (z:Addr) (o:Obj) (B A p:cB) (a:Addr) (t:List cB) (ns:List Int),
   Ground q j [] O w g mg C e.heap->N w e.heap ->
   e.heap.get? z=some o->o.data=.func (docDef d.name d.params d.body d.scope B A p)->e.heap.CodeRec A d.name->mg d.name=some (.ref z) ->
   e.heap.get? a=some {cls:=.type "list",data:=.seq t.toArray}->Vh t ns->ns.length<=n->e.gens=#[] ->
   Qg (L0 l.prog w) Uc (.call (.ref z) #[[.ref a],[]]) (λr s'=>r=.ok (.ret (.bool true))/\OldK e.heap s'.heap/\s'.os=e.os/\RM s'.gens) e):
  WalkO q j O N l.row.toRowW d [] (λf t=>Vl f t):=by
 intro w g e mg C G Y z o B A p Z kV R hd H L E U M I as u J P D T;obtain rfl:Z=.none:=Dflts.none L hdf;obtain rfl:kV=.none:=Dflts.noKw L;have(a,t,ns,rfl,rfl,v,m,y):=Bm hn u D;refine enter_call (PM (call w g e mg C z o B A p a t ns G Y R (fd_plain hd) H E v m y U) λr s' Q=>?_);have(rfl,X,W,V):=Q;exact#[.inl #[.bool true,.bool true,[],rfl,λ_=>rfl,.bool true,Bo l _,λ_=>#[List.Pairwise.nil,λ_ S=>(nomatch S)]],X,W,V]
end Att
namespace L2
open PySem PySem.Spec PyProof.Rows
theorem uQ :∀{d:List cB}{ns:List Int},Vh d ns->Vals (ns.map V.int) d
 |_,_,.nil=>.nil
 |_,_,.cons n t h=>.cons #[t,rfl] (uQ h)
noncomputable def fj(s:Stmt):RW:=match s with
 |.FunctionDef _ a _ _ _ _ _ _ _ _=>a
 |_=>{posonlyargs:=[],args:=[],vararg:=none,kwonlyargs:=[],kw_defaults:=[],kwarg:=none,defaults:=[]}
noncomputable def bM(s:Stmt):List Stmt:=match s with
 |.FunctionDef _ _ b _ _ _ _ _ _ _=>b
 |_=>[]
noncomputable def ak(s:Stmt):Ov:=match s with
 |.FunctionDef _ _ _ _ _ _ sc _ _ _=>sc
 |_=>{kind:=.function,names:=[],isGenerator:=false,isCoroutine:=false}
abbrev eZ:uJ:=λ_ _ _ _ _ _=>False
abbrev E0:XK:=λ_ _ _=>False
theorem kL :Passes eZ X E0:=λ_ _ _ _ _ _ _ h=>h.elim
structure ic(K:bA) (x qual:Str) (st:Stmt) (f:Addr) (fd:rE):Prop where
 ex:∃(oc:cB) (od:Option Addr) (kV doc pm:cB) (an:Option Addr) (cdv ct:cB) (osl:Array (Option cB)),
  fd=Pg x qual (fj st) (bM st) (ak st) .none kV doc pm an cdv ct/\K.lookup f=some #[oc,od,.func fd,osl]/\Qq K cdv qual=true
 kp:NF K (.ref f)=true
theorem ic.ok {K:bA}{st:Stmt}(F:ic K x e st f o)(S:aK N ps (ak st))(len:∀j H Q E,sp j H Q E->j.length=ps.length)(hbody:∀(g:cB) (A:MM) (d:List Env) (s:eT) (H:Hp) (j:List V) (Q:VK) (E:XK),fB k (A.deeper (Rz e (ak st) s.heap.objs.size f g))->sp j H Q E ->
   ∃t,qy (m6 eZ P w K mg base N e (ak st) f g A d s H E).yU (bM st) t/\t {nx:=λ_ v=>Q .gq v,rt:=Q} (start N j) H):bH P w K mg base eZ (k+1) f o ps sp:=by
 have(B,z,kV,u,y,D,g,C,p,rfl,r,m):=F.ex;refine CB r m S len λA d s H j Q E hr l=>?_;have(t,h,q):=hbody g A d s H j Q E hr l;exact#[t,h.yU,q]
theorem ic.binds {K:bA}{st:Stmt}(F:ic K x d st f m)(h:∀(kV e j:cB) (l:Option Addr) (g ct:cB) (us:List cB),us.length=ps.length->bindArgs (Pg x d (fj st) (bM st) (ak st) .none kV e j l g ct) #[us,[]]=pure (ps.zip us)):Binds K m ps []:=by
 have(r,q,kV,e,j,l,g,ct,o,rfl,t,p):=F.ex;exact .all (h kV e j l g ct)
theorem mK (hr:fB k A):A.units+1<Rm:=QD (Ue (by decide:1<=64) _) hr.units
theorem bD (h:n<=1000):n<mC:=QD h (by decide)
theorem pv (i:Nat)(g:X.N[i]?=some x:=by rfl)(e:IU X.env.scope x:=by first|exact Or.inl rfl|exact Or.inr (Or.inl rfl)|exact Or.inr (Or.inr rfl))(hd:(x == ("__debug__":Str))=false:=by decide)(hcd:(x == ("__classdict__":Str))=false:=by decide):PE X (.Name x d) (mV i):=Cq g e hd hcd
theorem cM {c A B:Prop}[Decidable c](e:c->A)(d:¬c->B):if c then A else B:=by
 by_cases h:c
 .rw[if_pos h];exact e h
 .rw[if_neg h];exact d h
def aF(H d:Hp):Prop:=∀b o,H b=some o->d b=some o
theorem aF.refl (H:Hp):aF H H:=λ_ _ h=>h
theorem aF.trans (a:aF H e)(b:aF e d):aF H d:=λc o h=>b c o (a c o h)
theorem aF.free (e:aF H d)(h:d l=Option.none):H l=Option.none:=by
 cases q:H l with
 |none=>rfl
 |some o =>
  rw[e l o q]at h
  cases h
noncomputable def eF {κ:Type}[DecidableEq κ](kvs:List (κ×V))(k:κ):Option V:=(kvs.find? λd=>decide (d.1=k)).map (·.2)
noncomputable def putK {κ:Type}[DecidableEq κ](kvs:List (κ×V))(k:κ)(v:V):List (κ×V) :=
 if(kvs.any λd=>decide (d.1=k))=true then kvs.map (λd=>if d.1=k then(d.1,v)else d)else kvs++[(k,v)]
theorem sL {κ:Type}[DecidableEq κ]{p:κ×V}{r:List (κ×V)}{k:κ}(e:p.1=k):eF (p::r) k=some p.2:=by simp[eF,OO,e]
theorem sN {κ:Type}[DecidableEq κ]{p:κ×V}{r:List (κ×V)}{k:κ}(e:¬p.1=k):eF (p::r) k=eF r k:=by simp[eF,OO,e]
theorem xx {κ:Type}[DecidableEq κ](k:κ):∀kvs:List (κ×V),(kvs.any λkv=>decide (kv.1=k))=(eF kvs k).isSome
 | []=>rfl
 |p::r=>by
  rw[Rh]
  by_cases e:p.1=k
  .simp only[sL e,decide_eq_true e,UM,Option.isSome_some]
  .rw[sN e,decide_eq_false e,Bool.false_or];exact xx k r
theorem nh {κ:Type}[DecidableEq κ](kvs:List (κ×V))(k:κ)(v:V):(putK kvs k v).length<=kvs.length+1:=by
 unfold putK
 split
 .rw[bC];omega
 .rw[j3,MW,List.length_nil];omega
theorem mS.Bp (r:mS o u):o.isSome=u.isSome:=by
 cases o with
 |none=>cases u with
  |none=>rfl
  |some _=>exact(show False from r).elim
 |some _=>cases u with
  |none=>exact(show False from r).elim
  |some _=>rfl
theorem mS.getD (r:mS o u)(e:RelV d d'):RelV (o.getD d) (u.getD d'):=by
 cases o with
 |none=>cases u with
  |none=>exact e
  |some _=>exact(show False from r).elim
 |some _=>cases u with
  |none=>exact(show False from r).elim
  |some _=>exact r
theorem KV.val {κ:Type}[DecidableEq κ]{kvs:List (κ×V)}{g:List (κ×cB)}(r:KV kvs g)(k:κ):mS (eF kvs k) (Qh g k):=by
 unfold KV at r
 induction r with
 |nil=>exact True.intro
 |@cons p q ps qs h t ih =>
  have(j,l):=h
  by_cases e:p.1=k
  .have d:q.1=k:=j.symm.trans e;have b:Qh (q::qs) k=some q.2:=by simp[Qh,OO,d]
   rw[sL e,b];exact l
  .have d:¬q.1=k:=λz=>e (j.trans z);have b:Qh (q::qs) k=Qh qs k:=by simp[Qh,OO,d]
   rw[sN e,b];exact ih
theorem KV.any {κ:Type}[DecidableEq κ]{kvs:List (κ×V)}{d:List (κ×cB)}(r:KV kvs d)(k:κ):(kvs.any λkv=>decide (kv.1=k))=d.any λkv=>decide (kv.1=k):=by
 unfold KV at r
 induction r with
 |nil=>rfl
 |cons h t ih=>rw[Rh,Rh,ih,h.1]
theorem KV.repl {κ:Type}[DecidableEq κ]{kvs:List (κ×V)}{g:List (κ×cB)}(r:KV kvs g)(k:κ){y:V}{u:cB}(j:RelV y u):
  KV (kvs.map λkv=>if kv.1=k then(kv.1,y)else kv) (g.map λkv=>if kv.1=k then(kv.1,u)else kv):=by
 unfold KV at r|-
 induction r with
 |nil=>exact .nil
 |@cons p q ps qs h t ih =>
  rw[M0,M0];refine .cons ?_ ih;have(d,l):=h
  by_cases e:p.1=k
  .rw[if_pos e,if_pos (d.symm.trans e)];exact#[d,j]
  .rw[if_neg e,if_neg (λz=>e (d.trans z))];exact#[d,l]
theorem KV.put {κ:Type}[DecidableEq κ]{kvs:List (κ×V)}{d:List (κ×cB)}(r:KV kvs d)(k:κ){y:V}{u:cB}(g:RelV y u):KV (putK kvs k y) (stored d k u):=by
 unfold putK stored;rw[r.any k]
 by_cases e:(d.any λj=>decide (j.1=k))=true
 .rw[if_pos e,if_pos e];exact r.repl k g
 .rw[if_neg e,if_neg e];exact Paired.snoc r #[rfl,g]
theorem KV.length {κ:Type}[DecidableEq κ]{kvs:List (κ×V)}{d:List (κ×cB)}(r:KV kvs d):kvs.length=d.length:=Paired.length r
theorem uR (r:RelV (kV k) u):(dc P w).is k u=true:=by
 cases k with
 |inl i=>have(t,e):=(show ∃t,u=Value.int i t from r);subst e;exact wV P w i t
 |inr x=>have(t,e):=(show ∃t,u=Value.str x t from r);subst e;exact wW P w x t
theorem uS :∀{ks:List Key}{us:List cB},Vals (ks.map kV) us->ItemsAre (dc P w) ks us
 | [],_,r=>by rw[Tj]at r;cases r;exact .nil
 |k::ks,_,r=>by
  rw[M0]at r
  cases r with
  |cons h t=>exact .cons (uR h) (uS t)
abbrev KT(H:Hp):List (List Key×V)->List (List Key×Addr×cB)->Prop:=Paired λp q=>p.1=q.1/\H q.2.1=some (.tup (p.1.map kV))/\RelV p.2 q.2.2
theorem KT.val (r:KT H kvs xs)(k:List Key):mS (eF kvs k) ((Vd xs k).map (·.2)):=by
 induction r with
 |nil=>exact True.intro
 |@cons p q ps qs h t ih =>
  have(g,_,j):=h
  by_cases e:p.1=k
  .have d:q.1=k:=g.symm.trans e;have b:Vd (q::qs) k=some q.2:=by simp[Vd,OO,d]
   rw[sL e,b];exact j
  .have d:¬q.1=k:=λz=>e (g.trans z);have b:Vd (q::qs) k=Vd qs k:=by simp[Vd,OO,d]
   rw[sN e,b];exact ih
theorem KT.repl (r:KT H kvs xs)(k:List Key)(j:RelV y u):
  KT H (kvs.map λkv=>if kv.1=k then(kv.1,y)else kv) (xs.map (putAt k u)):=by
 induction r with
 |nil=>exact .nil
 |@cons p q ps qs h t ih =>
  rw[M0,M0];refine .cons ?_ ih;have(d,g,l):=h;unfold putAt
  by_cases e:p.1=k
  .rw[if_pos e,if_pos (d.symm.trans e)];exact#[d,g,j]
  .rw[if_neg e,if_neg (λz=>e (d.trans z))];exact#[d,g,l]
theorem KT.put (r:KT H kvs xs)(k:List Key)(j:H b=some (.tup (k.map kV)))(d:RelV y u):
  KT H (putK kvs k y) (storedH xs k b u):=by
 have e:(kvs.any λg=>decide (g.1=k))=(Vd xs k).isSome:=by
  rw[xx,(r.val k).Bp,Option.isSome_map]
 unfold putK storedH;rw[e]
 by_cases q:(Vd xs k).isSome=true
 .rw[if_pos q,if_pos q];exact r.repl k d
 .rw[if_neg q,if_neg q];exact Paired.snoc r #[rfl,j,d]
theorem KT.keeps (r:KT H kvs xs)(ht:∀b ys,H b=some (.tup ys)->d b=some (.tup ys)):KT d kvs xs :=
 Paired.GR r λ_ _ z=>#[z.1,ht _ _ z.2.1,z.2.2]
theorem Gn (ok:mU P w H h)(e:Rd H a u):dO P w H h a u:=e.ok ok
theorem xy (ok:mU P w H h)(e:Rd H a (.dK kvs)):kvs.length<=mC/\(a == Og)=false/\∃d,KV kvs d/\h.DictOf (dc P w) a d :=
 show dO P w H h a (.dK kvs)from Gn ok e
theorem Gp (ok:mU P w H h)(e:H a=some (.dK kvs)):kvs.length<=mC/\(a == Og)=false/\∃d,KV kvs d/\h.DictOf (dc P w) a d:=xy ok (.inl e)
theorem vM (ok:mU P w H h)(e:H a=some (.tup (ks.map kV))):(SK (dc P w)).is h ks a:=by
 have(_,d,r,(o,l,j,n,g),_):=(show dO P w H h a (.tup (ks.map kV))from ok a _ e);exact#[o,d.toArray,n,l,j,g,by simpa using uS r]
theorem xK (ok:mU P w H h)(e:Rd H a (.dT kvs)):kvs.length<=mC/\(a == Og)=false /\
  ∃xs,KT H kvs xs/\h.DictOfH (SK (dc P w)) a xs:=by
 have(z,y,xs,r,o,A,B,v,u,j,g,d):=(show dO P w H h a (.dT kvs)from Gn ok e);refine#[z,y,xs,r,o,A,B,v,u,j,g,λx hx=>?_,d]
 have all:∀{l:List (List Key×V)}{m:List (List Key×Addr×cB)},KT H l m->∀x∈m,(SK (dc P w)).is h x.1 x.2.1:=by
  intro l m q
  induction q with
  |nil=>intro x hx;exact nomatch hx
  |@cons p q ps qs hq t ih =>
   intro x hx;rcases vy.mp hx with e|hx
   .subst e;exact vM ok (by rw[<-hq.1];exact hq.2.1)
   .exact ih x hx
 exact all r x hx
theorem Jv (ok:mU P w H h)(e:H a=some (.dT kvs)):kvs.length<=mC/\(a == Og)=false /\
  ∃xs,KT H kvs xs/\h.DictOfH (SK (dc P w)) a xs:=xK ok (.inl e)
def ni(H:Hp)(a:Addr)(y:V)(r:Option V):Prop :=
 (∃d k,Rd H a (.dK d)/\y=kV k/\r=eF d k)\/∃d k b,Rd H a (.dT d)/\y=.ref b/\H b=some (.tup (k.map kV))/\r=eF d k
def lT(H:Hp)(a:Addr)(y v:V)(e:Hp):Prop :=
 (∃d k,H a=some (.dK d)/\y=kV k/\d.length<mC/\e=upd H a (.dK (putK d k v))) \/
 ∃d k b,H a=some (.dT d)/\y=.ref b/\H b=some (.tup (k.map kV))/\d.length<mC/\e=upd H a (.dT (putK d k v))
theorem ni.k {k:Key}(e:H a=some (.dK kvs)):ni H a (kV k) (eF kvs k):=.inl #[kvs,k,.inl e,rfl,rfl]
theorem ni.t {k:List Key}(e:H a=some (.dT kvs))(d:H b=some (.tup (k.map kV))):ni H a (.ref b) (eF kvs k):=.inr #[kvs,k,b,.inl e,rfl,d,rfl]
theorem lT.k {k:Key}(e:H a=some (.dK kvs))(d:kvs.length<mC):lT H a (kV k) v (upd H a (.dK (putK kvs k v))):=.inl #[kvs,k,e,rfl,d,rfl]
theorem lT.t {k:List Key}(e:H a=some (.dT kvs))(g:H b=some (.tup (k.map kV)))(d:kvs.length<mC):
  lT H a (.ref b) v (upd H a (.dT (putK kvs k v))):=.inr #[kvs,k,b,e,rfl,g,d,rfl]
theorem Inv.big (I:Inv X pins σ H s):Og<s.heap.objs.size:=by
 have h:ML<s.heap.objs.size:=(I.mod.glob.keeps I.bk).lt;exact RP (by decide) h
theorem Bq (J:A.units+1<Rm)(I:Inv X pins σ H s)(g:ni H a y (some v))(C:RelV y u)(h:∀m s',Inv X pins σ H s'->RelV v m->Q m s'):
  u4 (L0 X.prog X.w) A (RO (.ref a) u) Q E s:=by
 rcases g with⟨kvs,k,e,ey,l⟩|⟨kvs,k,b,e,ey,eb,l⟩
 .subst ey;have(z,hd,G,j,B):=xy I.hok e;have(m,q,d):=mS.some_of (v:=v) (o:=Qh G k) (by rw[l];exact j.val k);exact wpAny_getItem_of (uR C) B.mapOf q (h m _ (I.tok _) d)
 .subst ey
  cases(show u=Value.ref b from C)
  have(z,hd,D,j,B):=xK I.hok e;have(m,q,d):=mS.some_of (v:=v) (o:=(Vd D k).map (·.2)) (by rw[l];exact j.val k);have(p,L,t):=ur.mp q;refine wpAny_getItem_heap (Sa J) (vM I.hok eb) B L ?_;rw[t];exact h m _ (I.tok _) d
theorem vN (I:Inv X pins σ H s)(g:IZ (H a))(hs:Pc a s.heap h')(j:∃q,h'.get? a=some q)(new:dO X.prog X.w (upd H a d) h' a d):
  Inv X pins σ (upd H a d) {s with heap:=h',toks:=t'} :=
 I.write (x:=a) (e:=a) g (.inl rfl) (λb q l z=>(hs.2 b l).trans z) j new
theorem zh (z:kvs.length<=mC)(hd:(a == Og)=false)(e:KV kvs d)(dd:h'.DictOf (dc P w) a d):
  dO P w g h' a (.dK kvs):=#[z,hd,d,e,dd]
theorem Br (P:A.units+1<Rm)(I:Inv X pins σ H s)(g:lT H a y v M)(D:RelV y u)(G:RelV v r)(h:∀s',Inv X pins σ M s'->Q Unit.unit s'):
  u4 (L0 X.prog X.w) A (UE (.ref a) u r) Q E s:=by
 rcases g with⟨kvs,k,e,ey,l,eH⟩|⟨kvs,k,b,e,ey,eb,l,eH⟩
 .subst ey eH;have(z,hd,O,d,C):=Gp I.hok e;have p:O.length<=mC:=by rw[<-d.length];exact z
  have B:(putK kvs k v).length<=mC:=by have:=nh kvs k v;omega
  refine wpAny_setItem_pairs (hsz:=p) (uR D) C λJ j t=>h _ ?_;have R:∃q,J.get? a=some q:=let⟨q,_,_,m,_⟩:=j;#[q,m];exact vN I (by rw[e];exact True.intro) t R (zh B hd (d.put k G) j)
 .subst ey eH
  cases(show u=Value.ref b from D)
  have(z,hd,N,d,C):=Jv I.hok e;have p:N.length<=mC:=by rw[<-Paired.length d];exact z
  have B:(putK kvs k v).length<=mC:=by have:=nh kvs k v;omega
  refine wpAny_setItem_heap (hsz:=p) (Sa P) (vM I.hok eb) C λJ j t=>h _ ?_;have(q,W,Y,m,V,U,T,_,S):=j;refine vN I (by rw[e];exact True.intro) t #[q,m] #[B,hd,_,(d.put k eb G).keeps λc Z L=>?_,q,W,Y,m,V,U,T,S];rw[ay (cI L e nofun)]
  exact L
def Hr(i:Expr):Prop:=∀d e,TV i false d e=operate [d,e] (RO d e)
theorem An {T id:String}(hl:Pq (.type T) "__getitem__"=pure (some (.builtin id)))(hs:Hr slice)(h:u4 (L0 prog w) A (eval d env) (λo l=>u4 (L0 prog w) A (eval slice env) (λi e=>e.TypeIs o T/\u4 (L0 prog w) A (RO o i) Q E e) E l) E s):
  u4 (L0 prog w) A (eval (.Subscript d slice t) env) Q E s:=by
 refine Uz (Nk h (λo l q=>Nk q (λi e g=>?_) λ_ _ x=>x) λ_ _ x=>x);have(u,g):=g;unfold Uo;refine bB ?_;rw[getitemInPython_of_ne u.not_modules];refine bB (PU u hl ?_)
 have m:u4 (L0 prog w) A (TV slice false o i) (λr j=>u4 (L0 prog w) A (letTemporaryGo d o r>>=λ_=>pure r) Q E j) E e:=by
  rw[hs o i];exact wpAny_operating (Nk g (λr j p=>bB (wpAny_letTemporaryGo (lj p))) λ_ _ x=>x)
 first
  |exact lj (bB m)
  |exact bB (lj (bB m))
  |exact bB m
theorem xM (I:Inv X d l H s)(g:ni H a y o):s.TypeIs (.ref a) "dict":=by
 rcases g with⟨kvs,k,e,_,_⟩|⟨kvs,k,b,e,_,_,_⟩
 .have(_,_,p,_,j):=xy I.hok e;exact j.typeIs
 .have(_,_,m,_,j):=xK I.hok e;exact j.typeIs
def Ms(x:V)(Q:VK):VK:=λy d=>∃a v,x=.ref a/\ni d a y (some v)/\Q v d
abbrev Mt(ty:TE)(d:St)(Q:VK):VK:=λx e=>ty d e (Ms x Q)
abbrev Jw(e ty:TE):TE:=λd H Q=>e d H (Mt ty d Q)
def Jx(j ty g:TE):TS:=λD d H=>g d H λv o=>j d o λx m=>ty d m λy l=>∃a e,x=.ref a/\lT l a y v e/\D.nx d e
theorem Ao {o i:Expr}{pos:Pos}{td ty:TE}(w:X.A.units+1<Rm)(z:PE X o td)(hi:PE X i ty)(hs:Hr i):PE X (.Subscript o i pos) (Jw td ty):=by
 intro d s l H Q I h;refine An Sn.lookup hs (dw (z d s l H _ I h) λu p ⟨x,E,C,r,q1⟩=>dw (hi d p l E _ C q1) λM L ⟨y,D,m,q,a,v,ex,g,t⟩=>?_);subst ex;obtain rfl:u=Value.ref a:=r;exact#[xM m g,Bq w m g q λG J B j=>#[v,D,B,j,t]]
theorem j6 {o i value:Expr}{pos pos':Pos}{td ty tv:TE}(C:X.A.units+1<Rm)(E:PE X o td)(hi:PE X i ty)(B:PE X value tv)(hs:RV value (some (.Subscript o i pos')) pos.line X.env=pure false):
  PS X (.Assign [.Subscript o i pos'] value pos) (Jx td ty tv):=by
 intro d s j H D I h;refine wpAny_Assign_Subscript (dw (B d s j H _ I h) λr m ⟨v,P,M,t,q1⟩=>dw (E d m j P _ M q1) λu l ⟨x,O,L,q,z⟩=>dw (hi d l j O _ L z) λS R ⟨y,T,J,p,a,N,ex,g,w⟩=>?_) hs;subst ex;obtain rfl:u=Value.ref a:=q;exact Br C J g p t λQ G=>#[j,N,G,w]
theorem xN (h:Heap)(d:Og<h.objs.size):dO P w H (h.push {cls:=.type "dict",data:=.dict #[]}) h.objs.size (.dK []) :=
 #[MP _,beq_eq_false_iff_ne.mpr (NW (MQ d)),[],.nil,Vf h]
def Hs:TE:=λ_ H Q=>∀p,H p=none->Q (.ref p) (upd H p (.dK []))
theorem CM {pos:Pos}:PE X (.Dict [] [] pos) Hs:=λd s e H Q I h =>
 wpAny_Dict_empty #[.ref s.heap.objs.size,_,I.laid (a:=s.heap.objs.size) (o:=.dK []) (t':=s.toks) (λ_ _ q=>lu _ q) (mu _) (xN s.heap I.big),rfl,h _ (I.hok.fresh (mu _))]
def zj:List (TE×TE)->St->Hp->(List (V×V)->Hp->Prop)->Prop
 | [],_,H,Q=>Q [] H
 |(tk,tv)::r,σ,H,Q=>tk σ H λx j=>tv σ j λy g=>zj r σ g λd e=>Q ((x,y)::d) e
abbrev VV:List (V×V)->List (cB×cB)->Prop:=Paired λp q=>RelV p.1 q.1/\RelV p.2 q.2
def Ke(X:Cx)(l:Pos)(keys:List (Option Expr))(d:List Expr)(j:List (TE×TE)):Prop :=
 ∀(e:List (Addr×Obj)) (s:eT) (g:St) (H:Hp) (Q:List (V×V)->Hp->Prop),Inv X e g H s->zj j g H Q ->
  u4 (L0 X.prog X.w) X.A (evalPairs (pairTrees keys d X.env l)) (λp q=>∃m o,Inv X e g o q/\VV m p/\Q m o) X.xe s
theorem EK :Ke X d [] [] []:=λe s g H Q I h=>pairTrees_nil_walk #[[],H,I,.nil,h]
theorem kO (C:PE X k tk)(B:PE X v o)(hr:Ke X g ks m e):
  Ke X g (some k::ks) (v::m) ((tk,o)::e):=λd s j H Q I h =>
 pairTrees_cons_walk (dw (C d s j H _ I h) λu q ⟨x,M,G,t,q1⟩=>dw (B d q j M _ G q1) λO p ⟨y,L,E,r,z⟩ =>
  dw (hr d p j L _ E z) λN P ⟨A,J,D,l,w⟩=>#[(x,y)::A,J,D,.cons #[t,r] l,w])
noncomputable def fD(kvs more:List (Key×V)):List (Key×V):=more.foldl (λd e=>putK d e.1 e.2) kvs
theorem KV.merge :∀{more:List (Key×V)}{rs:List (Key×cB)}{kvs:List (Key×V)}{d:List (Key×cB)},KV more rs->KV kvs d->KV (fD kvs more) (UA d rs):=by
 intro more rs kvs d r;unfold KV at r
 induction r generalizing kvs d with
 |nil=>intro q;exact q
 |@cons p q ps qs h t ih =>
  intro g
  have e:KV (putK kvs p.1 p.2) (stored d q.1 q.2):=by
   have:=g.put p.1 h.2;rw[<-h.1];exact this
  exact ih e
theorem ku :∀(more kvs:List (Key×V)),(fD kvs more).length<=kvs.length+more.length
 | [],kvs=>by show kvs.length<=kvs.length+0;omega
 |p::r,kvs=>by
  have e:=ku r (putK kvs p.1 p.2);have d:=nh kvs p.1 p.2;show(fD (putK kvs p.1 p.2) r).length<=_;rw[MW];omega
theorem sO :∀{kvs:List (Key×V)}{d:List (cB×cB)},VV (kvs.map λkv=>(kV kv.1,kv.2)) d->∃rs,Carries (dc P w) d rs/\KV kvs rs
 | [],_,r=>by rw[Tj]at r;cases r;exact#[[],True.intro,.nil]
 |p::kvs,_,r=>by
  rw[M0]at r
  cases r with
  |@cons a b as bs h t =>
   have(rs,c,q):=sO (P:=P) (w:=w) t;have(g,e):=b;exact#[(p.1,e)::rs,#[uR h.1,rfl,c],.cons #[rfl,h.2] q]
def Gq(e:List (TE×TE)):TE:=λl H Q=>∀p,H p=none->zj e l (upd H p (.dK [])) λm j=>j p=some (.dK [])/\∃d:List (Key×V),m=d.map (λg=>(kV g.1,g.2))/\d.length<=15/\Q (.ref p) (upd j p (.dK (fD [] d)))
theorem EL (h:Ke X j keys d g)(p:keys.all (·.isSome)=true)(L:keys.length=d.length)(O:keys≠[])(h15:keys.length<=15):PE X (.Dict keys d j) (Gq g):=by
 intro l s v H Q I q;have J:=I.hok.fresh (mu s.heap.objs.size);have T:=I.laid (a:=s.heap.objs.size) (o:=.dK []) (h':=s.heap.push {cls:=.type "dict",data:=.dict #[]}) (t':=s.toks) (λ_ _ q=>lu _ q) (mu _) (xN s.heap I.big);refine wpAny_Dict_walk (knd:=dc X.prog X.w) p L O h15 (dw (h l _ v _ _ T (q _ J)) λU V ⟨W,Z,u,t,e,m,R,Y,D⟩=>?_);subst R;have(A,c,B):=sO (P:=X.prog) (w:=X.w) t;have(z,hd,y,C,S):=Gp u.hok e
 cases C
 refine#[A,c,S,λh' r G=>#[.ref s.heap.objs.size,_,?_,rfl,D]]
 have E:(fD [] m).length<=mC:=by
  have N:=ku m [];rw[List.length_nil]at N;rw[Rl];omega
 have M:∃q,h'.get? s.heap.objs.size=some q:=let⟨q,_,_,hq,_⟩:=r;#[q,hq];exact vN u (by rw[e];exact True.intro) G M (zh E hd (B.merge .nil) r)
structure M2(X:Cx) (o:Expr) (m:Str) (apos:Pos) (e f:Expr) (cpos:Pos):Prop where
 base:Rf o m X.env (eval o X.env)=eval o X.env
 few:((Qo cpos (M3 [e,f] X.env)).all (λx=>!x.1)&&(backToKw cpos (keywordEach [] X.env)).all (λx=>x.1.isSome)
  && decide (([e,f]:List Expr).length+([]:List Vg).length+(if([]:List Vg).isEmpty then 0 else 1)<30))=true
 line:(apos.endLine == cpos.line)=true
 trees:Qo cpos (M3 [e,f] X.env)=[(false,eval e X.env),(false,eval f X.env)]
def KZ(H:Hp)(a:Addr):Prop:=(∃d,Rd H a (.dK d))\/∃d,Rd H a (.dT d)
theorem Ht (I:Inv X j p H s)(d:KZ H a):
  s.TypeIs (.ref a) "dict"/\(∀b,Value.ref a=.ref b->∃g,s.heap.get? b=some g/\g.dict=none)/\(a == Og)=false:=by
 rcases d with⟨kvs,e⟩|⟨kvs,e⟩
 .have(_,hd,t,_,l):=xy I.hok e;refine#[l.typeIs,λb q=>?_,hd]
  cases q
  have(g,_,_,o,m,_):=l;exact#[g,o,m.2.1]
 .have(_,hd,r,_,l):=xK I.hok e;refine#[l.typeIs,λb q=>?_,hd]
  cases q
  have(g,_,_,o,m,_):=l;exact#[g,o,m.2.1]
theorem Hu (B:A.units+1<Rm)(I:Inv X pins σ H s)(g:ni H a y o)(q:RelV y u)(t:RelV d r)(h:∀p s',Inv X pins σ H s'->RelV (o.getD d) p->Q p s'):
  u4 (L0 X.prog X.w) A (call (.builtin "dict.get") [.ref a,u,r]) Q E s:=by
 rcases g with⟨kvs,k,e,ey,l⟩|⟨kvs,k,b,e,ey,eb,l⟩
 .subst ey;have(z,hd,C,j,m):=xy I.hok e;refine call_meetsIn Q4 m.typeIs Tn (SR _ _ _) (meets_dict_get_default (dc X.prog X.w) a (uR q) hd r) #[_,m.mapOf,h _ _ (I.tok _) ?_];rw[l];exact(j.val k).getD t
 .subst ey
  cases(show u=Value.ref b from q)
  have(z,hd,v,j,m):=xK I.hok e;refine call_meetsIn Q4 m.typeIs Tn (SR _ _ _) (meetsH_dict_get_default (SK (dc X.prog X.w)) a b hd r) #[Sa B,k,v,vM I.hok eb,m,h _ _ (I.tok _) ?_];rw[l];exact(j.val k).getD t
def Hv(l ty j:TE):TE:=λd H Q=>l d H λx g=>∃a,x=.ref a/\KZ g a/\ty d g λy m=>j d m λz e=>∃o,ni e a y o/\Q (o.getD z) e
theorem xO {o e f:Expr}{apos cpos:Pos}{td ty tx:TE}(G:X.A.units+1<Rm)(J:PE X o td)(M:PE X e ty)(L:PE X f tx)(m:M2 X o "get" apos e f cpos):PE X (.Call (.Attribute o "get" apos) [e,f] [] cpos) (Hv td ty tx):=by
 intro j s l H Q I h;refine wpAny_Call_method m.base m.few m.line PySem.F.plainAttrs_dict Q4 PySem.F.type_dict_get (dw (J j s l H _ I h) λu v ⟨x,T,q,C,a,ex,d,q1⟩=>?_);subst ex;obtain rfl:u=Value.ref a:=C;have(r,t2,_):=Ht q d;refine#[r,t2,?_];rw[m.trees]
 refine QT rfl (TX (PL (dw (M j v l T _ q q1) λZ t ⟨y,S,P,B,E⟩ =>
  PL (dw (L j t l S _ P E) λfv W ⟨z,R,O,w,Y,g,D⟩=>QN ?_))))
 exact Hu G O g B w λU V N p=>#[_,R,N,p,D]
end L2
set_option maxHeartbeats 4000000
namespace L2
open PySem
inductive T where
 |s (x:Str)|i (n:Int)|n|t (xs:List T)
theorem T.induct {P:T->Prop}(hs:∀x,P (.s x))(hi:∀n,P (.i n))(hn:P .n)(ht:∀xs,(∀x∈xs,P x)->P (.t xs))(a:T):P a :=
 T.rec (motive_1:=P) (motive_2:=λxs=>∀x∈xs,P x) hs hi hn ht (λ_ h=>nomatch h) (λ_ _ g e y d=>by
  cases d with
  |head=>exact g
  |tail _ h=>exact e y h) a
mutual
noncomputable def T.dep:T->Nat
 |.t xs=>T.oh xs+1
 |_=>0
noncomputable def T.oh:List T->Nat
 | []=>0
 |x::r=>max x.dep (T.oh r)
end
theorem T.CN (h:x∈xs):x.dep<=T.oh xs:=by
 induction xs with
 |nil=>cases h
 |cons y r ih =>
  unfold T.oh
  cases h with
  |head=>exact Nat.le_max_left _ _
  |tail _ h=>exact FA (ih h) (Nat.le_max_right _ _)
mutual
noncomputable def T.eqB:T->T->Bool
 |.s x,.s y=>x == y
 |.i m,.i k=>m == k
 |.n,.n=>true
 |.t xs,.t ys=>T.rf xs ys
 |_,_=>false
noncomputable def T.rf:List T->List T->Bool
 | [],[]=>true
 |x::r,y::q=>x.eqB y&&T.rf r q
 |_,_=>false
end
theorem T.CO (h:∀x∈xs,∀y,T.eqB x y=true↔x=y):∀ys,T.rf xs ys=true↔xs=ys:=by
 induction xs with
 |nil=>intro ys;cases ys<;>simp[T.rf]
 |cons x r ih =>
  intro ys
  cases ys with
  |nil=>simp[T.rf]
  |cons y q =>
   unfold T.rf;rw[Nr,h x (.head _) y,ih (λz d=>h z (.tail _ d)) q,List.cons.injEq]
theorem T.eqB_iff (a:T):∀b,T.eqB a b=true↔a=b:=by
 induction a using T.induct with
 |hs x=>intro b;cases b<;>simp[T.eqB]
 |hi x=>intro b;cases b<;>simp[T.eqB]
 |hn=>intro b;cases b<;>simp[T.eqB]
 |ht xs ih =>
  intro b
  cases b with
  |t ys=>unfold T.eqB;rw[T.CO ih ys,T.t.injEq]
  |_=>simp[T.eqB]
theorem T.CP (a:T):T.eqB a a=true:=(T.eqB_iff a a).mpr rfl
noncomputable instance:DecidableEq T:=λa b=>if h:T.eqB a b=true then .isTrue ((T.eqB_iff a b).mp h)else .isFalse λz=>h ((T.eqB_iff a b).mpr z)
theorem T.Aq (a b:T):T.eqB a b=decide (a=b):=by rw[Qz,decide_eq_true_iff,T.eqB_iff]
theorem T.oQ :∀(xs ys:List T),T.rf xs ys=((Nj (min xs.length ys.length)).all (λj=>T.eqB (xs.getD j .n) (ys.getD j .n))&&xs.length == ys.length)
 | [],[]=>rfl
 | [],y::q=>by simp[T.rf]
 |x::r,[]=>by simp[T.rf]
 |x::r,y::q=>by
  unfold T.rf;rw[T.oQ r q,MW,MW,Nat.succ_min_succ,List.range_succ_eq_map,Rg,List.all_map];have e:(r.length+1 == q.length+1)=(r.length == q.length):=by simp
  rw[e,Bool.and_assoc];rfl
end L2
namespace L2
open PySem
inductive Hd where
 |num (n:Int)|name (x:Str)|gap (n:Int)|op (s:Str)|row|more|first|others|long|tag (t:Str)|call (f:Str)|mat (arms:List (Str×List Str))|ife|lt (x:Str)|fold (x y:Str)
inductive Tm where
 |mk (h:Hd) (ks:List Tm)
noncomputable def Tm.hd:Tm->Hd|.mk h _=>h
noncomputable def Tm.ks:Tm->List Tm|.mk _ ks=>ks
theorem Tm.induct {P:Tm->Prop}(hm:∀h ks,(∀k∈ks,P k)->P (.mk h ks))(a:Tm):P a :=
 Tm.rec (motive_1:=P) (motive_2:=λd=>∀x∈d,P x) hm (λ_ h=>nomatch h) (λ_ _ j g y e=>by
  cases e with
  |head=>exact j
  |tail _ h=>exact g y h) a
noncomputable def fg:Hd->Nat->Bool
 |.num _,n=>n == 0
 |.name _,n=>n == 0
 |.gap _,n=>n == 0
 |.op _,n=>n == 2
 |.row,_=>true
 |.more,n=>n == 2
 |.first,n=>n == 1
 |.others,n=>n == 1
 |.long,n=>n == 1
 |.tag _,_=>true
 |.call _,_=>true
 |.mat arms,n=>n == arms.length+1
 |.ife,n=>n == 3
 |.lt _,n=>n == 2
 |.fold _ _,n=>n == 3
inductive Wf:Tm->Prop
 |mk {h:Hd}{ks:List Tm}:fg h ks.length=true->(∀k∈ks,Wf k)->Wf (.mk h ks)
noncomputable def bnd:Hd->Nat->List (List Str)
 |.mat arms,_=>[]::arms.map (·.2)
 |.lt x,_=>[[],[x]]
 |.fold x y,_=>[[],[],[x,y]]
 |_,n=>MU n []
noncomputable def nj(a:Str×List Str)(k:T):T:=.t [.s a.1,.t (a.2.map .s),k]
noncomputable def oS:Hd->List T->T
 |.num n,_=>.t [.s "num",.i n]
 |.name x,_=>.t [.s "name",.s x]
 |.gap n,_=>.t [.s "gap",.i n]
 |.op s,ks=>.t (.s "op"::.s s::ks)
 |.row,ks=>.t [.s "row",.t ks]
 |.more,ks=>.t (.s "more"::ks)
 |.first,ks=>.t (.s "first"::ks)
 |.others,ks=>.t (.s "others"::ks)
 |.long,ks=>.t (.s "long"::ks)
 |.tag t,ks=>.t [.s "tag",.s t,.t ks]
 |.call f,ks=>.t [.s "call",.s f,.t ks]
 |.mat arms,ks=>.t [.s "match",ks.headD .n,.t (NB nj arms ks.tail)]
 |.ife,ks=>.t (.s "if"::ks)
 |.lt x,ks=>.t (.s "let"::.s x::ks)
 |.fold x y,ks=>.t [.s "fold",ks.getD 0 .n,.s x,.s y,ks.getD 1 .n,ks.getD 2 .n]
mutual
noncomputable def enc:Tm->T
 |.mk h ks=>oS h (EM ks)
noncomputable def EM:List Tm->List T
 | []=>[]
 |k::r=>enc k::EM r
end
theorem xP :∀ks:List Tm,EM ks=ks.map enc
 | []=>rfl
 |k::r=>by unfold EM;rw[xP r];rfl
theorem cY (h:Hd)(ks:List Tm):enc (.mk h ks)=oS h (ks.map enc):=by unfold enc;rw[xP]
mutual
noncomputable def Tm.size:Tm->Nat
 |.mk _ ks=>Tm.sizes ks+1
noncomputable def Tm.sizes:List Tm->Nat
 | []=>0
 |k::r=>k.size+Tm.sizes r
end
mutual
noncomputable def Tm.depth:Tm->Nat
 |.mk _ []=>0
 |.mk _ (k::r)=>Tm.zk (k::r)+1
noncomputable def Tm.zk:List Tm->Nat
 | []=>0
 |k::r=>max k.depth (Tm.zk r)
end
mutual
noncomputable def Tm.parts:Tm->List Tm
 |.mk h ks=>.mk h ks::Tm.eJ ks
noncomputable def Tm.eJ:List Tm->List Tm
 | []=>[]
 |k::r=>k.parts++Tm.eJ r
end
theorem Tm.ie (k:Tm)(r:List Tm):Tm.eJ (k::r)=k.parts++Tm.eJ r:=by rw[Tm.eJ]
theorem Tm.b7 (k:Tm)(r:List Tm):Tm.sizes (k::r)=k.size+Tm.sizes r:=by rw[Tm.sizes]
theorem Tm.ju (h:Hd)(ks:List Tm):(Tm.mk h ks).size=Tm.sizes ks+1:=by rw[Tm.size]
theorem Tm.jK (h:Hd)(ks:List Tm):(Tm.mk h ks).parts=.mk h ks::Tm.eJ ks:=by unfold Tm.parts;rfl
theorem Tm.oB :∀(a b:List Tm),Tm.eJ (a++b)=Tm.eJ a++Tm.eJ b
 | [],b=>by simp[Tm.eJ]
 |k::r,b=>by rw[Qi,Tm.ie,Tm.ie,Tm.oB r b,M6]
theorem Tm.fR :∀(a b:List Tm),Tm.sizes (a++b)=Tm.sizes a+Tm.sizes b
 | [],b=>by simp[Tm.sizes]
 |k::r,b=>by rw[Qi,Tm.b7,Tm.b7,Tm.fR r b];omega
theorem Tm.kB :∀(a:List Tm),Tm.sizes a.reverse=Tm.sizes a
 | []=>rfl
 |k::r=>by rw[P5,Tm.fR,Tm.kB r];simp only[Tm.sizes];omega
theorem Tm.size_pos (a:Tm):0<a.size:=by cases a;unfold Tm.size;omega
theorem Tm.cX (a:Tm):a.parts.length=a.size:=by
 induction a using Tm.induct with
 |hm h ks ih =>
  rw[Tm.jK,MW];unfold Tm.size
  congr 1
  induction ks with
  |nil=>rfl
  |cons k r ih2 =>
   unfold Tm.eJ Tm.sizes;rw[j3,ih k (.head _),ih2 λx d=>ih x (.tail _ d)]
theorem Tm.xQ {ks:List Tm}(a:∀k∈ks,k.depth<=n):(Tm.mk h ks).depth<=n+1:=by
 cases ks with
 |nil=>unfold Tm.depth;omega
 |cons y r =>
  unfold Tm.depth;refine SQ ?_;generalize(y::r)=l at a
  induction l with
  |nil=>exact MP _
  |cons z q ih=>unfold Tm.zk;exact Nat.max_le.mpr #[a z (.head _),ih λk d=>a k (.tail _ d)]
end L2
namespace L2
open PySem PySem.Spec PyProof.Rows
noncomputable def cS(env:Env):List (Str×P8)->List (Str×Addr)->List (Str×Addr)
 | [],cs=>cs
 |(n,k)::r,cs=>cS env r (if k == .free then(n,(env.cells.lookup n).getD 0)::cs else cs)
theorem oE (h:∀x∈d.names,x.2=.free->∃c,env.cells.lookup x.1=some c):closureFor d env=pure (cS env d.names []):=by
 have go:∀(l:List (Str×P8)) (j:List (Str×Addr)),(∀x∈l,x.2=.free->∃c,env.cells.lookup x.1=some c) ->
   (forIn l j λx r=>if(x.2 == NameKind.free)=true then do let a ←cellOf env x.1;pure (ForInStep.yield ((x.1,a)::r))else pure (ForInStep.yield r):Sem (List (Str×Addr)))=pure (cS env l j):=by
  intro l
  induction l with
  |nil=>intro j _;rfl
  |cons x r ih =>
   intro j o;have(n,k):=x;rw[Pa]
   by_cases p:k=.free
   .subst p;have(c,q):=o (n,.free) Oh rfl;have e:cellOf env n=pure c:=by unfold cellOf;rw[show env.cells.lookup n=some c from q]
    simp only[beq_self_eq_true,if_true,e,pure_bind];rw[ih _ λy m=>o y (Nz _ m)];unfold cS;rw[show env.cells.lookup n=some c from q]
    cases r<;>rfl
   .have t:(k == NameKind.free)=false:=by simpa using p
    simp only[t,NC,if_false,pure_bind];rw[ih _ λy m=>o y (Nz _ m)]
    conv=>rhs;unfold cS
    simp only[t,NC,if_false]
 simp only[closureFor];have g:=go d.names [] h;simp only[g];rfl
theorem jv :∀(l:List (Str×P8)) (m:List (Str×Addr)),(∀x∈l,x.2=.free->∃c,env.cells.lookup x.1=some c)->(∀y c,m.lookup y=some c->env.cells.lookup y=some c) ->
  ∀y c,(cS env l m).lookup y=some c->env.cells.lookup y=some c
 | [],_,_,hc=>hc
 |(n,k)::r,m,hl,hc=>by
  refine jv r _ (λx p=>hl x (Nz _ p)) λy c e=>?_
  by_cases g:(k == NameKind.free)=true
  .rw[if_pos g]at e;rw[M4]at e
   by_cases o:y=n
   .subst o;simp only[beq_self_eq_true]at e;have(t,j):=hl (y,k) Oh (by simpa using g);have d:env.cells.lookup y=some t:=j;rw[d]at e|-;exact e
   .have q:(y == n)=false:=beq_eq_false_iff_ne.mpr o;rw[q]at e;exact hc y c e
  .rw[if_neg g]at e;exact hc y c e
theorem oF :∀(l:List (Str×P8)) (d:List (Str×Addr)) (y:Str),(∃c,d.lookup y=some c)->∃c,(cS env l d).lookup y=some c
 | [],_,_,h=>h
 |(n,k)::r,d,y,h=>by
  refine oF r _ y ?_
  by_cases e:(k == NameKind.free)=true
  .rw[if_pos e,M4]
   cases hb:(y == n)with
   |true=>exact#[_,rfl]
   |false=>exact h
  .rw[if_neg e];exact h
theorem jx :∀(l:List (Str×P8)) (d:List (Str×Addr)) (y:Str),(y,NameKind.free)∈l->∃c,(cS env l d).lookup y=some c
 | [],_,_,h=>nomatch h
 |(n,k)::r,d,y,h=>by
  rcases vy.mp h with e|h
  .have j:y=n:=congrArg Prod.fst e;have g:NameKind.free=k:=congrArg Prod.snd e;subst j;subst g;refine oF r _ y #[(env.cells.lookup y).getD 0,?_];rw[if_pos (by rfl),M4,beq_self_eq_true]
  .exact jx r _ y h
theorem kD {env:Env}:∀{names:List (Str×P8)}{x:Str}{e:P8},(names.map λ(n,k)=>if(k == NameKind.free&&env.scope.kind == .function&&env.kindOf n == some .cell)then(n,NameKind.cell)else(n,k)).lookup x=some e ->
  names.lookup x=some e\/(e=.cell/\names.lookup x=some .free)
 | [],_,_,h=>by simp at h
 |(n,k)::r,x,e,h=>by
  have g:=@kD env r x e;change Rn x ((if(k == NameKind.free&&env.scope.kind == .function&&env.kindOf n == some .cell)=true then(n,NameKind.cell)else(n,k))::_)=_ at h
  cases hx:x == n with
  |true =>
   by_cases d:(k == NameKind.free&&env.scope.kind == .function&&env.kindOf n == some .cell)=true
   .rw[if_pos d]at h;simp only[M4,hx]at h
    cases h
    have j:k=.free:=by simp at d;exact d.1.1
    subst j;exact .inr #[rfl,by simp only[M4,hx]]
   .rw[if_neg d]at h;simp only[M4,hx]at h
    cases h
    exact .inl (by simp only[M4,hx])
  |false =>
   by_cases d:(k == NameKind.free&&env.scope.kind == .function&&env.kindOf n == some .cell)=true
   .rw[if_pos d]at h;simp only[M4,hx]at h|-;exact g h
   .rw[if_neg d]at h;simp only[M4,hx]at h|-;exact g h
theorem pV {env:Env}:∀{names:List (Str×P8)}{x:Str},names.lookup x=some .free ->
  (names.map λ(n,k)=>if(k == NameKind.free&&env.scope.kind == .function&&env.kindOf n == some .cell)then(n,NameKind.cell)else(n,k)).lookup x=some .cell \/
  (names.map λ(n,k)=>if(k == NameKind.free&&env.scope.kind == .function&&env.kindOf n == some .cell)then(n,NameKind.cell)else(n,k)).lookup x=some .free
 | [],_,h=>by simp at h
 |(n,k)::r,x,h=>by
  have e:=@pV env r x;show Rn x ((if(k == NameKind.free&&env.scope.kind == .function&&env.kindOf n == some .cell)=true then(n,NameKind.cell)else(n,k))::_)=_\/Rn x ((if(k == NameKind.free&&env.scope.kind == .function&&env.kindOf n == some .cell)=true then(n,NameKind.cell)else(n,k))::_)=_
  cases hx:x == n with
  |true =>
   simp only[M4,hx]at h
   cases h
   by_cases d:(NameKind.free == NameKind.free&&env.scope.kind == .function&&env.kindOf n == some .cell)=true
   .rw[if_pos d];exact .inl (by simp only[M4,hx])
   .rw[if_neg d];exact .inr (by simp only[M4,hx])
  |false =>
   simp only[M4,hx]at h
   by_cases d:(k == NameKind.free&&env.scope.kind == .function&&env.kindOf n == some .cell)=true
   .rw[if_pos d];simp only[M4,hx];exact e h
   .rw[if_neg d];simp only[M4,hx];exact e h
theorem nk (I:Nat->eT->Prop)(turn:∀n s,I n s->u4 (L0 prog w) A (Qp it) (λr l=>match r with
   |none=>R (.ok .next) l
   |some v=>u4 (L0 prog w) A (Ry d it v) (λ_ j=>u4 (L0 prog w) A (Uw d env v) (λ_ t =>
     u4 (L0 prog w) A (forIn B true λc r=>if r=true then do let ok ←isTrue c env (eval c env);pure (ForInStep.yield ok)else pure (ForInStep.yield r)) (λok g =>
      if ok=true then u4 (L0 prog w) A (eval D env) (λx q =>
       u4 (L0 prog w) A (call (.builtin "list.append") [acc,x]) (λ_ p=>∃m,m<n/\I m p) E q) E g
      else ∃m,m<n/\I m g) E t) E j) E l) E s)(hE:∀e s',E e s'->notedBy (L0 prog w) A env (λe s'=>R (.error e) s') e s')(n:Nat)(h:I n s):
  Qg (L0 prog w) A (.compLoop (.ListComp D [#[d,u,B,0]] o G) 0 it acc env) R s:=by
 refine codeAny_loop rfl I (λn s M=>?_) n h;show u4 _ A ((compTurn (.ListComp D [#[d,u,B,0]] o G) 0 it acc env).onRaise (λx=>do U3 x env;theTreesLotGoes x)) _ _ s;refine wpAny_noted ?_;rw[compTurn_list];refine bB (PZ (bB (Nk (turn n s M) (λr l z=>?_) hE)))
 cases r with
 |none=>exact lj z
 |some v =>
  refine bB (Nk z (λ_ j C=>?_) hE);refine bB (Nk C (λ_ t L=>bB (Nk L (λok g y=>?_) hE)) hE)
  cases ok with
  |false=>exact lj #[rfl,y]
  |true =>
   exact bB (bB (Nk y (λx q J=>bB (Nk J (λ_ p H=>lj (lj #[rfl,H])) hE)) hE))
noncomputable def cR(X:Cx)(d:Ov)(l:List Str)(j:List Addr)(C:Addr)(e:eT)(g:Hp):Cx where
 prog:=X.prog
 w:=X.w
 K:=X.K
 mg:=X.mg
 base:=X.base
 A:=X.A
 N:=l
 s₀:=e
 H₀:=g
 env:=compEnvC d (cS X.env d.names []) C X.env
 outer:=X.stack
 stack:=X.stack
 ex:=j
 fn:=λ_=>false
 calm:=X.calm
 pn:=[]
 xe:=λ_ _=>False
def zl(X:Cx)(g:List Expr)(t:TT):Prop :=
 ∀(d:List (Addr×Obj)) (s:eT) (e:St) (H:Hp) (Q:Bool->Hp->Prop),Inv X d e H s->t e H Q ->
  u4 (L0 X.prog X.w) X.A (forIn g true λc r=>if r=true then do let ok ←isTrue c X.env (eval c X.env);pure (ForInStep.yield ok)else pure (ForInStep.yield r)) (TP X d e Q) X.xe s
def uT:TT:=λ_ H Q=>Q true H
theorem eN :zl X [] uT:=λd s e H Q I h=>by
 rw[Pz];exact lj #[H,I,h]
theorem fE {c:Expr}{t:TT}(g:PT X c t):zl X [c] t:=λd s e H Q I h=>by
 simp only[Pa,Pz,if_true];exact bB (bB (Nk (g d s e H Q I h) (λb l j=>lj (lj j)) λ_ _ x=>x))
noncomputable def lU(own:Nat)(fr:List Nat)(d:St):St:=MU own none++fr.map λj=>(d[j]?).join
def j7(J:It)(g:TG)(w:TT)(y:TE)(Q:VK)(q:St)(A:Hp):Prop:=∃W:Nat->Nat->St->List V->Hp->Prop,(∃m,W 0 m q [] A)/\∀i m j e H,W i m j e H ->
 (J.stop i H/\e.length<=mC/\∀p,H p=none->Q (.ref p) (upd H p (.lst e))) \/
 (J.go i H/\e.length<mC/\∃N:St->List V->Hp->Prop,(∀d l o,N d l o->∃r,r < m/\W (i+1) r d l o)/\∀x u,J.yld i H x u->g x j u λd o=>w d o λok t =>
  if ok=true then y d t λv z=>N d (e++[v]) z else N d e t)
def xR(own:Nat)(fr:List Nat)(e:TI)(g:TG)(j:TT)(l:TE):TE:=λd H Q=>e d H λJ m=>j7 J g j l Q (lU own fr d) m
theorem CQ {X:Cx}(r:σ.length=X.N.length){i:Nat}(g:(own++fr.map λj=>X.N.getD j MY)[i]?=some x)(d:(lU own.length fr σ)[i]?=some (some v)):
  ∃j∈fr,X.N[j]?=some x/\X.N.getD j MY=x/\σ[j]?=some (some v):=by
 unfold lU at d
 by_cases m:i<own.length
 .rw[Ng (by simpa using m),Py,if_pos m]at d
  cases d
 .rw[M7 (by simpa using m),O0,rj]at d;rw[M7 (),rj]at g
  cases e:fr[i-own.length]? with
  |none=>rw[e]at d;cases d
  |some j =>
   rw[e]at g d;simp only[QA,QV]at g d
   have p:σ[j]?=some (some v):=by
    cases q:σ[j]? with
    |none=>rw[q]at d;cases d
    |some o=>rw[q]at d;exact congrArg some d
   have l:j<X.N.length:=by rw[<-r];exact(ko.mp p).1
   refine#[j,t9 e,?_,g,p];rw[<-g,OX,my l];rfl
theorem zm (I:Inv X pins σ H s)(hkind:d.kind=.function)(hcell:∀x∈d.names,x.2≠.cell)(hfr:∀x∈d.names,x.2=.free->X.env.scope.names.lookup x.1=some .cell\/X.env.scope.names.lookup x.1=some .free)(hin:∀j∈fr,d.names.lookup (X.N.getD j MY)=some .free)(hC:s.heap.objs.size<=C)(hf:∀b∈G,qZ X pins H b)(hfo:∀b∈G,b<s.heap.objs.size)(old:∀b o,s.heap.get? b=some o->h₁.get? b=some o)(hn:h₁.Ns C m):
  Inv (cR X d (own++fr.map λj=>X.N.getD j MY) G C s H) [] (lU own.length fr σ) H {s with heap:=h₁,toks:=tk}:=by
 have w:∀x∈d.names,x.2=.free->∃c,X.env.cells.lookup x.1=some c:=λx B e=>I.ok.has x.1 (hfr x B e);have sub:∀y c,(cS X.env d.names []).lookup y=some c->X.env.cells.lookup y=some c:=jv _ _ w (by intro y c e;simp at e);have g:∀y,d.names.lookup y=some .free->∃c,(cS X.env d.names []).lookup y=some c:=λy e=>jx _ _ _ (Nh e)
 refine#[#[I.ok.mod,?_,I.ok.glob,I.ok.blt,hC,λx y c Q P=>I.ok.inj x y c (sub x c Q) (sub y c P),λx B=>?_,(λx c B=>nomatch B),I.ok.hd,I.ok.frames,.inl rfl,λb A=>?_,I.bs,FA I.ok.bsz I.sz,λb o e A=>?_,λb A z=>?_,I.stack,I.rG],
  rfl,I.bare,Un.kept old,#[m,hn,λi x v Q P h3=>?_],λx c e=>?_,I.hok.fresh hC,λx c e=>I.freeC x c (sub x c e),λp U=>absurd (show p∈([]:List (Addr×Obj))from U) (by simp),I.hok.kept old,?_]
 .exact hkind
 .have L:(relabel d X.env).names.lookup x=some .cell\/(relabel d X.env).names.lookup x=some .free:=B
  have J:d.names.lookup x=some .free:=by
   rcases L with e|e
   .rcases kD e with e|⟨_,e⟩
    .exact absurd rfl (hcell _ (Nh e))
    .exact e
   .rcases kD e with e|⟨z,_⟩
    .exact e
    .cases z
  exact g x J
 .refine#[MQ (zo (hfo b A) hC),λx c e=>(hf b A).2.2.2.2.1 x c (sub x c e)]
 .rcases(hf b A).2.2.2.1 with z|z
  .exact I.ok.noex b o e z
  .exact absurd (zo (ri e) (FA I.ok.bsz z)) (Np _)
 .have D:b∈G:=A;have T:b∈frs X.stack:=z;rcases vy.mp (I.qx b T)with e|e
  .exact(hf b D).2.1 e
  .exact(hf b D).2.2.1 e
 .have(j,W,e1,Z,Y):=CQ (own:=own) I.len Q P;have t:d.names.lookup x=some .free:=by rw[<-Z];exact hin j W
  have S:=hfr _ (Nh t) rfl;have(m0,V,O):=I.loc;have(u,r,l):=O j x v e1 Y (.inr S);refine#[u,r,?_];rcases l with⟨k,_⟩|⟨_,c,ec,z⟩
  .have R:X.env.scope.names.lookup x=some .local:=k;rcases S with q|q<;>(rw[show X.env.scope.names.lookup x=_ from q]at R;cases R)
  .have(c',E):=g x t;have:=sub x c' E;rw[ec]at this
   cases this
   have(o,M,hd):=z;exact .inr #[pV t,c,E,o,old c o M,hd]
 .have(v,o,M,hd):=I.cell x c (sub x c e);exact#[v,o,old c o M,hd]
 .show(lU own.length fr σ).length=(own++fr.map λj=>X.N.getD j MY).length;simp[lU]
theorem sQ (I:Inv X pins σ H s)(B:∀b∈A,qZ X pins H b)(I':Inv (cR X j Q A C s H) l σ' r s')(hC:s.heap.objs.size<=C)(hD:s.heap.objs.size<=D)(hDC:D≠C)(hDn:r D=none)(pl:s'.heap.PlainList D ys)(rv:Vals t ys.toList)(hz:t.length<=mC)(hs:Pc C s'.heap h''):
  Inv X pins σ (upd r D (.lst t)) {s' with heap:=h''}:=by
 have un:Un (frs X.stack) A H r s.heap s'.heap:=I'.base;have y:r C=none:=I'.free;have at':∀b,b≠C->h''.get? b=s'.heap.get? b:=λb g=>hs.2 b g;have m:∀b o,s.heap.get? b=some o->b≠C:=λb o e=>MQ (zo (ri e) hC);have G:∀b o,s.heap.get? b=some o->b≠D:=λb o e=>MQ (zo (ri e) hD);have d:∀b u,H b=some u->b≠D:=λb u e=>MQ (zo (I.hok.lt e) hD)
 have E:Un (frs X.stack) A H (upd r D (.lst t)) s.heap h'':=by
  refine#[λb o e n L p=>?_,λb o e n L p=>?_,λb o e n p=>?_,λb o e p=>?_,λb M e=>?_,λb o u e=>?_,λb N e=>?_]
  .rw[at' b (m b o e)];exact un.keep b o e n L p
  .rw[at' b (m b o e)];exact un.slot b o e n L p
  .rw[ay (G b o e)];exact un.free b o e n p
  .rw[at' b (m b o e)];exact un.there b o e p
  .rw[ay (d b _ e)];exact un.tups b M e
  .rw[ay (d b _ e)];exact un.frzs b o u e
  .rw[ay (d b _ e)];exact un.tbls b N e
 have J:mU X.prog X.w (upd r D (.lst t)) h'':=λb u e=>by
  by_cases g:b=D
  .subst g;rw[af]at e
   cases e
   have(n,O):=pl;refine#[hz,ys.toList,n,rv,?_];rw[at' b hDC]
   simpa using O
  .rw[ay g]at e;refine(I'.hok b u e).stay (λc v P q=>?_) (λc q=>?_) λc M q=>?_
   .rw[at' c ?_];exact q;rintro rfl;rcases P with z|z
    .rw[<-z,y]at e;cases e
    .rw[y]at z;cases z
   .rw[ay (λz=>by rw[z,hDn]at q;cases q)];exact q
   .rw[ay (λz=>by rw[z,hDn]at q;cases q)];exact q
 exact I.I8 (s':={s' with heap:=h''}) (ch:=A) I'.os E J I'.bare λb g=>#[(B b g).2.2.2.1,(B b g).2.1,(B b g).2.2.2.2.1,(B b g).2.2.2.2.2]
theorem xS (own:List Str)(fr:List Nat)(hc:X.calm=true)(hkind:l.kind=.function)(hcell:∀x∈l.names,x.2≠.cell)(hnames:∀x∈l.names,x.2=.local->l.names.lookup x.1=some .local)(hfr:∀x∈l.names,x.2=.free->X.env.scope.names.lookup x.1=some .cell\/X.env.scope.names.lookup x.1=some .free)(hin:∀j∈fr,l.names.lookup (X.N.getD j MY)=some .free)(hi:PI X tg D wi)(hg:∀t C s H,PG (cR X l (own++fr.map λj=>X.N.getD j MY) t C s H) tg g)(ht:∀t C s H,zl (cR X l (own++fr.map λj=>X.N.getD j MY) t C s H) aa tt)(he:∀t C s H,PE (cR X l (own++fr.map λj=>X.N.getD j MY) t C s H) an te)(hs:∀x,Pe D X.env x=pure x)(I:Inv X pins σ H s)(h:xR own.length fr wi g tt te σ H Q)(fin:∀{t:List Addr}{C:Addr}{m s4:eT}{M H3:Hp}{Y:St}{vs:List V}{ys:Array cB}{pn:Nat}{pl:List (Addr×Obj)},Inv X pins σ M m->(∀b∈t,qZ X pins M b)->Inv (cR X l (own++fr.map λj=>X.N.getD j MY) t C m M) pl Y H3 s4->m.heap.objs.size<=C->m.heap.objs.size≠C->H3 m.heap.objs.size=none->s4.heap.get? m.heap.objs.size=some {cls:=.type "list",data:=.seq ys pn}->Vals vs ys.toList->vs.length<=mC->Q (.ref m.heap.objs.size) (upd H3 m.heap.objs.size (.lst vs))->compPost (L0 X.prog X.w) X.A X.xe U R (.ref m.heap.objs.size) C (.ok .next) s4):
  u4 (L0 X.prog X.w) X.A (comprehension (.ListComp an [#[tg,D,aa,0]] l al) l X.env (firstIterPos [#[tg,D,aa,0]] al) (newList []) (firstAsync [#[tg,D,aa,0]]) (firstIter [#[tg,D,aa,0]] X.env) U) R X.xe s:=by
 have ae:∀x∈l.names,x.2=.free->∃c,X.env.cells.lookup x.1=some c:=λx hx e=>I.ok.has x.1 (hfr x hx e);refine wpAny_comprehension_free (use:=U) rfl hs (oE ae) hkind hnames ?_;refine dw (hi pins s σ H _ I h) λv s1 h1=>dw h1 λbg m h2=>?_;have(it,t,tn,J,M,e,I2,T,as,f2,W,(m0,w0),ah):=h2;subst e;have ax:∀b∈t,b<m.heap.objs.size:=λb L=>by have(o,e,_):=T.obj 0 _ as b L;exact ri e
 refine NX (wpAny_newFunctionEnv hcell (by intro y hy;simp at hy) (λO G B=>?_) hkind);dsimp only at G B|-;generalize hH2:m.heap.push {cls:=.type "list",dict:=none,data:=.seq ([]:List cB).toArray}=G2 at G B|-;have hC:G2.objs.size=m.heap.objs.size+1:=by rw[<-hH2,Ob]
 have ag:m.heap.objs.size≠G2.objs.size:=by rw[hC];exact MQ (SS _)
 have aj:m.heap.objs.size<=G2.objs.size:=by rw[hC];exact PJ _
 have av:∀b o,m.heap.get? b=some o->O.get? b=some o:=λb o e=>B.extBut b o (by rw[hC];exact MQ (UN (ri e))) (lu _ (hH2▸lu _ e));have az:O.PlainList m.heap.objs.size #[]:=#[_,B.extBut _ _ ag (lu _ (hH2▸zv _ rfl))]
 have I3:Inv (cR X l (own++fr.map λj=>X.N.getD j MY) t G2.objs.size m M) [] (lU own.length fr σ) M {m with heap:=O,toks:=m.toks+([]:List (Str×cB)).length} :=
  zm I2 hkind hcell hfr hin aj f2 ax av G
 have ac:tn 0 O:=T.keep 0 _ _ as λb _ o e=>av b o e;have a5:m.heap.objs.size∉t:=λhm=>Np _ (ax _ hm);have a0:M m.heap.objs.size=none:=I2.hok.fresh (mu _);have sub:∀y c,(cS X.env l.names []).lookup y=some c->X.env.cells.lookup y=some c:=jv _ _ ae (by intro y c e;simp at e)
 have ar:∀y c,(cS X.env l.names []).lookup y=some c->c≠m.heap.objs.size:=λy c e=>by
  have(_,o,ho,_):=I2.cell y c (sub y c e);exact MQ (ri ho)
 have be:m.heap.objs.size∉frs X.stack:=λz=>by
  rcases vy.mp (I2.qx _ z)with e|e
  .exact absurd I2.lt (by rw[<-e];exact Np _)
  .exact I2.Ex (mu _) e
 -- the iterator's records,in the block's context
 have ab:∀{H':Hp}{pl:List (Addr×Obj)},(∀b∈t,H' b=none)->(∀p∈pl,p.1=m.heap.objs.size)->∀b∈t,qZ (cR X l (own++fr.map λj=>X.N.getD j MY) t G2.objs.size m M) pl H' b:=λ{H' pl} hn hp b L=>by
  refine#[hn b L,(I3.ok.exf b L).1,I3.ok.exfs b L,.inl L,(I3.ok.exf b L).2,λp ba z=>?_];have aw:p∈pl:=by simpa[cR]using ba
  exact a5 (by rw[<-hp p aw,z];exact L)
 have au:∀{Z:St}{H':Hp}{s':eT}{ys:Array cB}{n:Nat},Inv (cR X l (own++fr.map λj=>X.N.getD j MY) t G2.objs.size m M) [] Z H' s'->H' m.heap.objs.size=none->s'.heap.get? m.heap.objs.size=some {cls:=.type "list",data:=.seq ys n} ->
   Inv (cR X l (own++fr.map λj=>X.N.getD j MY) t G2.objs.size m M) [(m.heap.objs.size,{cls:=.type "list",data:=.seq ys n})] Z H' s':=λ{Z H' s' ys n} J hn e=>J.iy λp hp=>by
  have e':p=(m.heap.objs.size,{cls:=.type "list",data:=.seq ys n}):=by simpa using hp
  subst e';exact#[e,hn,ag,be,λv z=>nomatch z]
 have ai:Qg (L0 X.prog X.w) X.A (.compLoop (.ListComp an [#[tg,D,aa,0]] l al) 0 (.ref it) (.ref m.heap.objs.size) (compEnvC l (cS X.env l.names []) G2.objs.size X.env))
   (compPost (L0 X.prog X.w) X.A X.xe U R (.ref m.heap.objs.size) G2.objs.size) {m with heap:=O,toks:=m.toks+([]:List (Str×cB)).length}:=by
  refine nk (E:=λ_ _=>False) (λn s'=>∃i Z H' vs ys,Inv (cR X l (own++fr.map λj=>X.N.getD j MY) t G2.objs.size m M) [] Z H' s'/\tn i s'.heap/\(∀b∈t,H' b=none)/\H' m.heap.objs.size=none/\s'.heap.PlainList m.heap.objs.size ys/\Vals vs ys.toList/\W i n Z vs H')
   ?_ (λ_ _ z=>z.elim) m0 #[0,_,M,[],#[],I3,ac,λb L=>(f2 b L).1,a0,az,.nil,w0]
  rintro n s3 ⟨i,Y,H3,vs,ys,J3,ac,a6,ap,⟨pn,a8⟩,rv,w3⟩;have a7:=au J3 ap a8
  have P:∀p∈[(m.heap.objs.size,({cls:=.type "list",data:=.seq ys pn}:Obj))],p.1=m.heap.objs.size:=λp hp=>by
   have e':p=(m.heap.objs.size,{cls:=.type "list",data:=.seq ys pn}):=by simpa using hp
   rw[e']
  rcases ah i n Y vs H3 w3 with⟨stop,hz,q⟩|⟨go,hz,N,hN,step⟩
  .refine dw (T.done (cR X l (own++fr.map λj=>X.N.getD j MY) t G2.objs.size m M) rfl rfl rfl hc i _ s3 Y H3 (λ_ _=>False) a7 (ab a6 P) ac stop) λr s4 ⟨hr,J4⟩=>?_;subst hr;exact fin I2 f2 J4 aj ag ap (J4.pin (m.heap.objs.size,{cls:=.type "list",data:=.seq ys pn}) (I0 _ (by simp))).1 rv hz (q _ ap)
  .refine dw (T.item (cR X l (own++fr.map λj=>X.N.getD j MY) t G2.objs.size m M) rfl rfl rfl hc i _ s3 Y H3 (λ_ _=>False) a7 (ab a6 P) ac go) λr s4 ⟨u,hr,h4⟩=>?_;subst hr;refine dw h4 λ_ s5 ⟨x,H5,J5,r5,y5,ak,bb⟩=>?_;have bc:=J5.pinned (ab bb P) (T.obj _ _ ak);refine dw (hg t _ m M _ s5 Y H5 x u _ bc r5 (step x H5 y5)) λ_ s6 ⟨S,H6,J6,q6⟩=>?_;refine dw (ht t _ m M _ s6 S H6 _ J6 q6) λok s7 ⟨H7,J7,q7⟩=>?_
   -- what stood pinned through the ah
   have after:∀{s8:eT}{H8:Hp},Inv (cR X l (own++fr.map λj=>X.N.getD j MY) t G2.objs.size m M) ([(m.heap.objs.size,({cls:=.type "list",data:=.seq ys pn}:Obj))]++su t s5.heap) S H8 s8 ->
     tn (i+1) s8.heap/\(∀b∈t,H8 b=none)/\H8 m.heap.objs.size=none/\s8.heap.get? m.heap.objs.size=some {cls:=.type "list",data:=.seq ys pn}:=λ{s8 H8} J8=>by
    refine#[T.keep _ _ _ ak λb L o e=>(J8.pin (b,o) (I0 _ (I0 _ (lR L e)))).1,λb L=>?_,?_,?_]
    .have(o,e,d):=T.obj _ _ ak b L;exact(J8.pin (b,o) (I0 _ (I0 _ (lR L e)))).2.1
    .exact(J8.pin (m.heap.objs.size,{cls:=.type "list",data:=.seq ys pn}) (I0 _ (M8 _ (by simp)))).2.1
    .exact(J8.pin (m.heap.objs.size,{cls:=.type "list",data:=.seq ys pn}) (I0 _ (M8 _ (by simp)))).1
   cases ok with
   |false =>
    have(m',hm,w7):=hN _ _ _ q7;have(a1,a2,a3,a4):=after J7;exact#[m',hm,i+1,S,H7,vs,ys,J7.iy (λp hp=>absurd hp (by simp)),a1,a2,a3,#[pn,a4],rv,w7]
   |true =>
    refine dw (he t _ m M _ s7 S H7 _ J7 q7) λy s8 ⟨v8,H8,J8,r8,n8⟩=>?_;have(m',hm,w8):=hN _ _ _ n8;have(a1,a2,a3,a4):=after J8;have J9:Inv (cR X l (own++fr.map λj=>X.N.getD j MY) t G2.objs.size m M) [] S H8 s8:=J8.iy (λp hp=>absurd hp (by simp))
    have a9:ys.size<=mC:=by
     have e1:vs.length=ys.toList.length:=rv.length;have e2:ys.toList.length=ys.size:=by simp
     omega
    refine wpAny_list_append_plain (hsz:=a9) #[pn,a4] λbf am ad=>?_
    refine#[m',hm,i+1,S,H8,vs++[v8],ys.push y,J9.turned (t':=s8.toks) (it:=m.heap.objs.size) (λb o L e=>by rw[ad.2 b L];exact e) a3 ag (.inr (mu _)) ar (λp hp=>absurd (show p∈([]:List (Addr×Obj))from hp) (by simp)),
     T.keep _ _ _ a1 λb L o e=>(ad.2 b (λz=>a5 (z▸L))).trans e,a2,a3,am,?_,w8]
    have:Vals (vs++[v8]) (ys.toList++[y]):=rv.append (.cons r8 .nil)
    simpa using this
 exact codeAny_compStart_list ai (T.self X.A 0 _ _ _ ac ai)
theorem EN (own:List Str)(fr:List Nat)(M:X.calm=true)(hkind:d.kind=.function)(hcell:∀x∈d.names,x.2≠.cell)(hnames:∀x∈d.names,x.2=.local->d.names.lookup x.1=some .local)(hfr:∀x∈d.names,x.2=.free->X.env.scope.names.lookup x.1=some .cell\/X.env.scope.names.lookup x.1=some .free)(hin:∀j∈fr,d.names.lookup (X.N.getD j MY)=some .free)(hi:PI X r e z)(hg:∀o C s H,PG (cR X d (own++fr.map λj=>X.N.getD j MY) o C s H) r g)(ht:∀o C s H,zl (cR X d (own++fr.map λj=>X.N.getD j MY) o C s H) l A)(he:∀o C s H,PE (cR X d (own++fr.map λj=>X.N.getD j MY) o C s H) p B)(hs:∀x,Pe e X.env x=pure x:=by intro _;rfl):PE X (.ListComp p [#[r,e,l,0]] d t) (xR own.length fr z g A B):=by
 intro D s S H Q I h;rw[eval_ListComp];refine xS own fr M hkind hcell hnames hfr hin hi hg ht he hs I h λR O E m w y P G L q=>?_;have(J,v,_):=id E.loc;exact#[J,v,λT u=>#[.ref _,_,sQ R O E m (mu _) w y #[_,P] G L u,rfl,q]]
noncomputable def vO(d e:Ov)(g:List Str)(fr:List Nat):Bool :=
 d.kind == .function&&d.names.all (λx=>x.2 != .cell&&(x.2 != .local||d.names.lookup x.1 == some .local)&&(x.2 != .free||e.names.lookup x.1 == some .cell||e.names.lookup x.1 == some .free)) &&
  fr.all (λj=>d.names.lookup (g.getD j MY) == some .free)
theorem gy {q l t:Expr}{m:List Expr}{d:Ov}{u:Pos}{y:TI}{g:TG}{A:TT}{B:TE}(D:Ov)(r own:List Str)(fr:List Nat)(J:X.calm=true)(w:X.env.scope=D)(L:X.N=r)(ok:vO d D r fr=true)(hi:PI X t l y)(hg:∀p C s H,PG (cR X d (own++fr.map λj=>r.getD j MY) p C s H) t g)(ht:∀p C s H,zl (cR X d (own++fr.map λj=>r.getD j MY) p C s H) m A)(he:∀p C s H,PE (cR X d (own++fr.map λj=>r.getD j MY) p C s H) q B)(hs:∀x,Pe l X.env x=pure x:=by intro _;rfl):PE X (.ListComp q [#[t,l,m,0]] d u) (xR own.length fr y g A B):=by
 subst w L;unfold vO at ok;simp only[Nr,Oz,bne_iff_ne,beq_iff_eq,RC]at ok;have((G,v),E):=ok;refine EN own fr J G (λx o=>(v x o).1.1) (λx o e=>?_) (λx o e=>?_) (λj I=>E j I) hi hg ht he hs
 .rcases(v x o).1.2 with z|z
  .exact absurd e z
  .exact z
 .rcases(v x o).2 with(z|z)|z
  .exact absurd e z
  .exact .inl z
  .exact .inr z
theorem rL (n:Nat)(o:Nat->St->List V->Hp->Prop)(E:o 0 σ0 [] H0)(t:∀i j d H,i<=n->o i j d H->d.length<=i)(hn:n<=mC)(z:∀i j d H,i<n->o i j d H->J.go i H)(w:∀j d H,o n j d H->J.stop n H)(hs:∀i j d H x u,i<n->o i j d H->J.yld i H x u->g x j u λl B=>tt l B λok A=>if ok=true then te l A λv G=>o (i+1) l (d++[v]) G else o (i+1) l d A)(hd:∀j d H,o n j d H->∀p,H p=none->Q (.ref p) (upd H p (.lst d))):j7 J g tt te Q σ0 H0:=by
 refine#[λi m j d H=>m=n-i/\i<=n/\o i j d H,#[n,by simp,MP _,E],?_];rintro i m j d H ⟨rfl,D,p⟩;have I:=t i j d H D p
 by_cases r:i<n
 .exact .inr #[z i j d H r p,(),o (i+1),λl C B q=>#[n - (i+1),(),rfl,r,q],λx u y=>hs i j d H x u r p y]
 .have e:i=n:=()
  subst e;exact .inl #[w j d H p,(),hd j d H p]
theorem lV {lo:Int}(l:Nat->St->List V->Hp->Prop)(r:l 0 σ0 [] H0)(m:∀i j d H,i<=n->l i j d H->d.length<=i)(hn:n<=mC)(hs:∀i j d H,i<n->l i j d H->g (.int (lo+i)) j H λe u=>tt e u λok o=>if ok=true then te e o λv t=>l (i+1) e (d++[v]) t else l (i+1) e d o)(hd:∀j d H,l n j d H->∀p,H p=none->Q (.ref p) (upd H p (.lst d))):j7 (G1 lo n) g tt te Q σ0 H0 :=
 rL n l r m hn (λ_ _ _ _ h _=>h) (λ_ _ _ _=>mu _) (λi j d H x w q p y=>by have(rfl,rfl):=y;exact hs i j d _ q p) hd
theorem fS {K:bA}(l:Nat->St->List V->Hp->Prop)(t:l 0 σ0 [] H0)(m:∀i e d H,i<=xs.length->l i e d H->d.length<=i)(hn:xs.length<=mC)(q:∀i e d H,i<=xs.length->l i e d H->bu K H a xs)(hs:∀i x e d H,xs[i]?=some x->l i e d H->g x e H λj w=>tt j w λok r=>if ok=true then te j r λv u=>l (i+1) j (d++[v]) u else l (i+1) j d r)(hd:∀e d H,l xs.length e d H->∀p,H p=none->Q (.ref p) (upd H p (.lst d))):j7 (EA K a) g tt te Q σ0 H0:=by
 refine rL xs.length l t m hn (λi e d H o p=>#[xs,xs[i],q i e d H (Ny o) p,by simp[o]]) (λe d H p=>#[xs,q _ e d H (mu _) p,mu _]) (λi e d H x z o p y=>?_) hd;have(rfl,y):=y;exact hs i x e d _ (y xs (q i e d _ (Ny o) p)) p
abbrev vP(h:Heap)(z TI TO T:Addr)(d:Bool):Prop :=
 h.get? z=some {cls:=.type "zip",dict:=none,data:=.fields #[NK T,.bool d,.bool false,.ref TI,.ref TO,],slots:=#[]}
theorem qC {TI TO T:Addr}(hz:vP s.heap z TI TO T d)(l:s.heap.get? T=some j)(hQ:∀h',vP h' z TI TO T true->Pc z s.heap h'->Q false {s with heap:=h'}):u4 (L0 prog w) A (MV (.ref z)) Q E s:=by
 unfold MV;refine bB (MX hz rfl (x:=NK T) rfl ?_);show u4 _ _ (loadIfAlive ((T:Int).toNat)>>=_) _ _ _;rw[NY];refine bB (PySem.W.kdx_alive l ?_);simp only[Option.isNone_some,NC,if_false];refine bB (MX hz rfl (x:=.bool d) rfl ?_)
 cases d with
 |true =>
  rw[if_neg (show ¬((Value.bool true != Value.bool true)=true)from FG)];exact lj (hQ s.heap hz (Pc.refl _ _))
 |false =>
  rw[if_pos (show(Value.bool false != Value.bool true)=true from rfl)];exact bB (OA hz (by simp) λh' e g=>lj (hQ h' e g))
theorem zp :Pq (.type "zip") "__len__"=pure none:=by rw[PV,Ow];kernel_rfl
theorem xT :Pq (.type "zip") "__length_hint__"=pure none:=by rw[PV,Ow];kernel_rfl
structure mL(h:Heap) (lo:Nat) (xs ys:Array cB) (as:List Nat):Prop where
 rise:as.Pairwise (· < ·)
 low:∀a∈as,lo<=a
 pairs:∀(j:Nat) (a:Nat),as[j]?=some a->∃x y,xs[j]?=some x/\ys[j]?=some y/\OB h a x y
theorem mL.lt {lo:Nat}(g:mL h lo xs ys as)(l:a∈as):a<h.objs.size:=by
 have(j,d):=List.mem_iff_getElem?.mp l;have(_,_,_,_,e):=g.pairs j a d;exact ri e
theorem mL.keep {lo:Nat}(g:mL h lo xs ys as)(k:∀c o,lo<=c->h.get? c=some o->h'.get? c=some o):mL h' lo xs ys as :=
 #[g.rise,g.low,λj a e=>by
  have(x,y,m,l,d):=g.pairs j a e;exact#[x,y,m,l,k a _ (g.low a (t9 e)) d]]
theorem mL.snoc {lo:Nat}(g:mL h lo xs ys as)(k:∀c o,lo<=c->h.get? c=some o->h'.get? c=some o)(hn:lo<=n)(d:h.objs.size<=n)(p:xs[as.length]?=some x)(m:ys[as.length]?=some y)(q:OB h' n x y):
  mL h' lo xs ys (as++[n]):=by
 have t:=g.keep k;refine#[List.pairwise_append.mpr #[g.rise,SV _ _,λa l b r=>?_],λa l=>?_,λj a e=>?_]
 .rw[pD.mp r];exact zo (g.lt l) d
 .rcases MH.mp l with h|h
  .exact g.low a h
  .rw[pD.mp h];exact hn
 .rcases Nat.lt_trichotomy j as.length with hj|hj|hj
  .rw[Ng hj]at e;exact t.pairs j a e
  .subst hj;rw[M7 (mu _),UO]at e
   cases e
   exact#[x,y,p,m,q]
  .rw[O1 (by rw[j3,Q3];omega)]at e;cases e
theorem Inv.grow (I:Inv X pins σ H s)(k:∀b u,s.heap.get? b=some u->h'.get? b=some u)(g:∀b,b<s.heap.objs.size->H' b=H b)(hnew:∀b o,s.heap.objs.size<=b->H' b=some o->dO X.prog X.w H' h' b o):Inv X pins σ H' {s with heap:=h',toks:=t'}:=by
 have d:∀b o,H b=some o->H' b=some o:=λb o e=>by rw[g b (I.hok.lt e)];exact e
 refine I.un (h':=h') #[λb o e _ _ _=>k b o e,λb o e _ _ _=>#[o.slots,k b o e],λb o e n _=>by rw[g b (ri e)];exact n,λb o e _=>#[o,k b o e],λb l e=>d b _ e,λb o u e=>d b _ e,λb m e=>#[#[],by rw[d b _ e];simp]] λb o e=>?_
 by_cases j:b<s.heap.objs.size
 .rw[g b j]at e;exact(I.hok b o e).stay (λc u _ q=>k c u q) (λc q=>d c _ q) λc l q=>d c _ q
 .exact hnew b o (Q8.mp j) e
noncomputable def lW:List Nat->List V->List V->Hp->Hp
 |a::as,x::xs,y::ys,H=>upd (lW as xs ys H) a (.tup [x,y])
 |_,_,_,H=>H
theorem xU :∀(as:List Nat) (xs ys:List V),b∉as->lW as xs ys H b=H b
 | [],_,_,_=>by unfold lW;rfl
 |a::as,[],_,_=>by unfold lW;rfl
 |a::as,_::_,[],_=>by unfold lW;rfl
 |a::as,x::xs,y::ys,h=>by
  unfold lW;rw[ay (λz=>h (by rw[z];exact Oh))];exact xU as xs ys λz=>h (Nz _ z)
theorem Ar :∀(as:List Nat) (xs ys:List V),as.Pairwise (· < ·)->∀(j:Nat) (u:Nat) (x y:V),as[j]?=some u->xs[j]?=some x->ys[j]?=some y->lW as xs ys H u=some (.tup [x,y])
 | [],_,_,_,j,u,x,y,h,_,_=>by simp at h
 |a::as,[],_,_,j,u,x,y,_,h,_=>by simp at h
 |a::as,_::_,[],_,j,u,x,y,_,_,h=>by simp at h
 |a::as,x0::xs,y0::ys,hp,0,u,x,y,h1,h2,h3=>by
  simp at h1 h2 h3;subst h1 h2 h3;unfold lW;exact af
 |a::as,x0::xs,y0::ys,hp,j+1,u,x,y,h1,h2,h3=>by
  simp at h1 h2 h3;have d:a<u:=(UB.mp hp).1 u (t9 h1);unfold lW;rw[ay (Oo d)];exact Ar as xs ys (UB.mp hp).2 j u x y h1 h2 h3
theorem uU :∀(as:List Nat) (xs ys:List V),lW as xs ys H b=some o->H b=some o\/∃(j:Nat) (x y:V),as[j]?=some b/\xs[j]?=some x/\ys[j]?=some y/\o=.tup [x,y]
 | [],_,_,h=>by unfold lW at h;exact .inl h
 |a::as,[],_,h=>by unfold lW at h;exact .inl h
 |a::as,_::_,[],h=>by unfold lW at h;exact .inl h
 |a::as,x::xs,y::ys,h=>by
  unfold lW at h
  by_cases d:b=a
  .subst d;rw[af]at h
   cases h
   exact .inr #[0,x,y,rfl,rfl,rfl,rfl]
  .rw[ay d]at h;rcases uU as xs ys h with e|⟨j,x',y',e1,e2,e3,e4⟩
   .exact .inl e
   .exact .inr #[j+1,x',y',by simpa using e1,by simpa using e2,by simpa using e3,e4]
theorem uV :∀(as:List Nat),Vals (as.map V.ref) (as.map Value.ref)
 | []=>.nil
 |_::r=>.cons rfl (uV r)
theorem As :∀{ys:List Str}{us:List cB},Vals (ys.map V.str) us->StrsAre us ys
 | [],_,.nil=>.nil
 |_::_,_,.cons ⟨t,e⟩ r=>by subst e;exact .cons _ t (As r)
def rJoin(K:bA):V->List V->Hp->VK->Prop:=λx e H Q=>∃z p d,x=.str z/\e=[.ref p]/\bu K H p (d.map V.str)/\(d.map (·.length)).sum+d.length*z.length<=16777216/\Q (.str (Txt.join z d)) H
theorem EO :J1 X "str.join" (rJoin X.K):=by
 intro d s y H x B v C Q I e l h;have(z,p,A,rfl,rfl,r,w,q):=h;have(t,rfl):=e;have(u,rfl,j):=vals1 l
 cases j
 have(o,g,m,E):=I.list r;exact join_list m.isList (by simpa using As g) w λD k=>#[.str _,H,I.tok _,#[_,rfl],q]
def K0:V->Option Int->Option Int->Hp->VK->Prop:=λx d e H Q=>∃z,x=.str z/\z.length<=mC/\Q (.str (OC z d e)) H
theorem part_of (h:RB v o):∃p:Option (Int×Tok),v=partValue p/\p.map (·.1)=o:=by
 cases h with
 |none=>exact#[none,rfl,rfl]
 |int i t=>exact#[some (i,t),rfl,rfl]
theorem CS :IV X K0:=by
 intro d s A H x v C B G J E Q I j r o m h;have(z,rfl,p,q):=h;have(t,rfl):=j;have(g,rfl,y):=part_of o;have(e,rfl,w):=part_of m;refine#["str",_,PySem.F.slot_str_getitem.lookup,typeIs_str s z t,?_];refine wpAny_getItem_str_slice (l:=g) (u:=e) (st:=none) r rfl ?_;subst y w
 cases g<;>cases e<;>exact post_val_or_str #[FA (Txt.slice_le z _ _) p,λD k=>#[.str _,H,I.tok _,#[_,rfl],q]]
noncomputable def sR(xs:List V)(lo hi st:Option Int):List V:=(Sb (Nq lo hi st xs.length).1 (Nq lo hi st xs.length).2.1 (Nq lo hi st xs.length).2.2).filterMap (xs[·]?)
theorem qD (r:Vals xs us):∀d:List Nat,Vals (d.filterMap (xs[·]?)) (d.filterMap (us[·]?))
 | []=>.nil
 |i::d=>by
  rw[NG,NG]
  cases e:xs[i]? with
  |none=>rw[r.none_of e];exact qD r d
  |some x =>
   have(u,j,g):=r.get e;rw[j];exact .cons g (qD r d)
def K1(K:bA)(te:TE)(tl th tk:TO):TE:=λd H Q=>te d H λx q=>tl d q λl o=>th d o λu m=>tk d m λk j=>∃a g,x=.ref a/\bu K j a g/\k≠some 0/\(sR g l u k).length<=mC /\
 ∀p,j p=none->Q (.ref p) (upd j p (.lst (sR g l u k)))
theorem uW {e st:Expr}{lo hi:Option Expr}{te:TE}{tl th tk:TO}{p2 pos:Pos}(he:PE X e te)(Y:PO X lo tl)(W:PO X hi th)(Z:PO X (some st) tk):PE X (.Subscript e (.Slice lo hi (some st) p2) pos) (K1 X.K te tl th tk):=by
 intro d s g H Q I h;refine Uz (dw (he d s g H _ I h) λv G ⟨x,H1,I1,J,q1⟩=>?_);refine wpAny_Slice (dw (Y d G g H1 _ I1 q1) λB E ⟨l,H2,I2,P,N⟩=>dw (W d E g H2 _ I2 N) λA D ⟨u,H3,I3,O,M⟩=>dw (Z d D g H3 _ I3 M) λC j ⟨k,H4,I4,R,L⟩=>?_);have(a,t,rfl,V,U,w,q):=L
 cases J
 have y:Inv X d g H4 {j with heap:=j.heap.push {cls:=.type "slice",data:=.fields #[B,A,C,]}}:=I4.kept (t':=j.toks) λb S q=>lu _ q;have(m,r,z,hz):=y.list V;have p:=r.length;refine tail_any (T:="list") (ops:=[.ref a,.ref j.heap.objs.size]) z.isList.typeIs Sx.lookup ?_ (by with_unfolding_all rfl);refine SH z.isList (R7 ..) P O R U ?_ (by rw[sE]<;>omega)
 have ep:U0 m.toArray l u k=((Sb (Nq l u k t.length).1 (Nq l u k t.length).2.1 (Nq l u k t.length).2.2).filterMap (m[·]?)).toArray:=by
  unfold U0;rw[sE,<-p];simp
 rw[ep];refine#[.ref _,_,y.laid (t':=j.toks) (o:=.lst (sR t l u k)) (λb S q=>lu _ q) (mu _) ?_,rfl,q _ (y.hok.fresh (mu _))];exact#[w,_,0,qD r _,zv _ rfl]
theorem ER {lo st:Option Int}(h:Sb (Nq lo hi st xs.length).1 (Nq lo hi st xs.length).2.1 (Nq lo hi st xs.length).2.2=d):sR xs lo hi st=d.filterMap (xs[·]?):=by
 unfold sR;rw[h]
noncomputable def ES:Expr->Option Str
 |.Constant (.str x) _ _=>some x
 |_=>none
noncomputable def strsOf:List Expr->Option (List Str)
 | []=>some []
 |e::r=>(ES e).bind λx=>(strsOf r).map (x::·)
def CT(xs:List Str):TA:=λ_ H Q=>Q (xs.map V.str) H
theorem EU (h:ES e=some x):∃j p,e=.Constant (.str x) j p:=by
 unfold ES at h
 split at h
 .cases h;exact#[_,_,rfl]
 .cases h
theorem Au :∀{xs:List Str},strsOf d=some xs->PA X d (CT xs):=by
 induction d with
 |nil=>intro xs h;cases h;exact ao
 |cons e r ih =>
  intro xs h;unfold strsOf at h
  cases h1:ES e with
  |none=>rw[h1]at h;cases h
  |some x =>
   cases h2:strsOf r with
   |none=>rw[h1,h2]at h;cases h
   |some ys =>
    rw[h1,h2]at h
    cases h
    have(j,p,rfl):=EU h1;exact aH aB (ih h2) rfl
end L2
namespace L2
open PySem PySem.Spec PyProof.Rows PySem.SeqAt
mutual
def Rp(K:bA)(H:Hp):T->V->Prop
 |.s x,v=>v=.str x
 |.i n,v=>v=.int n
 |.n,v=>v=.gq
 |.t xs,v=>∃a d,v=.ref a/\bQ K H a d/\bN K H xs d
def bN(K:bA)(H:Hp):List T->List V->Prop
 | [],vs=>vs=[]
 |x::r,vs=>∃v q,vs=v::q/\Rp K H x v/\bN K H r q
end
noncomputable def Kt(H e:Hp):Prop:=∀a d,Rd H a (.tup d)->Rd e a (.tup d)
theorem Kt.refl :Kt H H:=λ_ _ h=>h
theorem Kt.trans (a:Kt H g)(b:Kt g e):Kt H e:=λc d h=>b c d (a c d h)
theorem Kt.same (s:aF H d):Kt H d:=λa g h=>h.elim (λe=>.inl (s _ _ e)) λ⟨o,e⟩=>.inr #[o,s _ _ e]
theorem Kt.new {H:Hp}{p:Addr}(h:H p=none)(o:HO):Kt H (upd H p o):=λa d r=>r.elim (λe=>.inl (by rw[ay (au e h)];exact e)) λ⟨u,e⟩=>.inr #[u,by rw[ay (au e h)];exact e]
theorem Kt.upd {H:Hp}{l:Addr}{u:HO}(h:H l=some u)(g:∀xs,u≠.tup xs)(d:∀o xs,u≠.frz o (.tup xs))(o:HO):Kt H (upd H l o):=λa xs r=>by
 rcases r with e|⟨p,e⟩
 .exact .inl (by rw[ay (cI e h λz=>g _ z.symm)];exact e)
 .exact .inr #[p,by rw[ay (cI e h λz=>d _ _ z.symm)];exact e]
theorem Kt.lst (h:H l=some (.lst xs))(o:HO):Kt H (L2.upd H l o):=Kt.upd h (λ_ z=>nomatch z) (λ_ _ z=>nomatch z) o
theorem bQ.kt {K:bA}(k:Kt H H')(h:bQ K H a xs):bQ K H' a xs:=h.elim (λe=>.inl (k _ _ e)) .inr
theorem bN.all {K:bA}(f:∀{x v},Rp K H x v->Rp K H' x v):∀{xs:List T}{d:List V},bN K H xs d->bN K H' xs d
 | [],d,h=>by unfold bN at h|-;exact h
 |x::r,d,h=>by
  unfold bN at h|-;have(v,q,e,j,g):=h;exact#[v,q,e,f j,bN.all f g]
theorem bN.nil {K:bA}:bN K H [] []:=by unfold bN;rfl
theorem bN.cons {K:bA}{H:Hp}{x:T}{v:V}{r:List T}{q:List V}(h:Rp K H x v)(t:bN K H r q):bN K H (x::r) (v::q):=by unfold bN;exact#[v,q,rfl,h,t]
theorem bN.inv {K:bA}(h:bN K H (x::r) d):∃v q,d=v::q/\Rp K H x v/\bN K H r q:=by unfold bN at h;exact h
theorem bN.iE {K:bA}(h:bN K H [] d):d=[]:=by unfold bN at h;exact h
theorem Rp.s {K:bA}:Rp K H (.s x) (.str x):=by unfold Rp;rfl
theorem Rp.i {K:bA}:Rp K H (.i n) (.int n):=by unfold Rp;rfl
theorem Rp.gq {K:bA}:Rp K H .n .gq:=by unfold Rp;rfl
theorem Rp.t {K:bA}(h:bQ K H a d)(r:bN K H xs d):Rp K H (.t xs) (.ref a):=by unfold Rp;exact#[a,d,rfl,h,r]
theorem Rp.bj {K:bA}(h:Rp K H (.s x) v):v=.str x:=by unfold Rp at h;exact h
theorem Rp.di {K:bA}(h:Rp K H (.i n) v):v=.int n:=by unfold Rp at h;exact h
theorem Rp.bq {K:bA}(h:Rp K H (.t xs) v):∃a d,v=.ref a/\bQ K H a d/\bN K H xs d:=by unfold Rp at h;exact h
theorem Rp.kt {K:bA}(k:Kt H H'):∀{v:V},Rp K H x v->Rp K H' x v:=by
 induction x using T.induct with
 |hs x=>intro v h;rw[h.bj];exact .s
 |hi x=>intro v h;rw[h.di];exact .i
 |hn=>intro v h;unfold Rp at h;rw[h];exact .gq
 |ht xs ih =>
  intro v h;have(a,d,rfl,hs,hr):=h.bq;refine .t (hs.kt k) ?_;clear hs h
  induction xs generalizing d with
  |nil=>rw[hr.iE];exact .nil
  |cons x r ih2 =>
   have(v,q,rfl,j,g):=hr.inv;exact .cons (ih x (.head _) j) (ih2 (λy e=>ih y (.tail _ e)) _ g)
theorem bN.kt {K:bA}(k:Kt H H')(h:bN K H xs d):bN K H' xs d:=bN.all (λh=>h.kt k) h
theorem bN.length {K:bA}:∀{xs:List T}{d:List V},bN K H xs d->d.length=xs.length
 | [],d,h=>by rw[h.iE];rfl
 |x::r,d,h=>by
  have(v,q,rfl,_,e):=h.inv;rw[MW,MW,bN.length e]
theorem bN.get {K:bA}:∀{xs:List T}{d:List V}{i:Nat}{x:T},bN K H xs d->xs[i]?=some x->∃v,d[i]?=some v/\Rp K H x v
 | [],d,i,x,h,e=>by simp at e
 |x::r,d,0,y,h,e=>by
  have(v,q,rfl,m,_):=h.inv;simp at e;subst e;exact#[v,rfl,m]
 |x::r,d,i+1,y,h,e=>by
  have(v,q,rfl,_,l):=h.inv;have(w,j,g):=bN.get (i:=i) l (by simpa using e);exact#[w,by simpa using j,g]
theorem bN.get' {K:bA}:∀{xs:List T}{d:List V}{i:Nat}{v:V},bN K H xs d->d[i]?=some v->∃x,xs[i]?=some x/\Rp K H x v:=λ{xs d i v} h e=>by
 have l:=h.length
 have g:i<xs.length:=by
  rcases Nat.lt_or_ge i d.length with z|z
  .omega
  .rw[Ql.mpr z]at e;cases e
 have(w,j,m):=h.get (my g);rw[e]at j;cases j;exact#[_,my g,m]
theorem bN.append {K:bA}:∀{xs ys:List T}{e d:List V},bN K H xs e->bN K H ys d->bN K H (xs++ys) (e++d)
 | [],ys,e,d,h,g=>by rw[h.iE];exact g
 |x::r,ys,e,d,h,g=>by
  have(v,q,rfl,l,j):=h.inv;exact .cons l (bN.append j g)
theorem bN.one {K:bA}(h:Rp K H x v):bN K H [x] [v]:=.cons h .nil
theorem bN.snoc {K:bA}(h:bN K H xs d)(g:Rp K H x v):bN K H (xs++[x]) (d++[v]):=h.append (.one g)
theorem bN.drop {K:bA}:∀{xs:List T}{d:List V}(n:Nat),bN K H xs d->bN K H (xs.drop n) (d.drop n)
 |xs,d,0,h=>h
 | [],d,n+1,h=>by rw[h.iE];exact .nil
 |x::r,d,n+1,h=>by
  have(v,q,rfl,_,e):=h.inv;exact bN.drop n e
theorem bN.take {K:bA}:∀{xs:List T}{d:List V}(n:Nat),bN K H xs d->bN K H (xs.take n) (d.take n)
 |xs,d,0,h=>.nil
 | [],d,n+1,h=>by rw[h.iE];exact .nil
 |x::r,d,n+1,h=>by
  have(v,q,rfl,g,e):=h.inv;exact .cons g (bN.take n e)
theorem bN.split {K:bA}:∀{xs ys:List T}{d:List V},bN K H (xs++ys) d->∃e us,d=e++us/\bN K H xs e/\bN K H ys us
 | [],ys,d,h=>#[[],d,rfl,.nil,h]
 |x::r,ys,d,h=>by
  have(v,q,rfl,m,l):=bN.inv h;have(e,us,rfl,j,g):=bN.split l;exact#[v::e,us,rfl,.cons m j,g]
theorem bN.reverse {K:bA}:∀{xs:List T}{d:List V},bN K H xs d->bN K H xs.reverse d.reverse
 | [],d,h=>by rw[h.iE];exact .nil
 |x::r,d,h=>by
  have(v,q,rfl,g,e):=h.inv;rw[P5,P5];exact(bN.reverse e).snoc g
theorem bN.strs {K:bA}:∀(xs:List Str),bN K H (xs.map .s) (xs.map .str)
 | []=>.nil
 |_::r=>.cons .s (bN.strs r)
theorem Rp.inj {s:eT}(I:Inv X pins σ H s)(a:T):∀(b:T) {v:V},Rp X.K H a v->Rp X.K H b v->a=b:=by
 induction a using T.induct with
 |hs x =>
  intro b v h g;rw[h.bj]at g
  cases b with
  |s y=>have z:=g.bj;injection z with z;rw[z]
  |i y=>have z:=g.di;cases z
  |n=>unfold Rp at g;cases g
  |t ys=>have(_,_,z,_):=g.bq;cases z
 |hi x =>
  intro b v h g;rw[h.di]at g
  cases b with
  |s y=>have z:=g.bj;cases z
  |i y=>have z:=g.di;injection z with z;rw[z]
  |n=>unfold Rp at g;cases g
  |t ys=>have(_,_,z,_):=g.bq;cases z
 |hn =>
  intro b v h g;unfold Rp at h;rw[h]at g
  cases b with
  |s y=>have z:=g.bj;cases z
  |i y=>have z:=g.di;cases z
  |n=>rfl
  |t ys=>have(_,_,z,_):=g.bq;cases z
 |ht xs ih =>
  intro b v h g;have(p,o,rfl,hs,hr):=h.bq
  cases b with
  |t ys =>
   have(E,C,e,j,d):=g.bq
   cases e
   have e:=I.qz hs j;subst e
   congr 1
   clear hs j h g
   induction xs generalizing ys o with
   |nil =>
    have z:=hr.iE;subst z
    cases ys with
    |nil=>rfl
    |cons y q=>have(_,_,z,_):=d.inv;cases z
   |cons x r ih2 =>
    have(v,q,rfl,B,A):=hr.inv
    cases ys with
    |nil=>cases d.iE
    |cons y q' =>
     have(D,u,e,m,l):=d.inv
     cases e
     rw[ih x (.head _) y B m,ih2 (λz w=>ih z (.tail _ w)) _ A _ l]
  |_=>unfold Rp at g;cases g
theorem br (p:IsTup h a d):h.IsTuple a d:=p
theorem uX (r:Vals us d)(e:us[j]?=some v){h:j<d.toArray.size}:RelV v d.toArray[j]:=by
 have(u,l,g):=r.get e
 have z:d.toArray[j]=u:=by
  have q:d[j]?=some d.toArray[j]:=by
   rw[my (by simpa using h)];simp
  rw[l]at q;exact(Nd q).symm
 rw[z];exact g
noncomputable def Av(s:eT)(K:bA)(H:Hp)(x:T):Prop:=∀(b:T) {u v:V}{e d:cB}(A:MM),A.units+x.dep<Rm->Rp K H x u->Rp K H b v->RelV u e->RelV v d->EqAt A s e d (x.eqB b)
theorem uY {X:Cx}(t:∀x∈xs,Av s X.K H x)(z:A.units+T.oh xs<Rm)(hr:bN X.K H xs us)(e:bN X.K H ys l)(r:Vals us d)(o:Vals l its')(j:Nat)(h1:j<d.toArray.size)(h2:j<its'.toArray.size):EqAt A s d.toArray[j] its'.toArray[j] (T.eqB (xs.getD j .n) (ys.getD j .n)):=by
 have l1:us.length=d.length:=r.length;have l2:l.length=its'.length:=o.length;have l3:=hr.length;have G:=e.length;have C:j<d.length:=by simpa using h1
 have B:j<its'.length:=by simpa using h2
 have g:j<xs.length:=()
 have p:j<ys.length:=()
 have(v,y,q):=hr.get (my g);have(w,u,m):=e.get (my p);have E:xs.getD j .n=xs[j]:=by simp[g]
 have D:ys.getD j .n=ys[j]:=by simp[p]
 rw[E,D];exact t _ (Qj g) _ A (QD (Ue (T.CN (Qj g)) _) z) q m (uX r y) (uX o u)
theorem uZ (I:Inv X pins σ H s)(w:∀x∈xs,Av s X.K H x)(y:A.units+1+T.oh xs<Rm)(hs:bQ X.K H p us)(hr:bN X.K H xs us)(t:bQ X.K H q m)(l:bN X.K H ys m):
  RcAt A s (.ref p) (.ref q) (T.rf xs ys):=by
 have(g,r,v,_):=I.tuple hs;have(d,u,o,_):=I.tuple t;have z:=RcAt.tuples (A:=A) (br v) (br o) () (e:=λj=>T.eqB (xs.getD j .n) (ys.getD j .n)) (uY (A:=A.in1) w (by show A.units+1+_<_;exact y) hr l r u);have l1:us.length=g.length:=r.length;have l2:m.length=d.length:=u.length;have l3:=hr.length;have D:=l.length;rw[T.oQ];have C:g.toArray.size=xs.length:=by simp;omega
 have B:d.toArray.size=ys.length:=by simp;omega
 rw[C,B]at z;exact z
theorem xV (I:Inv X pins σ H s)(w:∀x∈xs,Av s X.K H x)(y:A.units+1+T.oh xs<Rm)(hs:bQ X.K H p us)(hr:bN X.K H xs us)(t:bQ X.K H q m)(l:bN X.K H ys m):
  P9 A s (.ref p) (.ref q) (!T.rf xs ys):=by
 have(g,r,v,_):=I.tuple hs;have(d,u,o,_):=I.tuple t;have z:=P9.tuples (A:=A) (br v) (br o) () (e:=λj=>T.eqB (xs.getD j .n) (ys.getD j .n)) (uY (A:=A.in1) w (by show A.units+1+_<_;exact y) hr l r u);have l1:us.length=g.length:=r.length;have l2:m.length=d.length:=u.length;have l3:=hr.length;have D:=l.length;rw[T.oQ];have C:g.toArray.size=xs.length:=by simp;omega
 have B:d.toArray.size=ys.length:=by simp;omega
 rw[C,B]at z;exact z
theorem Jy (I:Inv X pins σ H s)(a:T):Av s X.K H a:=by
 induction a using T.induct with
 |hs x =>
  intro b u v C B A r h g j d;rw[h.bj]at j;have(t,rfl):=j
  cases b with
  |s y=>rw[g.bj]at d;have(m,rfl):=d;unfold T.eqB;exact EqAt.str_str _ _ _ _
  |i y=>rw[g.di]at d;have(m,rfl):=d;unfold T.eqB;exact EqAt.str_int _ _ _ _
  |n=>unfold Rp at g;rw[g]at d;cases d;unfold T.eqB;exact EqAt.str_none _ _
  |t ys =>
   have(q,w,rfl,hs,hr):=g.bq
   cases d
   have(o,_,l,_):=I.tuple hs;unfold T.eqB;exact EqAt.str_tuple _ _ (br l) ()
 |hi x =>
  intro b u v C B A r h g j d;rw[h.di]at j;have(t,rfl):=j
  cases b with
  |s y=>rw[g.bj]at d;have(m,rfl):=d;unfold T.eqB;exact EqAt.int_str _ _ _ _
  |i y=>rw[g.di]at d;have(m,rfl):=d;unfold T.eqB;exact EqAt.int_int _ _ _ _
  |n=>unfold Rp at g;rw[g]at d;cases d;unfold T.eqB;exact EqAt.int_none _ _
  |t ys =>
   have(q,w,rfl,hs,hr):=g.bq
   cases d
   have(o,_,l,_):=I.tuple hs;unfold T.eqB;exact EqAt.int_tuple _ _ (br l) ()
 |hn =>
  intro b u v C B A r h g j d;unfold Rp at h;rw[h]at j
  cases j
  cases b with
  |s y=>rw[g.bj]at d;have(m,rfl):=d;unfold T.eqB;exact EqAt.none_str _ _
  |i y=>rw[g.di]at d;have(m,rfl):=d;unfold T.eqB;exact EqAt.none_int _ _
  |n=>unfold Rp at g;rw[g]at d;cases d;unfold T.eqB;exact EqAt.same _
  |t ys =>
   have(q,w,rfl,hs,hr):=g.bq
   cases d
   have(o,_,l,_):=I.tuple hs;unfold T.eqB;exact EqAt.none_tuple (br l) ()
 |ht xs ih =>
  intro b u v C B A r h g j d;have(p,J,rfl,hs,hr):=h.bq
  cases j
  have(o,G,l,_):=I.tuple hs
  cases b with
  |s y=>rw[g.bj]at d;have(m,rfl):=d;unfold T.eqB;exact EqAt.tuple_str _ _ (br l) ()
  |i y=>rw[g.di]at d;have(m,rfl):=d;unfold T.eqB;exact EqAt.tuple_int _ _ (br l) ()
  |n=>unfold Rp at g;rw[g]at d;cases d;unfold T.eqB;exact EqAt.tuple_none (br l) ()
  |t ys =>
   have(q,w,rfl,D,E):=g.bq
   cases d
   by_cases e:p=q
   .subst e;have z:=Rp.inj I _ _ h g;rw[z,T.CP];exact EqAt.same _
   .unfold T.dep at r;unfold T.eqB;exact EqAt.of_refs e (uZ I ih () hs hr D E)
theorem Jz (I:Inv X pins σ H s)(a b:T)(A:MM)(E:A.units+a.dep<Rm)(h:Rp X.K H a u)(g:Rp X.K H b v)(m:RelV u C)(d:RelV v B):RcAt A s C B (a.eqB b)/\P9 A s C B (!a.eqB b):=by
 cases a with
 |s x =>
  rw[h.bj]at m;have(t,rfl):=m
  cases b with
  |s y=>rw[g.bj]at d;have(l,rfl):=d;unfold T.eqB;exact#[RcAt.str_str _ _ _ _,P9.str_str _ _ _ _]
  |i y=>rw[g.di]at d;have(l,rfl):=d;unfold T.eqB;exact#[RcAt.str_int _ _ _ _,P9.str_int _ _ _ _]
  |n=>unfold Rp at g;rw[g]at d;cases d;unfold T.eqB;exact#[RcAt.str_none _ _,P9.str_none _ _]
  |t ys =>
   have(q,z,rfl,j,hr):=g.bq
   cases d
   have(o,_,e,_):=I.tuple j;unfold T.eqB;exact#[RcAt.str_tuple _ _ (br e) (),P9.str_tuple _ _ (br e) ()]
 |i x =>
  rw[h.di]at m;have(t,rfl):=m
  cases b with
  |s y=>rw[g.bj]at d;have(l,rfl):=d;unfold T.eqB;exact#[RcAt.int_str _ _ _ _,P9.int_str _ _ _ _]
  |i y=>rw[g.di]at d;have(l,rfl):=d;unfold T.eqB;exact#[RcAt.int_int _ _ _ _,P9.int_int _ _ _ _]
  |n=>unfold Rp at g;rw[g]at d;cases d;unfold T.eqB;exact#[RcAt.int_none _ _,P9.int_none _ _]
  |t ys =>
   have(q,z,rfl,j,hr):=g.bq
   cases d
   have(o,_,e,_):=I.tuple j;unfold T.eqB;exact#[RcAt.int_tuple _ _ (br e) (),P9.int_tuple _ _ (br e) ()]
 |n =>
  unfold Rp at h;rw[h]at m
  cases m
  cases b with
  |s y=>rw[g.bj]at d;have(l,rfl):=d;unfold T.eqB;exact#[RcAt.none_str _ _,P9.none_str _ _]
  |i y=>rw[g.di]at d;have(l,rfl):=d;unfold T.eqB;exact#[RcAt.none_int _ _,P9.none_int _ _]
  |n=>unfold Rp at g;rw[g]at d;cases d;unfold T.eqB;exact#[RcAt.none_none,P9.none_none]
  |t ys =>
   have(q,z,rfl,j,hr):=g.bq
   cases d
   have(o,_,e,_):=I.tuple j;unfold T.eqB;exact#[RcAt.none_tuple (br e) (),P9.none_tuple (br e) ()]
 |t xs =>
  have(p,G,rfl,j,hr):=h.bq
  cases m
  have(o,D,e,_):=I.tuple j
  cases b with
  |s y=>rw[g.bj]at d;have(l,rfl):=d;unfold T.eqB;exact#[RcAt.tuple_str _ _ (br e) (),P9.tuple_str _ _ (br e) ()]
  |i y=>rw[g.di]at d;have(l,rfl):=d;unfold T.eqB;exact#[RcAt.tuple_int _ _ (br e) (),P9.tuple_int _ _ (br e) ()]
  |n=>unfold Rp at g;rw[g]at d;cases d;unfold T.eqB;exact#[RcAt.tuple_none (br e) (),P9.tuple_none (br e) ()]
  |t ys =>
   have(q,z,rfl,r,w):=g.bq
   cases d
   unfold T.dep at E;unfold T.eqB;exact#[uZ I (λx _=>Jy I x) () j hr r w,xV I (λx _=>Jy I x) () j hr r w]
noncomputable def JA(K:bA):R2:=λx y H Q=>∃a b,Rp K H a x/\Rp K H b y/\a.dep<=150/\Q (.bl (decide (a=b))) H
noncomputable def K2(K:bA):R2:=λx y H Q=>∃a b,Rp K H a x/\Rp K H b y/\a.dep<=150/\Q (.bl (!decide (a=b))) H
theorem vQ (l:X.A.units+150<Rm):nZ X (Ox .Eq) (JA X.K):=by
 intro pins s σ H x y v u Q I e d h;have(a,b,j,g,hd,q):=h;rw[<-T.Aq]at q;exact(Jz I a b X.A () j g e d).1 X.prog X.w X.xe _ #[.bl _,H,I,rfl,q]
theorem zq (l:X.A.units+150<Rm):nZ X (Ox .NotEq) (K2 X.K):=by
 intro pins s σ H x y v u Q I e d h;have(a,b,j,g,hd,q):=h;rw[<-T.Aq]at q;exact(Jz I a b X.A () j g e d).2 X.prog X.w X.xe _ #[.bl _,H,I,rfl,q]
theorem fB.xW (r:fB k A):A.units+150<Rm:=by have:=r.un;omega
end L2
namespace L2
open PySem PySem.Spec PyProof.Rows
theorem xX {A:Prop}(e:b=true)(h:A):if b=true then A else B:=by rw[if_pos e];exact h
theorem oU {A:Prop}(e:b=false)(h:B):if b=true then A else B:=by rw[if_neg (by rw[e];exact FG)];exact h
theorem iS {e:Pos}{d:List Expr}{k:Nat}{t:Ey}{n:Nat}(K:bA)(l:X.K=K)(j:X.calm=true)(h:Jb X d t)(hn:(QB d X.env).length=n:=by rfl)(g:(QB d X.env).findIdx? (·.1)=none:=by rfl):PG X (.Tuple d k e) (Cs K n t):=by
 subst l;exact GW j h hn g
theorem gM (K:bA)(d:X.K=K):Cn X (Bk K):=by subst d;exact aZ
theorem CU (K:bA)(d:X.K=K):Cn X (Hh K):=by subst d;exact aN
theorem CV (K:bA)(d:X.K=K):IV X (Js K):=by subst d;exact iC
theorem zu (K:bA)(d:X.K=K):nZ X (Ox .In) (Ka K false):=by subst d;exact jE
theorem iT (K:bA)(d:X.K=K):nZ X (Ox .NotIn) (Ka K true):=by subst d;exact pS
theorem ud (K:bA)(d:X.K=K):j4 X (.builtin "len") (λxs H Q=>∃p ys,xs=[.ref p]/\(bu K H p ys\/bQ K H p ys)/\Q (.int ys.length) H):=by subst d;exact iD
def Gr(w:FT):List P0->List (Str×V)->Prop
 | [],kvs=>kvs=[]
 |e::r,kvs=>∃x v q,kvs=(x,v)::q/\(∃t,e.key=.str x t)/\e.hash=hashStr w x/\RelV v e.val/\Gr w r q
def KD(K:bA)(w:FT)(d:Addr)(kvs:List (Str×V)):Prop :=
 ∃(e:Array P0) (n:Nat),K.lookup d=some {cls:=.type "dict",dict:=none,data:=.dict e n,slots:=#[]}/\Gr w e.toList kvs/\(kvs.map (·.1)).Nodup/\(d == Og)=false
theorem Gr.keys :∀{j:List P0}{kvs:List (Str×V)},Gr w j kvs->∃d:List (Str×cB),Pairs (OV P w) j d/\(∀e∈j,∃k,(OV P w).is k e.key=true/\e.hash=(OV P w).hash k)/\d.map (·.1)=kvs.map (·.1) /\
  ∀k,mS (kvs.lookup k) (Qh d k)
 | [],kvs,h=>by
  obtain rfl:kvs=[]:=h;exact#[[],.nil,(λ_ h=>nomatch h),rfl,λ_=>trivial]
 |e::r,kvs,h=>by
  have(x,v,q,rfl,(t,o),p,m,hr):=h;have(d,B,A,y,u):=Gr.keys (P:=P) hr;have l:(OV P w).is x e.key=true:=by rw[o];exact(by simp[OV,SA]:(OV P w).is x (.str x t)=true)
  refine#[(x,e.val)::d,.cons l rfl B,λD g=>?_,by rw[M0,M0,y],λk=>?_]
  .cases g with
   |head=>exact#[x,l,p]
   |tail _ g=>exact A D g
  .rw[M4]
   by_cases c:k=x
   .subst c;rw[beq_self_eq_true];simp only[Qh,OO,decide_true,QA];exact m
   .rw[beq_false_of_ne c];have z:=u k
    have C:Qh ((x,e.val)::d) k=Qh d k:=by
     simp only[Qh,OO];rw[decide_eq_false (λq=>c q.symm)]
    rw[C];exact z
theorem KD.dict {K:bA}(D:KD K w d kvs)(X:K.In h):∃g,h.DictOf (OV P w) d g/\(d == Og)=false/\∀k,mS (kvs.lookup k) (Qh g k):=by
 have(t,n,e,l,j,hd):=D;have(g,r,q,p,o):=Gr.keys (P:=P) l;exact#[g,#[_,t,n,X _ _ e,#[rfl,rfl,rfl],rfl,λu m=>q u (by simpa using m),r,by rw[p];exact j],hd,o]
theorem Aw :(OV P w).is x (.str x t)=true:=by simp[OV,SA]
def K3(K:bA)(w:FT):R2:=λx y H Q=>∃k d e,x=.str k/\y=.ref d/\KD K w d e/\Q (.bl (e.lookup k).isSome) H
theorem mS.EV (r:mS a b):b.isSome=a.isSome:=by
 cases a<;>cases b<;>first|rfl|exact r.elim
theorem Ax :nZ X (Ox .In) (K3 X.K X.w):=by
 intro g s p H x y v u Q I l j h;have(k,d,m,rfl,rfl,D,q):=h;have(t,rfl):=l;obtain rfl:u=Value.ref d:=j;have(r,o,hd,e):=D.dict (P:=X.prog) I.tZ;refine wpAny_in_of Aw hd o.mapOf ?_;rw[(e k).EV];exact#[.bl _,H,I.tok _,rfl,q]
def JB(K:bA)(w:FT)(j ty:TE):TE:=λg H Q=>j g H λx m=>ty g m λy l=>∃d e k v,x=.ref d/\y=.str k/\KD K w d e/\e.lookup k=some v/\Q v l
theorem rM (M:PE X o p)(hi:PE X i ty)(hs:Hr i):PE X (.Subscript o i l) (JB X.K X.w p ty):=by
 intro e s m H Q I h;refine An Sn.lookup hs (dw (M e s m H _ I h) λu A ⟨x,S,O,C,q1⟩=>dw (hi e A m S _ O q1) λV U ⟨y,R,r,B,d,J,k,v,ex,N,D,G,E⟩=>?_);subst ex N;obtain rfl:u=Value.ref d:=C;have(t,rfl):=B;have(z,q,hd,j):=D.dict (P:=X.prog) r.tZ;have(T,L,g):=mS.some_of (v:=v) (o:=Qh z k) (by rw[<-G];exact j k);exact#[q.typeIs,wpAny_getItem_of Aw q.mapOf L #[v,R,r.tok _,g,E]]
theorem zw :nZ X (Pf .Mult) (λx y H Q=>∃z n,x=.str z/\y=.int n/\-1000000<=n/\n<=1000000/\z.length*n.toNat<=mC/\Q (.str (Sy z n)) H):=by
 intro d s p H x y v u Q I m l h;have(z,n,rfl,rfl,B,A,g,q):=h;have(t,rfl):=m;have(j,rfl):=l;refine PySem.SB.mul #[by simp;omega,λa b=>?_,λa b=>?_] λj k=>#[.str _,H,I.tok _,#[_,rfl],q]
 .intro c;have r:1<=n:=()
  have o:z.length*n.toNat<=16777216:=by rw[<-Rl];exact g
  have w:z.length<=z.length*n.toNat:=Nat.le_mul_of_pos_right _ ();have e:(9223372036854:Int)<=(2 ^ 63-1) / n:=Int.le_ediv_of_mul_le () ();omega
 .unfold Px.Str.tooLong;simp;exact g
theorem kQ {K:bA}(l:Nat->St->List V->Hp->Prop)(t:l 0 σ0 [] H0)(m:∀i e d H,i<=xs.length->l i e d H->d.length<=i)(hn:xs.length<=mC)(q:∀i e d H,i<=xs.length->l i e d H->bQ K H a xs)(hs:∀i x e d H,xs[i]?=some x->l i e d H->g x e H λj w=>tt j w λok r=>if ok=true then te j r λv u=>l (i+1) j (d++[v]) u else l (i+1) j d r)(hd:∀e d H,l xs.length e d H->∀p,H p=none->Q (.ref p) (upd H p (.lst d))):j7 (Cv K a) g tt te Q σ0 H0:=by
 refine rL xs.length l t m hn (λi e d H o p=>#[xs,xs[i],q i e d H (Ny o) p,by simp[o]]) (λe d H p=>#[xs,q _ e d H (mu _) p,mu _]) (λi e d H x z o p y=>?_) hd;have(rfl,y):=y;exact hs i x e d _ (y xs (q i e d _ (Ny o) p)) p
theorem atS {z:Str}(j:0<=r)(h:r<(z.length:Int)):∃c,jZ z.cps.toList r=some c/\c∈z.cps.toList:=by
 have e:z.cps.toList.length=z.length:=by simp[R8]
 have d:r.toNat<z.cps.toList.length:=by rw[e];omega
 have g:r=((r.toNat:Nat):Int):=()
 have q:jZ z.cps.toList ((r.toNat:Nat):Int)=some z.cps.toList[r.toNat]:=bz (my d);rw[<-g]at q;exact#[_,q,Qj d]
theorem EW (d:List Nat):Txt.join "" (d.map λc=>(⟨#[c]⟩:Str))=⟨d.toArray⟩:=by
 show Px.Str.glued (MI "") _=_;rw[StrLaws.glued_eq_join];exact PyProof.Rows.join_ones d
theorem CW (l:List Nat):((l.map λc=>(⟨#[c]⟩:Str)).map (·.length)).sum=l.length:=by
 induction l with
 |nil=>rfl
 |cons c r ih=>rw[M0,M0,Uq,ih,MW];show 1+_=_;omega
theorem Hw (d:List Nat):(⟨d.toArray⟩:Str).length=d.length:=by simp[R8]
theorem JC (b:Bool)(z:Str):(Sy z (if b then 1 else 0)).length<=z.length:=by
 cases b with
 |true=>simp[Sy]
 |false=>simp[Sy,R8,MY]
end L2
namespace L2
open PySem
def cg(H:Hp)(f:Addr):Prop:=∃p q:Int,H f=some (.lst [.int p,.int q])
def Ext(f:Addr)(H d:Hp):Prop:=(∀b o,b≠f->H b=some o->d b=some o)/\cg d f
theorem Ext.refl (h:cg H f):Ext f H H:=#[λ_ _ _ e=>e,h]
theorem Ext.trans (a:Ext f H g)(b:Ext f g d):Ext f H d:=#[λc o n e=>b.1 c o n (a.1 c o n e),b.2]
theorem Ext.same (a:Ext f H g)(s:aF g d):Ext f H d:=#[λc o n e=>s c o (a.1 c o n e),let⟨p,q,e⟩:=a.2;#[p,q,s f _ e]]
theorem ae (h:H p=none)(o:HO):aF H (upd H p o):=λb u q=>by rw[ay (au q h)];exact q
theorem cg.same (h:cg H f)(s:aF H d):cg d f:=let⟨p,q,e⟩:=h;#[p,q,s f _ e]
theorem Ext.tup (e:Ext f H g)(d:cg H f)(h:H a=some (.tup xs)):g a=some (.tup xs):=by
 refine e.1 a _ ?_ h;have(p,q,d):=d;exact cI h d (by intro z;cases z)
def eK:Sp:=λe H Q _=>∃(f:Addr) (m:Int),e=[.ref f,.int m]/\0<m/\m<1073741824/\cg H f/\∀(r:Int) (d:Hp),0<=r->r<m->Ext f H d->Q (.int r) d
def zx(K:bA):Sp:=λg H Q _=>∃(a:Addr) (e:List Int) (k:Int),g=[.ref a,.int k]/\bu K H a (e.map V.int)/\e.length<=63/\0<=k/\k<=100 /\
 ∀(r:Addr) (d:Hp),aF H d->H r=none->cg d r->Q (.ref r) d
theorem small (h:n<=1000):n<=mC:=Ny (bD h)
theorem Ay {ns:List Int}(g:0<=k)(h:k<(ns.length:Int)):∃v:Int,jZ (ns.map V.int) k=some (.int v):=by
 have d:k.toNat<ns.length:=()
 have e:k=((k.toNat:Nat):Int):=()
 have q:jZ (ns.map V.int) ((k.toNat:Nat):Int)=some (.int ns[k.toNat]):=bz (by rw[rj,my d]<;>rfl)
 rw[<-e]at q;exact#[_,q]
theorem nq {xs:List d}(j:0<=k)(h:k<(xs.length:Int)):∃v:d,jZ xs k=some v/\v∈xs:=by
 have e:k.toNat<xs.length:=()
 have g:k=((k.toNat:Nat):Int):=()
 have q:jZ xs ((k.toNat:Nat):Int)=some xs[k.toNat]:=bz (my e);rw[<-g]at q;exact#[_,q,Qj e]
theorem Ext.kt (e:Ext f H g)(d:cg H f):Kt H g:=λa j r=>by
 have(p,q,d):=d;rcases r with h|⟨o,h⟩
 .exact .inl (e.1 a _ (cI h d (by intro z;cases z)) h)
 .exact .inr #[o,e.1 a _ (cI h d (by intro z;cases z)) h]
theorem Ext.lst (e:Ext f H d)(n:l≠f)(h:H l=some (.lst xs)):d l=some (.lst xs):=e.1 l _ n h
theorem Ext.new (e:Ext f H d)(h:d p=none)(o:HO):Ext f H (L2.upd d p o):=e.same (ae h o)
structure dH(P:sC) (w:FT) (K:bA) (mg:Str->Option cB) (base:Heap) (x:Str) (k:Nat) (ps:List Str) (sp:Sp) (f:Addr) (fd:rE):Prop where
 ok:bH P w K mg base eZ k f fd ps sp
 at':mg x=some (.ref f)
 kp:NF K (.ref f)=true
 bd:Binds K fd ps []
theorem rO (h:∀e H Q E,¬sp e H Q E):bH P w K mg d eZ k f g ps sp :=
 #[λe H Q E z=>(h e H Q E z).elim,λ_ _ _ _ _ _ _ _ _ _ _ _ _ z=>(h _ _ _ _ z).elim]
end L2
namespace L2
open PySem PySem.Spec PyProof.Rows
noncomputable def qO(p:List Str×Tm):T:=.t [.t (p.1.map .s),enc p.2]
noncomputable def right(d:Tm):List (List Str×Tm):=(bnd d.hd d.ks.length).zip d.ks
theorem bQ.same {K:bA}(e:aF H d)(h:bQ K H a xs):bQ K d a xs:=h.kt (Kt.same e)
theorem Rp.same {K:bA}(e:aF H d)(h:Rp K H x v):Rp K d x v:=h.kt (Kt.same e)
theorem bN.same {K:bA}(e:aF H d)(h:bN K H x v):bN K d x v:=h.kt (Kt.same e)
theorem Rp.new {K:bA}(e:H p=none)(h:bN K H xs d):Rp K (upd H p (.tup d)) (.t xs) (.ref p):=.t (.of af) (h.same (ae e _))
theorem xY {K:bA}{ps:List Nat}{ks:List T}(O:bQ K H0 a I)(hr:bN K H0 ts I)(P:bQ K H0 J (ps.map λ(j:Nat)=>V.int (j:Int)))(v:ps.length<=1000)(L:ps.map (λ(j:Nat)=>ts[j]?)=ks.map some)(k:∀(p:Addr) (B:Hp) (H:List V),aF H0 B->B p=some (.lst H)->bN K B (ks.map λk=>.t [.t [],k]) H->Q (.ref p) B):
  j7 (Cv K J) (iJ 0) uT (xo (mZ (xo xn) (mZ (Cy (Bk K) (mV 1) (mV 0)) xn))) Q [none,some (.ref a)] H0:=by
 refine kQ (xs:=ps.map λ(j:Nat)=>V.int (j:Int)) (λi u g m=>(∃x,u=[x,some (.ref a)])/\aF H0 m/\bN K m ((ks.take i).map λk=>.t [.t [],k]) g) #[#[none,rfl],aF.refl _,.nil] ?_ (small (by rw[bC];exact v)) ?_ ?_ ?_
 .rintro i u g m hi ⟨_,_,r⟩;rw[r.length,bC,we];omega
 .rintro i u g m hi ⟨_,e,_⟩;exact P.same e
 .rintro i x u g m hx ⟨⟨R,rfl⟩,e,r⟩;rw[rj]at hx;have(j,N,rfl):=ur.mp hx
  have d:ts[j]?=ks[i]?/\i<ks.length:=by
   have z:=congrArg (λl=>l[i]?) L;simp only[rj,N,QA]at z
   cases A:ks[i]? with
   |none=>rw[A]at z;cases z
   |some q=>rw[A]at z;exact#[Nd z,(ko.mp A).1]
  have(d,y):=d;rw[my y]at d;have(w,M,C):=hr.get d;refine#[MP _,λq E=>?_];have G:=e.trans (ae E (.tup []));refine#[_,rfl,_,rfl,a,_,_,w,rfl,rfl,O.same G,bz M,(by show 2<=mC;decide),λt D=>?_];have A:=G.trans (ae D (.tup [.ref q,w]));refine#[#[_,rfl],A,?_];rw[EF y,m3];refine(r.same (λb o h=>ae D _ b o (ae E _ b o h))).snoc (Rp.new D (.cons ?_ (.one (C.same G))));exact Rp.new E .nil
 .rintro u g m ⟨_,e,r⟩ p hp
  have l:(ps.map λ(j:Nat)=>V.int (j:Int)).length=ks.length:=by
   have z:=congrArg PF L
   simpa using z
  rw[l,MS]at r;exact k p _ g (e.trans (ae hp _)) af (r.same (ae hp _))
theorem Bs {K:bA}(H:bQ K H0 B u)(hr:bN K H0 ks u)(D:ks.length<=1000)(k:∀(p:Addr) (m:Hp) (A:List V),aF H0 m->m p=some (.lst A)->bN K m (ks.map λk=>.t [.t [],k]) A->Q (.ref p) m):
  j7 (Cv K B) (iJ 0) uT (xo (mZ (xo xn) (mZ (mV 0) xn))) Q [none] H0:=by
 have l:=hr.length;refine kQ (xs:=u) (λi j d g=>(∃x,j=[x])/\aF H0 g/\bN K g ((ks.take i).map λk=>.t [.t [],k]) d) #[#[none,rfl],aF.refl _,.nil] ?_ (small ()) ?_ ?_ ?_
 .rintro i j d g hi ⟨_,_,r⟩;rw[r.length,bC,we];omega
 .rintro i j d g hi ⟨_,e,_⟩;exact H.same e
 .rintro i x j d g hx ⟨⟨L,rfl⟩,e,r⟩;have(y,C,G):=hr.get' hx;have z:i<ks.length:=(ko.mp C).1;have I:ks[i]=y:=(ko.mp C).2;refine#[MP _,λq w=>?_];have E:=e.trans (ae w (.tup []));refine#[_,rfl,(by show 2<=mC;decide),λt v=>?_];have J:=E.trans (ae v (.tup [.ref q,x]));refine#[#[_,rfl],J,?_];rw[EF z,m3,I];refine(r.same (λb o h=>ae v _ b o (ae w _ b o h))).snoc (Rp.new v (.cons ?_ (.one (G.same E))));exact Rp.new w .nil
 .rintro j d g ⟨_,e,r⟩ p hp;rw[l,MS]at r;exact k p _ d (e.trans (ae hp _)) af (r.same (ae hp _))
theorem Bt {K:bA}(M:arms.length=ks.length)(N:bQ K H0 B o)(hr:bN K H0 (NB nj arms ks) o)(D:ks.length<=1000)(k:∀(p:Addr) (q:Hp) (A:List V),aF H0 q->q p=some (.lst A)->bN K q (NB (λa k=>.t [.t (a.2.map .s),k]) arms ks) A->Q (.ref p) q):
  j7 (Cv K B) (Cs K 3 (qL (iJ 0) (qL (iJ 1) (qL (iJ 2) Ez)))) uT (xo (mZ (mV 1) (mZ (mV 2) xn))) Q [none,none,none] H0:=by
 have l:=hr.length;rw[OR,M,To]at l;refine kQ (xs:=o) (λi m g j=>(∃x y z,m=[x,y,z])/\aF H0 j/\bN K j ((NB (λ(a:Str×List Str) k=>T.t [.t (a.2.map .s),k]) arms ks).take i) g) #[#[none,none,none,rfl],aF.refl _,.nil] ?_ (small ()) ?_ ?_ ?_
 .rintro i m g j E ⟨_,_,r⟩;rw[r.length,we];omega
 .rintro i m g j E ⟨_,e,_⟩;exact N.same e
 .rintro i x m g j hx ⟨⟨W,U,S,rfl⟩,e,r⟩;have(y,C,H):=hr.get' hx;have E:i<o.length:=(ko.mp hx).1;have w:i<arms.length:=()
  have v:i<ks.length:=()
  have L:i<(NB (λ(a:Str×List Str) k=>T.t [.t (a.2.map .s),k]) arms ks).length:=by rw[OR];omega
  rw[TH,my w,my v]at C
  cases C
  have(J,I,rfl,G,d):=(show Rp K H0 (.t [_,_,_]) x from H).bq;have(X,q1,rfl,h1,d):=d.inv;have(t2,Z,rfl,P,d):=d.inv;have(t3,Y,rfl,O,d):=d.inv;obtain rfl:=d.iE;refine#[J,_,rfl,G.same e,rfl,_,_,rfl,_,_,rfl,_,_,rfl,rfl,?_];refine#[_,rfl,_,rfl,(by show 2<=mC;decide),λt u=>?_];have R:=e.trans (ae u (.tup [t2,t3]));refine#[#[_,_,_,rfl],R,?_];rw[EF L];refine(r.same (ae u _)).snoc ?_;rw[List.getElem_zipWith];exact Rp.new u (.cons (P.same e) (.one (O.same e)))
 .rintro m g j ⟨_,e,r⟩ p hp;rw[Na (by rw[OR];omega)]at r;exact k p _ g (e.trans (ae hp _)) af (r.same (ae hp _))
theorem mQ {d e:Type}(f:d->Option e)(g:d->e):∀(l:List d),(∀a∈l,f a=some (g a))->l.filterMap f=l.map g
 | [],_=>rfl
 |a::r,h=>by rw[NG,h a (.head _),M0,mQ f g r λb j=>h b (.tail _ j)]
theorem Bu {g:Type}(xs:List g):((Nj xs.length).map λk=>xs.length-1-k).filterMap (xs[·]?)=xs.reverse:=by
 cases xs with
 |nil=>rfl
 |cons x r =>
  rw[Uy,mQ _ (λk=>(x::r).reverse.getD k x)]
  .apply List.ext_getElem
   .simp
   .intro i l e;simp only[List.getElem_map,List.getElem_range];simp at l;simp only[OX];rw[my e];rfl
  .intro k j;have d:=QM.mp j;show(x::r)[(x::r).length-1-k]?=_;have e:k<(x::r).reverse.length:=by simpa using d
   simp only[OX];rw[my e,List.getElem_reverse,my ()];rfl
theorem Bv (n:Nat):Sb (Nq none none (some (-1)) n).1 (Nq none none (some (-1)) n).2.1 (Nq none none (some (-1)) n).2.2=(Nj n).map λk=>n-1-k:=by
 show Sb ((n:Int) - 1) (-1) (-1)=_;unfold Sb
 have c:(if(-1:Int)>0 then(if(n:Int) - 1 < -1 then(-1 - ((n:Int) - 1)+-1-1) / -1 else 0)else(if(n:Int) - 1 > -1 then((n:Int) - 1 - -1 - -1-1) / (- -1)else 0))=(n:Int):=by
  rw[if_neg (by decide)]
  split
  .rw[show(- -1:Int)=1 from rfl,Int.ediv_one];omega
  .omega
 simp only[c,NY];refine List.map_congr_left λk d=>?_;have:=QM.mp d;omega
theorem pW (xs:List V):sR xs none none (some (-1))=xs.reverse:=by
 rw[ER (Bv xs.length)];exact Bu xs
theorem zy {K:bA}{ps:List (List Str×Tm)}(E:H0 a=some (.lst o))(hr:bN K H0 (ps.map qO) o)(w:ps.length<=1000)(k:∀(p:Addr) (u:List V),H0 p=none->bN K H0 (ps.map λp=>enc p.2) u->Q (.ref p) (upd H0 p (.lst u))):
  j7 (EA K a) (Cs K 2 (qL (iJ 0) (qL (iJ 1) Ez))) uT (mV 1) Q [none,none] H0:=by
 have l:=hr.length;rw[bC]at l;refine fS (xs:=o) (λi e d j=>(∃x y,e=[x,y])/\j=H0/\bN K H0 ((ps.take i).map λp=>enc p.2) d) #[#[none,none,rfl],rfl,.nil] ?_ (small ()) ?_ ?_ ?_
 .rintro i e d j hi ⟨_,_,r⟩;rw[r.length,bC,we];omega
 .rintro i e d j hi ⟨_,rfl,_⟩;exact bu.of E
 .rintro i x e d j hx ⟨⟨J,I,rfl⟩,rfl,r⟩;have(y,v,A):=hr.get' hx;rw[rj]at v;have(D,m,rfl):=ur.mp v;have q:i<ps.length:=(ko.mp m).1;have H:ps[i]=D:=(ko.mp m).2;have(C,B,rfl,z,g):=(show Rp K _ (.t [_,_]) x from A).bq;have(L,q1,rfl,N,g):=g.inv;have(t2,M,rfl,G,g):=g.inv;obtain rfl:=g.iE;refine#[C,_,rfl,z,rfl,_,_,rfl,_,_,rfl,rfl,?_];refine#[_,rfl,#[_,_,rfl],rfl,?_];rw[EF q,m3,H];exact r.snoc G
 .rintro e d j ⟨_,rfl,r⟩ p m;rw[l,MS]at r;exact k p d m r
noncomputable def JD(d:Ov)(y:Str):Bool:=(d.names.lookup y == some .local||d.names.lookup y == some .cell||d.names.lookup y == some .free)&&!(y == ("__debug__":Str))&&!(y == ("__classdict__":Str))
abbrev Nm(N:List Str)(d:Ov):Prop:=N.all (JD d)=true
noncomputable def JE(d:Ov)(y:Str):Bool:=d.names.lookup y == some .local||d.names.lookup y == some .cell
abbrev Lm(N:List Str)(d:Ov):Prop:=N.all (JE d)=true
theorem Nm.get (h:Nm N d){i:Nat}(e:N[i]?=some x):IU d x/\(x == ("__debug__":Str))=false/\(x == ("__classdict__":Str))=false:=by
 have z:=Oz.mp h x (t9 e);unfold JD at z;simp only[Nr,RC,Bool.not_eq_true']at z;have((z1,j),g):=z;refine#[?_,j,g];rcases z1 with(z1|z1)|z1
 .exact Or.inl (Oa z1)
 .exact Or.inr (Or.inl (Oa z1))
 .exact Or.inr (Or.inr (Oa z1))
theorem Lm.get (h:Lm N d){i:Nat}(e:N[i]?=some x):Loc d x:=by
 have z:=Oz.mp h x (t9 e);unfold JE at z;simp only[RC]at z;rcases z with z|z
 .exact Or.inl (Oa z)
 .exact Or.inr (Oa z)
theorem va (h:Nm X.N X.env.scope)(i:Nat)(d:X.N[i]?=some x:=by rfl):PE X (.Name x e) (mV i):=Cq d (h.get d).1 (h.get d).2.1 (h.get d).2.2
theorem sa {x:Str}{e:Expr}{j:TE}{g d:Pos}(m:X.N.Nodup)(h:Lm X.N X.env.scope)(i:Nat)(l:PE X e j)(hi:X.N[i]?=some x:=by rfl)(hs:RV e (some (.Name x d)) g.line X.env=pure false:=by kernel_rfl)(hf:X.fn x=true\/X.env.scope.names.lookup x=some .local:=by exact .inl rfl):PS X (.Assign [.Name x d] e g) (xh j (iJ i)):=ji m hi (h.get hi) l hs hf
theorem ga (g:X.N.Nodup)(h:Lm X.N X.env.scope)(i:Nat)(hi:X.N[i]?=some x:=by rfl)(e:X.fn x=true\/X.env.scope.names.lookup x=some .local:=by first|exact .inl rfl|exact .inr (by kernel_rfl)):PG X (.Name x d) (iJ i):=iR g hi (h.get hi) e
theorem EX {T:TT}{V:TE}(own:List Str)(fr:List Nat)(hc:X.calm=true)(hkind:d.kind=.function)(hcell:∀x∈d.names,x.2≠.cell)(hnames:∀x∈d.names,x.2=.local->d.names.lookup x.1=some .local)(hfr:∀x∈d.names,x.2=.free->X.env.scope.names.lookup x.1=some .cell\/X.env.scope.names.lookup x.1=some .free)(hin:∀j∈fr,d.names.lookup (X.N.getD j MY)=some .free)(hi:PI X G r S)(hg:∀A C s H,PG (cR X d (own++fr.map λj=>X.N.getD j MY) A C s H) G g)(ht:∀A C s H,zl (cR X d (own++fr.map λj=>X.N.getD j MY) A C s H) u T)(he:∀A C s H,PE (cR X d (own++fr.map λj=>X.N.getD j MY) A C s H) w V)(hgg:PG X (.Name y l) gg)(hsw:RV (.ListComp w [#[G,r,u,0]] d D) (some (.Name y l)) t.line X.env=pure true)(hs:∀x,Pe r X.env x=pure x:=by intro _;rfl):PS X (.Assign [.Name y l] (.ListComp w [#[G,r,u,0]] d D) t) (xh (xR own.length fr S g T V) gg):=by
 intro m s L H D0 I h;rw[exec_Assign_Name_used _ _ _ _ hsw,arm_evalThenUse_ListComp];refine bB (PZ (bB (bB ?_)));refine dw (xS (U:=some (Uw (.Name y l) X.env)) (R:=λ_ s'=>SP X m D0 .next s') own fr hc hkind hcell hnames hfr hin hi hg ht he hs I h λ{A C s2 s4 H2 H3 σ3 vs ys pn pl} I2 f2 J4 hCle hDC dn3 e4 rv hz q=>?_) λ_ _ q=>lj (lj q);have(m4,O,_):=id J4.loc;have(J,es,ep,eC,Z,kC,fC):=O;have I4:Inv X m L (upd H3 s2.heap.objs.size (.lst vs)) s4:=sQ (h'':=s4.heap) I2 f2 J4 hCle (mu _) hDC dn3 #[_,e4] rv hz #[rfl,λ_ _=>rfl];have cL:C≠X.env.locals:=λz=>absurd I2.lt (by rw[<-z];exact Q8.mpr hCle)
 have I5:Inv X (m++[(C,J)]) L (upd H3 s2.heap.objs.size (.lst vs)) s4:=I4.iy λp E=>by
  rcases MH.mp E with z|z
  .exact I4.pin p (I0 _ z)
  .have z:p=(C,J):=by simpa using z
   subst z;exact#[eC,by rw[ay hDC.symm];exact J4.free,cL,I2.Ex hCle,λv Q=>by rw[Z]at Q;cases Q]
 show u4 _ _ (Uw (.Name y l) X.env (.ref s2.heap.objs.size)) _ _ _;refine dw (hgg _ s4 L _ (.ref s2.heap.objs.size) _ _ I5 rfl q) λ_ W ⟨B,H5,P,q6⟩=>?_;have Y:=P.pin (C,J) (I0 _ (I0 _ (by simp)));refine#[m4,#[J,es,ep,Y.1,Z,kC,fC],λh' M=>?_];have I7:Inv X m B H5 W:=P.iy λp E=>P.pin p (I0 _ (M8 _ E));refine#[B,H5,I7.turned (t':=W.toks) (it:=C) (λb o hb e=>(M.2 b hb).trans e) Y.2.1 cL (.inr (FA I2.sz hCle)) (λx c e z=>?_) (λp E z=>?_),q6]
 .have(_,o,ho,_):=I2.cell x c e;exact absurd (ri ho) (by rw[z];exact Q8.mpr hCle)
 .exact absurd (ri (I2.pin p E).1) (by rw[z];exact Q8.mpr hCle)
theorem CY {y:Str}{m o:Pos}{gg:TG}{q l w:Expr}{p:List Expr}{d:Ov}{r:Pos}{D:TI}{g:TG}{E:TT}{G:TE}(I:Ov)(v own:List Str)(fr:List Nat)(O:X.calm=true)(B:X.env.scope=I)(P:X.N=v)(ok:vO d I v fr=true)(hi:PI X w l D)(hg:∀u C s H,PG (cR X d (own++fr.map λj=>v.getD j MY) u C s H) w g)(ht:∀u C s H,zl (cR X d (own++fr.map λj=>v.getD j MY) u C s H) p E)(he:∀u C s H,PE (cR X d (own++fr.map λj=>v.getD j MY) u C s H) q G)(hgg:PG X (.Name y m) gg)(hsw:RV (.ListComp q [#[w,l,p,0]] d r) (some (.Name y m)) o.line X.env=pure true:=by kernel_rfl)(hs:∀x,Pe l X.env x=pure x:=by intro _;rfl):PS X (.Assign [.Name y m] (.ListComp q [#[w,l,p,0]] d r) o) (xh (xR own.length fr D g E G) gg):=by
 subst B P;unfold vO at ok;simp only[Nr,Oz,bne_iff_ne,beq_iff_eq,RC]at ok;have((L,A),J):=ok;refine EX own fr O L (λx t=>(A x t).1.1) (λx t e=>?_) (λx t e=>?_) (λj M=>J j M) hi hg ht he hgg hsw hs
 .rcases(A x t).1.2 with z|z
  .exact absurd e z
  .exact z
 .rcases(A x t).2 with(z|z)|z
  .exact absurd e z
  .exact .inl z
  .exact .inr z
end L2
open Lean in
def r2:List Name:=[`ok,`at',`kp,`bd,`kL,`rfl,`iD,`z_len,`PySem.boot_len,`PySem.F.plainAttrs_list,`aq,`ao,`K,`jq,`aB,`PassesOwn.never,`z_range]
open Lean in
def r3:List (Name × Name × Nat × List Nat):=[(`Z0,`iA,16,[1000,0,1,1001,1002,1003,2,204,101,3,4,4]),
 (`Z1,`cZ,5,[100,101,4]),
 (`Z2,`sa,6,[100,101,102,103,4,5,6]),
 (`Z3,`iR,99,[100,101,205,7,8]),
 (`Z4,`dQ,9,[206,1,207,208,100,3,3,4,4]),
 (`Z5,`bY,5,[100,101]),
 (`Z6,`Bj,9,[100,1,101,102,103,3,3,4,4]),
 (`Z8,`Am,12,[209,100,101,102,103,104,4,4,4,4,4]),
 (`Z9,`gm,99,[100,101,210,9]),
 (`Za,`cZ,99,[100,211]),
 (`Zb,`iS,5,[10,212,205,205,100,4,4]),
 (`Zc,`gy,11,[100,101,102,103,205,205,205,11,104,105,12,106,13]),
 (`Zd,`kI,8,[100,101,213]),
 (`Ze,`bW,3,[100]),
 (`Zf,`CY,15,[100,101,102,103,205,205,205,11,104,105,106,107,108,5,13]),
 (`Zg,`eu,5,[100]),
 (`Zh,`Ao,99,[14,100,214,9]),
 (`Zi,`aJ,5,[100,101,4]),
 (`Zj,`fh,8,[100,101,102,15]),
 (`Zk,`qA,8,[215,205,100,101,102,13]),
 (`Zl,`gm,7,[100,101,102,9]),
 (`Zm,`aS,8,[100,101,102]),
 (`Zn,`uI,6,[1,216,100,4]),
 (`Zo,`cH,4,[100]),
 (`Zp,`yV,6,[100,101,4,4,4]),
 (`Zq,`fh,99,[100,101,102,15])]
set_option hygiene false in
open Lean in
def r8:Nat->MacroM Term
 | 0=>`(hr.mono ())
 | 1=>`(by left)
 | 2=>`(.nil)
 | 3=>`(by decide)
 | 4=>`(by rfl)
 | 5=>`(by kernel_rfl)
 | 6=>`(by exact .inl rfl)
 | 7=>`(Or.inl (by kernel_rfl))
 | 8=>`(by first|exact .inl rfl|exact .inr (by kernel_rfl))
 | 9=>`(λ_ _=>rfl)
 | 10=>`(2)
 | 11=>`(by decide)
 | 12=>`(λ_ _ _ _=>eN)
 | 13=>`(by intro _;rfl)
 | 14=>`(mK hr)
 | _=>`(sA _)
open Lean in
def r4 (f:Name)(a:Array Term):MacroM Term:=do
 let some (_,n,k,c):=r3.find? (·.1==f) | Macro.throwUnsupported
 let b←c.mapM λi=>do
  if i<100 then r8 i else if i<200 then return a.getD (i-100) ⟨.missing⟩ else if i<1000 then return mkIdent (r2.getD (i-200) .anonymous) else return mkIdent ((a.getD (i/1000-1) ⟨.missing⟩).raw.getId++r2.getD (i%1000) .anonymous)
 let b:=b.toArray
 if k==99 then `($(mkIdent n) $b*) else
 let h←`(_)
 let s:=Array.replicate k h
 `(@$(mkIdent n) $s* $b*)
local macro_rules|`($f:ident $a*)=>r4 f.getId (a.map λx=>⟨x.raw⟩)
namespace G34
open PySem L2
noncomputable def top(i:Nat):Stmt:=PySem.Challenge.pw_gapwork_k34_fillings_refused.main.body.getD i (.Pass #[0,0,0,0])
noncomputable abbrev EY:Stmt:=top 3
noncomputable abbrev EZ:Stmt:=top 7
noncomputable abbrev fU:Stmt:=top 12
noncomputable abbrev iX:Stmt:=top 16
noncomputable abbrev iY:Stmt:=top 17
noncomputable abbrev kR:Stmt:=top 18
noncomputable abbrev iN:Stmt:=top 19
noncomputable abbrev iU:Stmt:=top 20
noncomputable abbrev fV:Stmt:=top 21
noncomputable abbrev vR:Stmt:=top 22
noncomputable abbrev nU:Stmt:=top 23
noncomputable abbrev bU:Stmt:=top 24
noncomputable abbrev oV:Stmt:=top 26
noncomputable abbrev jL:Stmt:=top 28
noncomputable abbrev dm:Stmt:=top 29
noncomputable abbrev jM:Stmt:=top 30
noncomputable abbrev kU:Stmt:=top 31
noncomputable abbrev sS:Stmt:=top 33
noncomputable abbrev sU:Stmt:=top 34
noncomputable abbrev cU:Stmt:=top 35
noncomputable abbrev jN:Stmt:=top 36
noncomputable abbrev fW:Stmt:=top 37
noncomputable abbrev jG:Stmt:=top 38
noncomputable abbrev iZ:Stmt:=top 39
noncomputable abbrev gQ:Stmt:=top 40
noncomputable abbrev kW:Stmt:=top 41
noncomputable abbrev iO:Stmt:=top 42
noncomputable abbrev jO:Stmt:=top 43
noncomputable abbrev dB:Stmt:=top 44
noncomputable abbrev iF:Stmt:=top 45
noncomputable abbrev kX:Stmt:=top 46
noncomputable abbrev nt:Stmt:=top 47
noncomputable abbrev lX:Stmt:=top 48
noncomputable abbrev cN:Stmt:=top 49
noncomputable abbrev i8:Stmt:=top 50
noncomputable abbrev nu:Stmt:=top 51
noncomputable abbrev kY:Stmt:=top 52
noncomputable abbrev kZ:Stmt:=top 53
noncomputable abbrev eB:Stmt:=top 54
noncomputable abbrev k7:Stmt:=top 55
noncomputable abbrev fX:Stmt:=top 56
noncomputable abbrev ig:Stmt:=top 57
noncomputable abbrev pX:Stmt:=top 58
noncomputable abbrev nv:Stmt:=top 59
noncomputable abbrev jP:Stmt:=top 60
noncomputable abbrev pY:Stmt:=top 61
theorem zz :aK ["_law_feed_here","_law_many","_law_digit","_law_one"] Vy (ak sU):=#[rfl,rfl,rfl,by decide,rfl,by decide,by decide]
theorem E1 (F:ic K "_law_take" "_law_take" sU f t):bH P w K mg base eZ 1 f t Vy eK:=by
 refine F.ok zz (λu H Q E h=>?_) (λy A r s H u Q E hr h=>?_)
 .have(a,m,rfl,_):=h;rfl
 have(a,m,rfl,g,v,(p,q,d),k):=h
 refine#[_,bY (kI (Zq mH (Z9 aN (pv 0)) aq)
   (bY (ji (i:=2) zz.nd rfl (Or.inl rfl) (aS iM (Z9 aN (pv 0)) (pv 1)))
   (bY (yV (aS j5 (Z9 aN (pv 0)) (pv 1)) (vE (pv 0) aq set_list))
   (bW (cH (pv 2))))) jq)
  (bY (ji (i:=3) zz.nd rfl (Or.inl rfl) (aS iM (aS jI (Z9 aN (pv 0)) aq) aq))
  (bY (yV (aS cK (aS iM (aS cK (aS jI (pv 3) aq) aq) aq) aq) (vE (pv 0) aq set_list))
  (bW (cH (aS iM (aS j5 (aS cK (aS jI (pv 3) aq) (Z9 aN (pv 0))) aq) (pv 1)))))),?_]
 have ext:∀l j:Int,Ext a H (upd H a (.lst [.int l,.int j])):=λl j=>#[λb o n e=>by rw[ay n];exact e,l,j,af];refine#[_,rfl,a,_,0,_,rfl,rfl,bu.of d,rfl,_,_,rfl,rfl,_,rfl,?_];refine cM (λ_=>?_) (λ_=>?_)
 .refine#[_,rfl,a,_,0,_,rfl,rfl,bu.of d,rfl,_,rfl,_,_,rfl,rfl,g,?_];refine#[_,rfl,a,_,0,_,rfl,rfl,bu.of d,rfl,_,rfl,_,_,rfl,rfl,#[g,v],?_];refine#[_,rfl,a,_,0,0,rfl,rfl,d,rfl,?_];refine#[_,rfl,?_];exact k _ _ (Tv _ ()) (Sd _ g) (ext _ _)
 .refine#[_,rfl,a,_,1,_,rfl,rfl,bu.of d,rfl,_,_,rfl,rfl,.inr #[by decide,by decide],_,_,rfl,rfl,(by show(0:Int)<2147483647;decide),?_];refine#[_,rfl,_,_,rfl,rfl,.inr #[by decide,by decide],_,_,rfl,rfl,_,_,rfl,rfl,(by show(0:Int)<2147483399;decide),_,_,rfl,rfl,?_];refine#[_,rfl,a,_,1,1,rfl,rfl,d,rfl,?_];refine#[_,rfl,_,_,rfl,rfl,.inr #[by decide,by decide],_,rfl,a,_,1,_,rfl,rfl,bu.of af,rfl,_,_,rfl,rfl,_,_,rfl,rfl,#[by decide,by decide],_,rfl,_,_,rfl,rfl,g,?_];exact k _ _ (Tv _ ()) (Sd _ g) (ext _ _)
theorem qE :aK ["_law_script","_law_k","_law_cell","_law_own"] WJ (ak sS):=#[rfl,rfl,rfl,by decide,rfl,by decide,by decide]
theorem E2 (F:ic K "_law_feed" "_law_feed" sS f t)(p:mg "len"=none):bH P w K mg base eZ 1 f t WJ (zx K):=by
 refine F.ok qE (λy H Q E h=>?_) (λC A o s H y Q E hr h=>?_)
 .have(a,ns,m,rfl,_):=h;rfl
 have(a,ns,k,rfl,j,G,z,D,g):=h
 refine#[_,bY (ji (i:=2) qE.nd rfl (Or.inl rfl) (aS cK (aS jI aq (pv 1)) aq))
  (bY (kI (Zq mY (pv 1) (dQ iD (by rfl) p Qa (aH (pv 0) ao)))
   (bW (ji (i:=2) qE.nd rfl (Or.inl rfl) (gm aN (pv 0) (pv 1) (λ_ _=>rfl))))
   (bW (kI (Zq mH (dQ iD (by rfl) p Qa (aH (pv 0) ao)) aq)
    (bW (ji (i:=2) qE.nd rfl (Or.inl rfl) (aS cK (aS jI (aS iM (gm aN (pv 0) (aS iM (pv 1) (dQ iD (by rfl) p Qa (aH (pv 0) ao))) (λ_ _=>rfl)) aq) aq) (aS jI aq (pv 1)))))
    jq)))
  (bY (ji (i:=3) qE.nd rfl (Or.inl rfl) aq)
  (bY (kI (Zq Jk (pv 2) (aS G6 aq aq)) (bW (ji (i:=3) qE.nd rfl (Or.inl rfl) (pv 2))) jq)
  (bW (cH (bh (aH (pv 3) (aH (aS cK (aS iM (aS cK (aS jI (aS iM (pv 2) aq) aq) (aS jI aq (pv 1))) aq) aq) ao)))))))),?_]
 have e:(ns.map V.int).length=ns.length:=bC _;refine#[_,rfl,_,_,rfl,rfl,.inl #[by decide,by decide],_,_,rfl,rfl,?_];refine#[_,rfl,_,rfl,a,_,rfl,.inl j,_,_,rfl,rfl,_,rfl,?_];refine cM (λc=>?_) (λc=>?_)
 .have u:k<((ns.map V.int).length:Int):=of_decide_eq_true c;rw[e]at u;have(v,q):=Ay (ns:=ns) z u;refine#[_,rfl,_,rfl,a,_,_,_,rfl,rfl,j,q,?_];refine#[_,rfl,_,_,rfl,rfl,#[by decide,by decide,by decide],_,_,rfl,rfl,_,rfl,cM (λ_=>?_) (λ_=>?_)]
  .refine#[_,rfl,_,rfl,_,rfl,_,_,rfl,rfl,(by show(0:Int)<2147483629;decide),_,_,rfl,rfl,.inr #[by decide,by decide],_,rfl,_,_,rfl,rfl,.inl #[by decide,by decide],_,_,rfl,rfl,_,_,rfl,rfl,(by show(0:Int)<2147483629;decide),_,_,rfl,rfl,(by show 2<=mC;decide),λl e=>?_];exact g l _ (ae e _) e #[_,_,af]
  .refine#[_,rfl,_,rfl,_,_,rfl,rfl,(by show(0:Int)<2147483629;decide),_,_,rfl,rfl,.inr #[by decide,by decide],_,rfl,_,_,rfl,rfl,.inl #[by decide,by decide],_,_,rfl,rfl,_,_,rfl,rfl,(by show(0:Int)<2147483629;decide),_,_,rfl,rfl,(by show 2<=mC;decide),λl e=>?_];exact g l _ (ae e _) e #[_,_,af]
 .refine#[_,rfl,a,_,rfl,.inl j,_,_,rfl,rfl,_,rfl,?_];refine cM (λd=>?_) (λd=>?_)
  .have r:(0:Int)<((ns.map V.int).length:Int):=of_decide_eq_true d;have B:(0:Int)<(ns.length:Int):=by rw[e]at r;exact r
   have(v,q):=Ay (ns:=ns) (k:=k % (((ns.map V.int).length:Nat):Int)) (Tv _ ()) (by rw[e];exact Sd _ B);refine#[_,rfl,_,rfl,_,rfl,a,_,rfl,.inl j,_,_,rfl,rfl,r,a,_,_,_,rfl,rfl,j,q,_,_,rfl,rfl,(by show(0:Int)<2147483629;decide),_,_,rfl,rfl,.inr #[by decide,by decide],_,rfl,_,_,rfl,rfl,.inl #[by decide,by decide],_,_,rfl,rfl,?_];refine#[_,rfl,_,_,rfl,rfl,#[by decide,by decide,by decide],_,_,rfl,rfl,_,rfl,cM (λ_=>?_) (λ_=>?_)]
   .refine#[_,rfl,_,rfl,_,rfl,_,_,rfl,rfl,(by show(0:Int)<2147483629;decide),_,_,rfl,rfl,.inr #[by decide,by decide],_,rfl,_,_,rfl,rfl,.inl #[by decide,by decide],_,_,rfl,rfl,_,_,rfl,rfl,(by show(0:Int)<2147483629;decide),_,_,rfl,rfl,(by show 2<=mC;decide),λl e=>?_];exact g l _ (ae e _) e #[_,_,af]
   .refine#[_,rfl,_,rfl,_,_,rfl,rfl,(by show(0:Int)<2147483629;decide),_,_,rfl,rfl,.inr #[by decide,by decide],_,rfl,_,_,rfl,rfl,.inl #[by decide,by decide],_,_,rfl,rfl,_,_,rfl,rfl,(by show(0:Int)<2147483629;decide),_,_,rfl,rfl,(by show 2<=mC;decide),λl e=>?_];exact g l _ (ae e _) e #[_,_,af]
  .refine#[_,rfl,_,_,rfl,rfl,#[by decide,by decide,by decide],_,_,rfl,rfl,_,rfl,cM (λ_=>?_) (λ_=>?_)]
   .refine#[_,rfl,_,rfl,_,rfl,_,_,rfl,rfl,(by show(0:Int)<2147483629;decide),_,_,rfl,rfl,.inr #[by decide,by decide],_,rfl,_,_,rfl,rfl,.inl #[by decide,by decide],_,_,rfl,rfl,_,_,rfl,rfl,(by show(0:Int)<2147483629;decide),_,_,rfl,rfl,(by show 2<=mC;decide),λl e=>?_];exact g l _ (ae e _) e #[_,_,af]
   .refine#[_,rfl,_,rfl,_,_,rfl,rfl,(by show(0:Int)<2147483629;decide),_,_,rfl,rfl,.inr #[by decide,by decide],_,rfl,_,_,rfl,rfl,.inl #[by decide,by decide],_,_,rfl,rfl,_,_,rfl,rfl,(by show(0:Int)<2147483629;decide),_,_,rfl,rfl,(by show 2<=mC;decide),λl e=>?_];exact g l _ (ae e _) e #[_,_,af]
end G34
namespace L2
open PySem
theorem sV (k:Nat):∀{fs:List (Str×V)},fs.length+(k+1)<n->(EC f v fs).length+k<n
 | [],h=>by show 1+k<n;simp at h;omega
 |(g,x)::r,h=>by
  unfold EC
  split
  .rw[MW]at h|-;omega
  .rw[MW]at h|-;have:=sV (f:=f) (v:=v) (n:=n) (k+1) (fs:=r) ();omega
theorem CZ (h:fs.length+1<n):(EC f v fs).length<n:=sV 0 h
theorem bO :(m6 m P w K mg e N l j f g A d s H E).yU.K=K:=rfl
def Cut(b:TS)(D:Ends)(N:St->Hp->Prop):Prop:=∀d H,b D d H->N d H
theorem Cut.go (h:Cut b D N)(g:b D d H):N d H:=h d H g
theorem Az (h:∀N:St->Hp->Prop,Cut b D N->a (D.wn N) d H):aL a b D d H:=h (b D) (λ_ _ x=>x)
theorem E3 (h:D.nx d H):Gj D d H:=h
theorem E4 (h:D.nx (d.set i (some v)) H):xh (tC v) (iJ i) D d H:=h
theorem sW (h:∀j g:St->Hp->Prop,Cut t1 (D.wn g) j->Cut t2 D g->e (D.wn j) d H):aL e (aL t1 t2) D d H:=h (aL t1 t2 D) (t2 D) (λ_ _ x=>x) (λ_ _ x=>x)
theorem pZ (h:∀l j g:St->Hp->Prop,Cut t1 (D.wn j) l->Cut t2 (D.wn g) j->Cut t3 D g->e (D.wn l) d H):aL e (aL t1 (aL t2 t3)) D d H:=h (aL t1 (aL t2 t3) D) (aL t2 t3 D) (t3 D) (λ_ _ x=>x) (λ_ _ x=>x) (λ_ _ x=>x)
theorem lB (h:∀m l j g:St->Hp->Prop,Cut t1 (D.wn l) m->Cut t2 (D.wn j) l->Cut t3 (D.wn g) j->Cut t4 D g->e (D.wn m) d H):aL e (aL t1 (aL t2 (aL t3 t4))) D d H:=h (aL t1 (aL t2 (aL t3 t4)) D) (aL t2 (aL t3 t4) D) (aL t3 t4 D) (t4 D) (λ_ _ x=>x) (λ_ _ x=>x) (λ_ _ x=>x) (λ_ _ x=>x)
theorem sX (h:∀p o m l j:St->Hp->Prop,Cut t1 (D.wn o) p->Cut t2 (D.wn m) o->Cut t3 (D.wn l) m->Cut t4 (D.wn j) l->Cut d D j->g (D.wn p) e H):aL g (aL t1 (aL t2 (aL t3 (aL t4 d)))) D e H:=h (aL t1 (aL t2 (aL t3 (aL t4 d))) D) (aL t2 (aL t3 (aL t4 d)) D) (aL t3 (aL t4 d) D) (aL t4 d D) (d D) (λ_ _ x=>x) (λ_ _ x=>x) (λ_ _ x=>x) (λ_ _ x=>x) (λ_ _ x=>x)
theorem xZ (h:∀r q p o m l:St->Hp->Prop,Cut t1 (D.wn q) r->Cut t2 (D.wn p) q->Cut t3 (D.wn o) p->Cut t4 (D.wn m) o->Cut e (D.wn l) m->Cut d D l->j (D.wn r) g H):aL j (aL t1 (aL t2 (aL t3 (aL t4 (aL e d))))) D g H:=h (aL t1 (aL t2 (aL t3 (aL t4 (aL e d)))) D) (aL t2 (aL t3 (aL t4 (aL e d))) D) (aL t3 (aL t4 (aL e d)) D) (aL t4 (aL e d) D) (aL e d D) (d D) (λ_ _ x=>x) (λ_ _ x=>x) (λ_ _ x=>x) (λ_ _ x=>x) (λ_ _ x=>x) (λ_ _ x=>x)
theorem yb (h:∀u t r q p o m:St->Hp->Prop,Cut t1 (D.wn t) u->Cut t2 (D.wn r) t->Cut t3 (D.wn q) r->Cut t4 (D.wn p) q->Cut g (D.wn o) p->Cut e (D.wn m) o->Cut d D m->l (D.wn u) j H):aL l (aL t1 (aL t2 (aL t3 (aL t4 (aL g (aL e d)))))) D j H:=h (aL t1 (aL t2 (aL t3 (aL t4 (aL g (aL e d))))) D) (aL t2 (aL t3 (aL t4 (aL g (aL e d)))) D) (aL t3 (aL t4 (aL g (aL e d))) D) (aL t4 (aL g (aL e d)) D) (aL g (aL e d) D) (aL e d D) (d D) (λ_ _ x=>x) (λ_ _ x=>x) (λ_ _ x=>x) (λ_ _ x=>x) (λ_ _ x=>x) (λ_ _ x=>x) (λ_ _ x=>x)
theorem sY (h:∀w v u t r q p o:St->Hp->Prop,Cut t1 (D.wn v) w->Cut t2 (D.wn u) v->Cut t3 (D.wn t) u->Cut t4 (D.wn r) t->Cut j (D.wn q) r->Cut g (D.wn p) q->Cut e (D.wn o) p->Cut d D o->m (D.wn w) l H):aL m (aL t1 (aL t2 (aL t3 (aL t4 (aL j (aL g (aL e d))))))) D l H:=h (aL t1 (aL t2 (aL t3 (aL t4 (aL j (aL g (aL e d)))))) D) (aL t2 (aL t3 (aL t4 (aL j (aL g (aL e d))))) D) (aL t3 (aL t4 (aL j (aL g (aL e d)))) D) (aL t4 (aL j (aL g (aL e d))) D) (aL j (aL g (aL e d)) D) (aL g (aL e d) D) (aL e d D) (d D) (λ_ _ x=>x) (λ_ _ x=>x) (λ_ _ x=>x) (λ_ _ x=>x) (λ_ _ x=>x) (λ_ _ x=>x) (λ_ _ x=>x) (λ_ _ x=>x)
theorem Kf {e d:Type}{p:e->d->Prop}(a:e)(b:d)(h:p a b):∃a b,p a b:=#[a,b,h]
theorem Mu {g e d:Type}{p:g->e->d->Prop}(a:g)(b:e)(c:d)(h:p a b c):∃a b c,p a b c:=#[a,b,c,h]
theorem Mv {l j g e:Type}{p:l->j->g->e->Prop}(a:l)(b:j)(c:g)(d:e)(h:p a b c d):∃a b c d,p a b c d:=#[a,b,c,d,h]
theorem Mw {q o m l j g:Type}{p:q->o->m->l->j->g->Prop}(a:q)(b:o)(c:m)(d:l)(e:j)(f:g)(h:p a b c d e f):∃a b c d e f,p a b c d e f:=#[a,b,c,d,e,f,h]
theorem Mx {w v u t r q o m l:Type}{p:w->v->u->t->r->q->o->m->l->Prop}(a:w)(b:v)(c:u)(d:t)(e:r)(f:q)(g:o)(i:m)(j:l)(h:p a b c d e f g i j):∃a b c d e f g i j,p a b c d e f g i j:=#[a,b,c,d,e,f,g,i,j,h]
theorem Kg :T.oh []<=d:=by rw[T.oh];exact MP _
theorem Hy (h:x.dep<=d)(r:T.oh xs<=d):T.oh (x::xs)<=d:=by rw[T.oh];exact Nat.max_le.mpr #[h,r]
theorem Kh (h:T.oh xs<=d):T.dep (.t xs)<=d+1:=by rw[T.dep];exact SQ h
theorem Gs :T.dep (.s x)<=d:=by simp[T.dep]
theorem LD :T.dep (.i x)<=d:=by simp[T.dep]
end L2
local macro_rules|`(tactic|right)=>`(tactic|try dsimp only[L2.bO])
open L2 in
local macro_rules | `(tactic| fail "Z") => `(tactic| first | exact bu.of (by first | assumption | exact af) | exact bQ.of (by first | assumption | exact af) | omega | (dsimp only [List.length_cons, List.length_nil]; decide) | decide | exact Nat.zero_le _ | (refine CZ ?_; (repeat with_reducible refine sV _ ?_); decide))
open L2 in
local macro_rules | `(tactic| fail "S") => `(tactic| first
  | ((with_reducible change @Eq _ _ _); (first | exact rfl | assumption | exact af | (rw [ay (by assumption)]; first | exact af | assumption | (rw [ay (by assumption)]; first | exact af | assumption)) | omega))
  | ((with_reducible first | change @LT.lt _ _ _ _ | change @LE.le _ _ _ _); (first | omega | with_reducible assumption | fail "Z"))
  | assumption
  | ((with_reducible refine And.intro ?_ ?_) <;> fail "S")
  | ((with_reducible refine Or.inl ?_); fail "S")
  | ((with_reducible refine Or.inr ?_); fail "S")
  | ((with_reducible apply Exists.intro); fail "S")
  | ((with_reducible first | change Kc _ _ _ _ | change G7 _ _ _ _ | change Jg _ _ | change EB _ _ | change Jh _ _); first | ((first | refine (?_ : @Eq _ _ _) | refine (?_ : And _ _) | refine (?_ : Or _ _) | refine (?_ : Exists _)); fail "S") | exact True.intro)
  | fail "Z")
open L2 in
local macro_rules | `(tactic| fail "T") => `(tactic| first
  | ((with_reducible first | refine sY ?_ | refine xZ ?_ | refine sX ?_ | refine lB ?_ | refine pZ ?_ | refine sW ?_ | refine Az ?_); intros)
  | (refine (?_ : Exists _); first
     | with_reducible first | apply @Exists.intro Hp | apply @Exists.intro Sp
     | ((fail_if_success (with_reducible apply @Exists.intro (_ -> _))); (with_reducible first | apply Mx | apply Mw | apply Mv | apply Mu | apply Kf | apply Exists.intro)))
  | (refine And.intro ?_ ?_; fail "S")
  | ((try with_reducible first | refine E3 ?_ | refine E4 ?_); refine (by with_reducible assumption : Cut _ _ _) _ _ ?_))
local macro_rules | `(tactic| ext) => `(tactic| first | (fail "T"; ext) | refine And.intro ?_ ?_ | refine (?_ : @ite _ _ _ _ _) | skip)
local macro_rules | `(tactic| fail "F") => `(tactic| first | ((with_reducible apply Exists.intro); fail "F") | ((with_reducible refine And.intro ?_ ?_); fail "S"))
local macro_rules | `(tactic| fail "O") => `(tactic| first | (fail "T"; fail "O") | refine And.intro ?_ ?_ | ((first | (refine Or.inl ?_; fail "F") | (refine Or.inr ?_; fail "F")); fail "O") | refine (?_ : @ite _ _ _ _ _) | skip)
open L2 in
local macro_rules | `(tactic| fail "D") => `(tactic| repeat' first | exact Kg | exact Gs | exact LD | assumption | exact Nat.le_trans (by assumption) (by decide) | refine Kh ?_ | refine Hy ?_ ?_)
namespace G34
open PySem L2
noncomputable def placesOf:List (Str×List Nat):=[("num",[]),("name",[]),("gap",[]),("op",[2,3]),("more",[1,2]),("first",[1]),("others",[1]),("long",[1]),("if",[1,2,3])]
noncomputable def qF:List (Str×V):=[("row",.int 1),("tag",.int 2),("call",.int 2)]
structure HK(K:bA) (w:FT) (mg:Str->Option cB) (dP dM:Addr) (pl:List (Str×V)):Prop where
 mP:mg "PLACES"=some (.ref dP)
 mM:mg "PLACE_OF_MANY"=some (.ref dM)
 kP:KD K w dP pl
 kM:KD K w dM qF
 at_:∀f ps,(f,ps)∈placesOf->∃a,pl.lookup f=some (.ref a)/\∀H,bQ K H a (ps.map λ(j:Nat)=>V.int (j:Int))
def u5(K:bA):Sp:=λj H Q _=>∃(v:V) (d:Tm),j=[v]/\Rp K H (enc d) v/\Wf d/\d.ks.length<=900 /\
 ∀(p:Addr) (e:Hp) (g:List V),aF H e->e p=some (.lst g)->bN K e ((right d).map qO) g->Q (.ref p) e
theorem u6 :∀ks:List Tm,((MU ks.length ([]:List Str)).zip ks).map qO=(ks.map enc).map λk=>.t [.t [],k]
 | []=>rfl
 |k::r=>by rw[MW,OP,QE,M0,M0,M0,u6 r];rfl
theorem qP (e:bnd h ks.length=MU ks.length []):(right (.mk h ks)).map qO=(ks.map enc).map λk=>.t [.t [],k]:=by
 unfold right;show((bnd h ks.length).zip ks).map qO=_;rw[e];exact u6 ks
theorem yc :∀(arms:List (Str×List Str)) (d:List Tm),arms.length=d.length->((arms.map (·.2)).zip d).map qO=NB (λ(a:Str×List Str) k=>T.t [.t (a.2.map .s),k]) arms (d.map enc)
 | [],d,h=>rfl
 |x::r,[],h=>rfl
 |x::r,y::q,h=>by rw[M0,QE,M0,M0,List.zipWith_cons_cons,yc r q (by simpa using h)];rfl
theorem Bw (v:d)(q:List d):jZ (v::q) 0=some v:=bz (j:=0) rfl
theorem l1 {d:Type}:∀{xs:List d},xs.length=1->∃a,xs=[a]
 | [a],_=>#[a,rfl]
theorem l2 {d:Type}:∀{xs:List d},xs.length=2->∃a b,xs=[a,b]
 | [a,b],_=>#[a,b,rfl]
theorem l3 {d:Type}:∀{xs:List d},xs.length=3->∃a b c,xs=[a,b,c]
 | [a,b,c],_=>#[a,b,c,rfl]
theorem Bx (h:a≠b):decide (V.str a=V.str b)=false:=decide_eq_false λz=>h (V.str.inj z)
theorem yd :∀p∈placesOf,p.1≠"match"/\p.1≠"let"/\p.1≠"fold"/\(Rn p.1 qF).isSome=false:=by decide
theorem By (hm:(d,ps)∈placesOf):ps.length<=1000:=(show ∀p∈placesOf,p.2.length<=1000 by decide) _ hm
theorem AA :∀p∈([("row",1),("tag",2),("call",2)]:List (Str×Nat)),p.1≠"match"/\p.1≠"let"/\p.1≠"fold"/\qF.lookup p.1=some (.int (p.2:Int)):=by decide
def HL(hd:Hd)(ks:List Tm):Prop:=∃(d:Str) (r:List T) (e:List Nat),(d,e)∈placesOf/\oS hd (ks.map enc)=.t (.s d::r)/\e.map (λ(j:Nat)=>(T.s d::r)[j]?)=(ks.map enc).map some/\bnd hd ks.length=MU ks.length []
def JF(hd:Hd)(ks:List Tm):Prop:=∃(d:Str) (r:List T) (j:Nat),(d,j)∈([("row",1),("tag",2),("call",2)]:List (Str×Nat))/\oS hd (ks.map enc)=.t (.s d::r)/\(T.s d::r)[j]?=some (.t (ks.map enc))/\bnd hd ks.length=MU ks.length []
theorem E5 (d : fg hd ks.length = true): HL hd ks ∨ JF hd ks ∨ (∃ arms, hd = .mat arms) ∨ (∃ x, hd = .lt x) ∨ ∃ x y, hd = .fold x y := by
  cases hd
  case num n => obtain rfl : ks = [] := by simpa [fg] using d
                exact .inl #["num", [.i n], [], by decide, rfl, rfl, rfl]
  case name x => obtain rfl : ks = [] := by simpa [fg] using d
                 exact .inl #["name", [.s x], [], by decide, rfl, rfl, rfl]
  case gap n => obtain rfl : ks = [] := by simpa [fg] using d
                exact .inl #["gap", [.i n], [], by decide, rfl, rfl, rfl]
  case op s => have(a, b, rfl) := l2 (show ks.length = 2 by simpa [fg] using d)
               exact .inl #["op", [.s s, enc a, enc b], [2, 3], by decide, rfl, rfl, rfl]
  case more => have(a, b, rfl) := l2 (show ks.length = 2 by simpa [fg] using d)
               exact .inl #["more", [enc a, enc b], [1, 2], by decide, rfl, rfl, rfl]
  case first => have(a, rfl) := l1 (show ks.length = 1 by simpa [fg] using d)
                exact .inl #["first", [enc a], [1], by decide, rfl, rfl, rfl]
  case others => have(a, rfl) := l1 (show ks.length = 1 by simpa [fg] using d)
                 exact .inl #["others", [enc a], [1], by decide, rfl, rfl, rfl]
  case long => have(a, rfl) := l1 (show ks.length = 1 by simpa [fg] using d)
               exact .inl #["long", [enc a], [1], by decide, rfl, rfl, rfl]
  case ife => have(a, b, c, rfl) := l3 (show ks.length = 3 by simpa [fg] using d)
              exact .inl #["if", [enc a, enc b, enc c], [1, 2, 3], by decide, rfl, rfl, rfl]
  case row => exact .inr (.inl #["row", [.t (ks.map enc)], 1, by decide, rfl, rfl, rfl])
  case tag t => exact .inr (.inl #["tag", [.s t, .t (ks.map enc)], 2, by decide, rfl, rfl, rfl])
  case call t => exact .inr (.inl #["call", [.s t, .t (ks.map enc)], 2, by decide, rfl, rfl, rfl])
  case mat arms => exact .inr (.inr (.inl #[_, rfl]))
  case lt x => exact .inr (.inr (.inr (.inl #[_, rfl])))
  case fold x y => exact .inr (.inr (.inr (.inr #[_, _, rfl])))
theorem u7 :aK ["term","form"] Wi (ak iN):=#[rfl,rfl,rfl,by decide,rfl,by decide,by decide]
theorem ye (F:ic K "right_in" "right_in" iN f fd)(TB:HK K w mg dP dM pl):bH P w K mg base eZ 1 f fd Wi (u5 K):=by
 refine F.ok u7 (λvs H Q E h=>?_) (λav A al s H vs Q E hr h=>?_)
 .have(v,tm,rfl,_):=h;rfl
 have(v,tm,rfl,I,wf,ag,k):=h
 refine#[_,(bY (ji (i:=1) u7.nd rfl (Or.inl rfl) (Z9 aZ (pv 0)))
  (bY (kI (Zq bR (pv 1) aB) (bW (cH (aS sJ (bh (aH (eu (aH (eu ao) (aH (Z9 aZ (pv 0)) ao))) ao)) (gy (ak iN) ["term","form"] WM [] rfl rfl rfl (by decide) (dZ (Z9 aZ (pv 0))) (λ_ _ _ _=>(iS (n:=3) K rfl rfl (aJ (iR (i:=0) (show(WM:List Str).Nodup by decide) rfl (Or.inl rfl)) (aJ (iR (i:=1) (show(WM:List Str).Nodup by decide) rfl (Or.inl rfl)) (aJ (iR (i:=2) (show(WM:List Str).Nodup by decide) rfl (Or.inl rfl)) aX))))) (λ_ _ _ _=>eN) (λ_ _ _ _=>(eu (aH (pv 1) (aH (pv 2) ao)))))))) jq)
  (bY (kI (Zq bR (pv 1) aB) (bW (cH (bh (aH (eu (aH (eu ao) (aH (Z9 aZ (pv 0)) ao))) (aH (eu (aH (eu (aH (Z9 aZ (pv 0)) ao)) (aH (Z9 aZ (pv 0)) ao))) ao))))) jq)
  (bY (kI (Zq bR (pv 1) aB) (bW (cH (bh (aH (eu (aH (eu ao) (aH (Z9 aZ (pv 0)) ao))) (aH (eu (aH (eu ao) (aH (Z9 aZ (pv 0)) ao))) (aH (eu (aH (eu (aH (Z9 aZ (pv 0)) (aH (Z9 aZ (pv 0)) ao))) (aH (Z9 aZ (pv 0)) ao))) ao)))))) jq)
  (bY (kI (fh Ax (pv 1) (dh (v:=.ref dM) (by rfl) TB.mM rfl) (by with_unfolding_all rfl)) (bW (cH (gy (ak iN) ["term","form"] ["inner"] [] rfl rfl rfl (by decide) (dZ (gm aZ (pv 0) (rM (dh (v:=.ref dM) (by rfl) TB.mM rfl) (pv 1) (λ_ _=>rfl)) (λ_ _=>rfl))) (λ_ _ _ _=>(iR (i:=0) (show(["inner"]:List Str).Nodup by decide) rfl (Or.inl rfl))) (λ_ _ _ _=>eN) (λ_ _ _ _=>(eu (aH (eu ao) (aH (pv 0) ao))))))) jq)
  (bW (cH (gy (ak iN) ["term","form"] ["place"] [0] rfl rfl rfl (by decide) (dZ (rM (dh (v:=.ref dP) (by rfl) TB.mP rfl) (pv 1) (λ_ _=>rfl))) (λ_ _ _ _=>(iR (i:=0) (show(["place","term"]:List Str).Nodup by decide) rfl (Or.inl rfl))) (λ_ _ _ _=>eN) (λ_ _ _ _=>(eu (aH (eu ao) (aH (gm (gM K rfl) (pv 1) (pv 0) (λ_ _=>rfl)) ao)))))))))))),?_]
 right
 have kM:=TB.kM;have kP:=TB.kP;refine sX ?_;intro N1 N2 N3 N4 N5 c1 c2 c3 c4 c5
 cases wf with
 |mk ar wk =>
 rename_i hd ks
 rw[cY]at I;have M:ks.length<=900:=ag;have nE:(ks.map enc).length=ks.length:=bC _;rcases E5 ar with⟨fm,r,ps,hm,he,hp,hb⟩|⟨fm,r,j,hm,he,hj,hb⟩|⟨arms,rfl⟩|⟨x,rfl⟩|⟨x,y,rfl⟩
 .rw[he]at I;have(a,vs,rfl,D,d):=I.bq;have(v0,q0,rfl,S,B):=d.inv;obtain rfl:=S.bj;have(pa,lk,ad):=TB.at_ fm ps hm;have ap:=ad H;ext
  .exact Bw _ _
  ext;have(n1,n2,n3,n4):=yd (fm,ps) hm;refine oU (Bx n1) ?_;ext;refine oU (Bx n2) ?_;ext;refine oU (Bx n3) ?_;ext;refine oU n4 ?_;ext;refine xY (ks:=ks.map enc) D d (ad H) (By hm) hp λp H' ws z h1 r1=>k p H' ws z h1 ?_;rw[qP hb];exact r1
 .rw[he]at I;have(a,vs,rfl,D,d):=I.bq;have(u,hu,ru):=d.get hj;have(b,us,rfl,R,Y):=ru.bq;have(v0,q0,rfl,S,B):=d.inv;obtain rfl:=S.bj;have(n1,n2,n3,n4):=AA (fm,j) hm;have as:Rn fm qF=some (.int (j:Int)):=n4;have au:=bz hu;ext
  .exact Bw _ _
  ext;refine oU (Bx n1) ?_;ext;refine oU (Bx n2) ?_;ext;refine oU (Bx n3) ?_;ext;refine xX (by rw[n4];rfl) ?_;ext;refine Bs (ks:=ks.map enc) R Y () λp H' ws z h1 r1=>k p H' ws z h1 ?_;rw[qP hb];exact r1
 .skip
  have O:ks.length=arms.length+1:=by simpa[fg]using ar
  match ks,O with
  |k0::kr,O =>
  have ah:arms.length=kr.length:=by simpa using O.symm
  unfold oS at I;have(a,vs,rfl,D,d):=I.bq;have(v0,q0,rfl,S,B):=d.inv;obtain rfl:=S.bj;have(v1,q1,rfl,e1,L):=B.inv;have(v2,q2,rfl,e2,J):=L.inv;obtain rfl:=J.iE;have(b,us,rfl,R,Y):=e2.bq;ext;intro p1 q;have z:=ae q (.tup []);refine#[_,rfl,a,_,1,_,rfl,rfl,D.same z,rfl,(by show 2<=mC;decide),λV o=>?_];have W:=z.trans (ae o (.tup [.ref p1,v1]));refine#[(by show 1<=mC;decide),λX m=>?_];have G:=W.trans (ae m (.lst [.ref V]));refine#[_,rfl,a,_,2,_,rfl,rfl,D.same G,rfl,b,rfl,#[_,R.same G],?_];refine Bt (arms:=arms) (ks:=kr.map enc) (by rw[bC];exact ah) (R.same G) (by exact Y.same G) (by rw[bC];have:=M;simp at this;omega) λp H' ws N h4 r4=>?_;have z3:H' X=some (.lst [.ref V]):=N _ _ af;refine#[X,p,_,_,rfl,rfl,z3,h4,?_,λp5 g=>?_]
  .have l:=r4.length;rw[OR,bC]at l;rw[l];exact small (by have:=M;simp at this;show 1+_<=1000;omega)
  have U:=N.trans (ae g (.lst ([.ref V]++ws)));refine k p5 _ _ (G.trans U) af ?_
  have e:(right (.mk (.mat arms) (k0::kr))).map qO=T.t [.t [],enc k0]::NB (λ(a:Str×List Str) k=>T.t [.t (a.2.map .s),k]) arms (kr.map enc):=by
   unfold right;show((([]:List Str)::arms.map (·.2)).zip (k0::kr)).map qO=_;rw[QE,M0];rw[yc arms kr ah];rfl
  rw[e];refine .cons ?_ (r4.same (ae g _));refine Rp.same ((ae m _).trans U) (Rp.new o (.cons (Rp.new q .nil) (.one (e1.same z))))
 .skip
  have O:ks.length=2:=by simpa[fg]using ar
  match ks,O with
  | [k0,k1],O =>
  unfold oS at I;have(a,vs,rfl,D,d):=I.bq;have(v0,q0,rfl,S,B):=d.inv;obtain rfl:=S.bj;have(v1,q1,rfl,e1,L):=B.inv;have(v2,q2,rfl,e2,J):=bN.inv L;have(v3,q3,rfl,e3,Z):=bN.inv J;obtain rfl:=Z.iE;ext;intro p1 q;have z:=ae q (.tup []);refine#[_,rfl,a,_,2,_,rfl,rfl,D.same z,rfl,(by show 2<=mC;decide),λV o=>?_];have W:=z.trans (ae o (.tup [.ref p1,v2]));refine#[_,rfl,a,_,1,_,rfl,rfl,D.same W,rfl,(by show 1<=mC;decide),λX m=>?_];have G:=W.trans (ae m (.tup [v1]));refine#[_,rfl,a,_,3,_,rfl,rfl,D.same G,rfl,(by show 2<=mC;decide),λp4 C=>?_];have N:=G.trans (ae C (.tup [.ref X,v3]));refine#[(by show 2<=mC;decide),λp5 g=>?_];have U:=N.trans (ae g (.lst [.ref V,.ref p4]));refine k p5 _ _ U af ?_;refine .cons (Rp.same ((ae m _).trans ((ae C _).trans (ae g _))) (Rp.new o (.cons (Rp.new q .nil) (.one (e2.same z))))) (.one ?_);exact Rp.same (ae g _) (Rp.new C (.cons (Rp.new m (.one (e1.same W))) (.one (e3.same G))))
 .skip
  have O:ks.length=3:=by simpa[fg]using ar
  match ks,O with
  | [k0,k1,k2],O =>
  unfold oS at I;have(a,vs,rfl,D,d):=I.bq;have(v0,q0,rfl,S,B):=d.inv;obtain rfl:=S.bj;have(v1,q1,rfl,e1,L):=B.inv;have(v2,q2,rfl,e2,J):=L.inv;have(v3,q3,rfl,e3,Z):=J.inv;have(v4,q4,rfl,e4,an):=Z.inv;have(v5,q5,rfl,e5,am):=an.inv;obtain rfl:=am.iE;ext;intro p1 q;have z:=ae q (.tup []);refine#[_,rfl,a,_,1,_,rfl,rfl,D.same z,rfl,(by show 2<=mC;decide),λV o=>?_];have W:=z.trans (ae o (.tup [.ref p1,v1]));refine#[MP _,λX m=>?_];have G:=W.trans (ae m (.tup []));refine#[_,rfl,a,_,4,_,rfl,rfl,D.same G,rfl,(by show 2<=mC;decide),λp4 C=>?_];have N:=G.trans (ae C (.tup [.ref X,v4]));refine#[_,rfl,a,_,2,_,rfl,rfl,D.same N,rfl,_,rfl,a,_,3,_,rfl,rfl,D.same N,rfl,(by show 2<=mC;decide),λp5 g=>?_];have U:=N.trans (ae g (.tup [v2,v3]));refine#[_,rfl,a,_,5,_,rfl,rfl,D.same U,rfl,(by show 2<=mC;decide),λp6 ab=>?_];have s6:=U.trans (ae ab (.tup [.ref p5,v5]));refine#[(by show 3<=mC;decide),λp7 aa=>?_];have s7:=s6.trans (ae aa (.lst [.ref V,.ref p4,.ref p6]));refine k p7 _ _ s7 af ?_;have ai:=(ae ab (.tup [.ref p5,v5])).trans (ae aa (.lst [.ref V,.ref p4,.ref p6]));have ac:=(ae g (.tup [v2,v3])).trans ai;have aj:=(ae m (.tup [])).trans ((ae C (.tup [.ref X,v4])).trans ac);refine .cons (Rp.same aj (Rp.new o (.cons (Rp.new q .nil) (.one (e1.same z))))) (.cons (Rp.same ac (Rp.new C (.cons (Rp.new m .nil) (.one (e4.same G))))) (.one ?_));exact Rp.same (ae aa _) (Rp.new ab (.cons (Rp.new g (.cons (e2.same N) (.one (e3.same N)))) (.one (e5.same U))))
theorem u9 (d:Tm)(wf:Wf d):(right d).map (·.2)=d.ks:=by
 cases wf with
 |mk ar wk =>
 rename_i h ks
 show(((bnd h ks.length).zip ks).map Prod.snd)=ks;refine List.map_snd_zip ?_
 cases h<;>simp_all[bnd,fg]
theorem BA (d:Tm)(wf:Wf d):(right d).length=d.ks.length:=by
 have z:=congrArg PF (u9 d wf)
 rwa [bC]at z
theorem Wf.kids (wf:Wf d):∀k∈d.ks,Wf k:=by
 cases wf with
 |mk ar wk=>exact wk
theorem vc :∀l:List Tm,l.length<=Tm.sizes l
 | []=>mu _
 |k::r=>by rw[Tm.b7,MW];have:=Tm.size_pos k;have:=vc r;omega
theorem yf (d:Tm):d.ks.length<d.size:=by
 cases d with
 |mk h ks =>
  rw[Tm.ju];show ks.length<_
  have:ks.length<=Tm.sizes ks:=by
   induction ks with
   |nil=>exact mu _
   |cons k r ih=>rw[Tm.b7,MW];have:=Tm.size_pos k;omega
  omega
theorem JG (h:n<=950000):n<mC:=by rw[Rl];omega
theorem oW :∀{ks:List Tm},t∈Tm.eJ ks->∃k∈ks,t∈k.parts
 | [],h=>by simp[Tm.eJ]at h
 |k::r,h=>by
  rw[Tm.ie]at h;rcases MH.mp h with h|h
  .exact#[k,.head _,h]
  .have(x,d,h):=oW h;exact#[x,.tail _ d,h]
theorem zB (t:Tm):t∈t.parts:=by
 cases t with
 |mk h ks=>rw[Tm.jK];exact .head _
theorem ny :∀{ks:List Tm},k∈ks->k.size<=Tm.sizes ks
 |_::_,.head _=>by rw[Tm.b7];omega
 |_::_,.tail _ h=>by rw[Tm.b7];have:=ny h;omega
theorem zC (a:Tm):∀t∈a.parts,t.size<=a.size:=by
 induction a using Tm.induct with
 |hm h ks ih =>
  intro t ht;rw[Tm.jK]at ht;rcases vy.mp ht with rfl|ht
  .exact mu _
  .have(k,d,e):=oW ht;have j:=ih k d t e;have g:=ny d;rw[Tm.ju];omega
def IW(d:Tm):Prop:=d.size<=940000/\∀t∈d.parts,t.ks.length<=900
theorem IW.of (h:d.size<=900):IW d:=#[(),λt e=>by have:=yf t;have:=zC d t e;omega]
def nV(K:bA):Sp:=λj H Q _=>∃(v:V) (d:Tm),j=[v]/\Rp K H (enc d) v/\Wf d/\IW d /\
 ∀(p:Addr) (e:Hp) (g:List V),aF H e->H p=none->e p=some (.lst g)->bN K e (d.parts.map enc) g->Q (.ref p) e
noncomputable def dS:Tm->Option Int
 |.mk (.gap n) _=>some n
 |_=>none
def qb(K:bA):Sp:=λg H Q _=>∃(v:V) (d:Tm),g=[v]/\Rp K H (enc d) v/\Wf d/\d.size<=900 /\
 ∀(p:Addr) (e:Hp),aF H e->H p=none->e p=some (.lst ((d.parts.filterMap dS).map V.int))->Q (.ref p) e
def JH(K:bA)(H:Hp)(v:V)(lt p:Addr)(o:Tm)(m:Nat)(q:St)(e:Hp):Prop :=
 ∃(g d:List Tm) (j l:List V) (r:Option V),q=[some v,some (.ref lt),some (.ref p),r]/\aF H e/\e lt=some (.lst j)/\bN K e (g.map enc) j/\e p=some (.lst l)/\bN K e (d.map enc) l/\(∀k∈d,Wf k)/\g++Tm.eJ d.reverse=o.parts/\g.length+Tm.sizes d=o.size/\m=Tm.sizes d
def rP(K:bA):Sp:=λj H Q _=>∃(v:V) (d:Tm),j=[v]/\Rp K H (enc d) v/\Wf d/\d.ks.length<=900 /\
 ∀(p:Addr) (e:Hp) (g:List V),aF H e->H p=none->e p=some (.lst g)->bN K e (d.ks.map enc) g->Q (.ref p) e
theorem E6 :aK Wi Wi (ak iU):=#[rfl,rfl,rfl,by decide,rfl,by decide,by decide]
theorem C0 (F:ic K "inner_terms" "inner_terms" iU f t)(g:dH P w K mg base "right_in" 1 Wi (u5 K) gR rfd):bH P w K mg base eZ 2 f t Wi (rP K):=by
 refine F.ok E6 (λy H Q E h=>?_) (λG A l s H y Q E hr h=>?_)
 .have(v,d,rfl,_):=h;rfl
 have(v,d,rfl,C,wf,q,k):=h;refine#[_,(bW (cH (gy (ak iU) Wi ["names","inner"] [] rfl rfl rfl (by decide) (cJ (iA g.ok (hr.mono ()) rfl g.at' g.kp g.bd .nil kL (aH (pv 0) ao))) (λ_ _ _ _=>(iS (n:=2) K rfl rfl (aJ (iR (i:=0) (show(["names","inner"]:List Str).Nodup by decide) rfl (Or.inl rfl)) (aJ (iR (i:=1) (show(["names","inner"]:List Str).Nodup by decide) rfl (Or.inl rfl)) aX)))) (λ_ _ _ _=>eN) (λ_ _ _ _=>(pv 1))))),?_];have I:=yf d;refine#[_,rfl,v,d,rfl,C,wf,(),λp J u m r z=>?_];refine#[p,rfl,#[_,bu.of r],?_];refine zy r z (by rw[BA d wf];omega) λB j e o=>?_;have D:(right d).map (λp=>enc p.2)=d.ks.map enc:=by rw[<-u9 d wf,Ph];rfl
 rw[D]at o;exact k B _ j (m.trans (ae e _)) (m.free e) af (o.same (ae e _))
theorem rQ :aK ["term","told","waiting","here"] Wi (ak vR):=#[rfl,rfl,rfl,by decide,rfl,by decide,by decide]
theorem C1 (F:ic K "parts" "parts" vR f fd)(W:dH P w K mg base "inner_terms" 2 Wi (rP K) gR rfd):bH P w K mg base eZ 3 f fd Wi (nV K):=by
 refine F.ok rQ (λvs H Q E h=>?_) (λan A aa s H vs Q E hr h=>?_)
 .have(v,B,rfl,_):=h;rfl
 have(v,B,rfl,hv,wf,(aj,M),k):=h
 refine#[_,(bY (ji (i:=1) rQ.nd rfl (Or.inl rfl) (bh ao))
  (bY (ji (i:=2) rQ.nd rfl (Or.inl rfl) (bh (aH (pv 0) ao)))
  (bY (pJ RD (pL (pv 2) (λ_=>rfl))
   (bY (ji (i:=3) rQ.nd rfl (Or.inl rfl) (CJ OL OQ P4 CL (pv 2)))
  (bY (cC (Am OL MN MO cQ (pv 1) (aH (pv 3) ao)))
  (bW (cC (Am OL Oc Od jF (pv 2) (aH (uW (iA W.ok (hr.mono ()) rfl W.at' W.kp W.bd .nil kL (aH (pv 3) ao)) cW cW (bL (qM mX aq))) ao)))))))
  (bW (cH (pv 1)))))),?_]
 refine#[MP _,λlt y=>?_];have s1:=ae y (.lst []);refine#[_,rfl,(by show 1<=mC;decide),λg j=>?_];have s2:=s1.trans (ae j (.lst [v]));have t:lt≠g:=λz=>by subst z;rw[af]at j;cases j
 have ah:upd (upd H lt (.lst [])) g (.lst [v]) lt=some (.lst []):=by rw[ay t];exact af
 refine#[JH K H v lt g B,#[B.size,[],[B],[],[v],none,rfl,s2,ah,.nil,af,.one (hv.same s2),(λk hk=>by cases hk with|head=>exact wf|tail _ h=>cases h),?_,?_,?_],?_]
 .simp[Tm.eJ]
 .simp[Tm.sizes]
 .simp[Tm.sizes]
 .rintro m σ H' ⟨dn,st,r,us,h0,rfl,sm,h1,Z,U,r2,I,V,e2,rfl⟩;have l1:=Z.length;rw[bC]at l1;refine#[_,rfl,_,.inl #[us,bu.of U,rfl],?_];rcases Q5 st with rfl|⟨st',hd,rfl⟩
  .obtain rfl:=r2.iE;refine oU rfl ?_;refine#[_,rfl,k lt H' r sm y h1 ?_];have z:dn=B.parts:=by simpa[Tm.eJ]using V
   rw[<-z];exact Z
  .rw[List.concat_eq_append]at *;rw[m3]at r2;have(d,ul,rfl,r3,r4):=r2.split;have(u,q,rfl,ru,rq):=(show bN K H' [enc hd] ul from r4).inv;obtain rfl:=rq.iE;have wh:Wf hd:=I hd (by simp)
   have ac:dn.length+Tm.sizes st'+hd.size=B.size:=by
    rw[Tm.fR,Tm.b7]at e2;simp only[Tm.sizes]at e2;omega
   have hk:=yf hd;have ad:hd.ks.length<=900:=M hd (by rw[<-V,Qs,Tp,TJ,Tm.ie];exact I0 _ (M8 _ (zB hd)));refine xX (by simp) ?_;refine#[λY ai=>∃m',m' < Tm.sizes (st'++[hd])/\JH K H v lt g B m' Y ai,λ_ _ z=>z,?_];refine#[_,rfl,.inl #[rfl,_,bu.of U],g,_,u,rfl,rfl,U,by simp,?_];rw[TY];have k3:Kt H' (upd H' g (.lst d)):=Kt.lst U _;have G:upd H' g (.lst d) lt=some (.lst r):=by rw[ay t];exact h1
   refine#[_,rfl,.inl #[rfl,_,bu.of G],_,rfl,lt,_,_,rfl,rfl,G,JG (),?_];have k4:Kt (upd H' g (.lst d)) (upd (upd H' g (.lst d)) lt (.lst (r++[u]))):=Kt.lst G _;have D:upd (upd H' g (.lst d)) lt (.lst (r++[u])) g=some (.lst d):=by rw[ay t.symm];exact af
   have O:upd (upd H' g (.lst d)) lt (.lst (r++[u])) lt=some (.lst (r++[u])):=af
   have J:aF H (upd (upd H' g (.lst d)) lt (.lst (r++[u]))):=λb o e=>by
    have T:b≠lt:=au e y;have n2:b≠g:=λz=>by subst z;rw[ay T.symm.symm]at j;rw[e]at j;cases j
    rw[ay T,ay n2];exact sm b o e
   have p:=k3.trans k4;generalize upd (upd H' g (.lst d)) lt (.lst (r++[u]))=H4 at p D O J|-;refine#[_,rfl,.inl #[rfl,_,bu.of D],?_];refine#[_,rfl,u,hd,rfl,ru.kt p,wh,ad,λp6 X l s5 am h6 r6=>?_];have l6:=r6.length;rw[bC]at l6;refine#[_,rfl,_,rfl,p6,l,rfl,bu.of h6,(by decide),?_,λS L=>?_]
   .rw[pW,NP];exact small ()
   rw[pW]at *;have R:=s5.trans (ae L (.lst l.reverse));have N:=R _ _ D;have ag:=R _ _ O;have l3:=r3.length;rw[bC]at l3;have al:=vc st';refine#[g,S,_,_,rfl,rfl,N,af,?_,?_]
   .rw[NP];exact Ny (JG ())
   have k8:Kt (upd X S (.lst l.reverse)) (upd (upd X S (.lst l.reverse)) g (.lst (d++l.reverse))):=Kt.lst N _;have C:=(Kt.same R).trans k8;have ab:Kt X (upd (upd X S (.lst l.reverse)) g (.lst (d++l.reverse))):=(Kt.same (ae L _)).trans k8;have ak:Tm.sizes hd.ks+1=hd.size:=by cases hd with|mk h ks=>rw[Tm.ju];rfl
   refine#[Tm.sizes st'+Tm.sizes hd.ks,by rw[Tm.fR];simp only[Tm.sizes];omega,dn++[hd],st'++hd.ks.reverse,r++[u],d++l.reverse,_,rfl,?_,?_,?_,af,?_,?_,?_,?_,?_]
   .intro b o e
    have n2:b≠g:=λz=>by
     subst z;have T:b≠lt:=au e y;rw[ay T]at j;rw[e]at j;cases j
    rw[ay n2];exact R b o (J b o e)
   .rw[ay t];exact ag
   .rw[m3];exact((Z.kt (p.trans C))).snoc (ru.kt (p.trans C))
   .rw[m3,Q9];exact(r3.kt (p.trans C)).append (r6.kt ab).reverse
   .intro x hx;rcases MH.mp hx with h|h
    .exact I x (M8 _ h)
    .exact(Wf.kids wh) x (SW.mp h)
   .rw[Qs,TZ,Tm.oB];rw[Qs,Tp,TJ,Tm.ie]at V;rw[<-V]
    cases hd with
    |mk h ks=>rw[Tm.jK];simp[Tm.ks]
   .rw[j3,Tm.fR,Tm.kB,<-ac]
    cases hd with
    |mk h ks=>rw[Tm.ju];simp[Tm.ks];omega
   .rw[Tm.fR,Tm.kB]
noncomputable def hdS:Hd->Str
 |.num _=>"num"|.name _=>"name"|.gap _=>"gap"|.op _=>"op"|.row=>"row"|.more=>"more"|.first=>"first"|.others=>"others"|.long=>"long"|.tag _=>"tag"|.call _=>"call"|.mat _=>"match"|.ife=>"if"|.lt _=>"let"|.fold _ _=>"fold"
theorem vd (d:Tm):∃rest,enc d=.t (.s (hdS d.hd)::rest):=by
 cases d with
 |mk h ks=>rw[cY];cases h<;>exact#[_,rfl]
theorem AB (d:Tm):decide (V.str (hdS d.hd)=V.str "gap")=(dS d).isSome:=by
 cases d with
 |mk h ks=>cases h<;>first|rfl|decide|(show decide (V.str _=V.str _)=_;exact(by decide))
theorem C3 :aK Wi Wi (ak nU):=#[rfl,rfl,rfl,by decide,rfl,by decide,by decide]
theorem zD (F:ic K "gaps_in" "gaps_in" nU f S)(PA:dH P w K mg base "parts" 3 Wi (nV K) gP pfd):bH P w K mg base eZ 4 f S Wi (qb K):=by
 refine F.ok C3 (λW H Q E h=>?_) (λaa A u s H W Q E hr h=>?_)
 .have(v,j,rfl,_):=h;rfl
 have(v,j,rfl,Z,wf,l,k):=h;refine#[_,(bW (cH (gy (ak nU) Wi ["part"] [] rfl rfl rfl (by decide) (cJ (iA PA.ok (hr.mono ()) rfl PA.at' PA.kp PA.bd .nil kL (aH (pv 0) ao))) (λ_ _ _ _=>(iR (i:=0) (show(["part"]:List Str).Nodup by decide) rfl (Or.inl rfl))) (λ_ _ _ _=>(fE (Zq bR (Z9 (gM K rfl) (pv 0)) aB))) (λ_ _ _ _=>(Z9 (gM K rfl) (pv 0)))))),?_];refine#[_,rfl,v,j,rfl,Z,wf,.of l,λp H1 U J B R N=>?_];refine#[p,rfl,#[_,bu.of R],?_];have l1:=N.length;rw[bC,Tm.cX]at l1;refine fS (xs:=U) (λi d g m=>(∃x,d=[x])/\m=H1/\g=((j.parts.take i).filterMap dS).map V.int) #[#[none,rfl],rfl,rfl] ?_ (small ()) ?_ ?_ ?_
 .rintro i d g m hi ⟨_,_,rfl⟩;rw[bC];exact FA (NL _ _) (by rw[we];omega)
 .rintro i d g m hi ⟨_,rfl,_⟩;exact bu.of R
 .rintro i x d g m hx ⟨⟨x0,rfl⟩,rfl,rfl⟩;have(y,O,L):=N.get' hx;rw[rj]at O;have(pt,B,rfl):=ur.mp O;have C:i<j.parts.length:=(ko.mp B).1;have ep:j.parts[i]=pt:=(ko.mp B).2;have(rest,G):=vd pt;rw[G]at L;have(M,X,rfl,I,Y):=L.bq;have(t1,q1,rfl,g1,r):=Y.inv;obtain rfl:=g1.bj;refine#[_,rfl,M,_,0,_,rfl,rfl,I,Bw _ _,rfl,_,rfl,?_];rw[EF C,O2,m3,ep];rw[AB pt]
  cases e:dS pt with
  |none =>
   refine oU rfl #[#[_,rfl],rfl,?_];simp[e]
  |some n =>
   refine xX rfl ?_
   cases pt with
   |mk hh ks =>
   have eh:hh=.gap n:=by
    cases hh<;>simp[dS]at e
    rw[e]
   subst eh;rw[cY]at G
   have D:rest=[.i n]:=by
    have z:T.t [.s "gap",.i n]=T.t (.s (hdS (Hd.gap n))::rest):=G;injection z with z;injection z with _ z;exact z.symm
   subst D;have(t2,q2,rfl,g2,o):=r.inv;obtain rfl:=o.iE;obtain rfl:=g2.di;refine#[_,rfl,M,_,1,_,rfl,rfl,I,rfl,#[_,rfl],rfl,?_];simp[e]
 .rintro d g m ⟨_,rfl,rfl⟩ q hq;rw[l1,<-Tm.cX,MS];exact k q _ (J.trans (ae hq _)) (J.free hq) af
end G34
namespace L2
open PySem
noncomputable def isStar:Expr->Bool
 |.Starred _ _=>true
 |_=>false
theorem C4 (h:isStar e=false):M3 (e::d) env=(false,eval e env)::M3 d env:=by
 cases e<;>first|rfl|cases h
theorem cZ {e:Expr}{g:List Expr}{d:TE}{t:TA}(j:PE X e d)(hr:PA X g t)(hs:isStar e=false:=by rfl):PA X (e::g) (mZ d t):=aH j hr (C4 hs)
end L2
namespace L2
open PySem PySem.Spec PyProof.Rows
theorem E7 {d:Type}{xs ys:List d}:xs[min xs.length ys.length]?=none\/ys[min xs.length ys.length]?=none:=by
 rcases UP xs.length ys.length with h|h
 .refine .inl ?_;rw[Pb h];exact O1 (mu _)
 .refine .inr ?_;rw[SX h];exact O1 (mu _)
def HM(xs ys:List V)(ts:List Addr)(H d:Hp):Prop:=aF H d/\ts.length=min xs.length ys.length/\∀(j:Nat) (u:Nat),ts[j]?=some u->∃x y,xs[j]?=some x/\ys[j]?=some y/\d u=some (.tup [x,y])
theorem E8 {lo:Nat}(E:Inv X g L d p)(R:Vals xs m)(G:Vals ys l)(hlo:p.heap.objs.size<=lo)(hk:∀b o,p.heap.get? b=some o->h'.get? b=some o)(hal:as.length=min xs.length ys.length)(hG:mL h' lo m.toArray l.toArray as)(hSn:p.heap.objs.size<=S)(hSa:S∉as)(hS:dO X.prog X.w (upd (lW as xs ys d) S o) h' S o):Inv X g L (upd (lW as xs ys d) S o) {p with heap:=h',toks:=tk}/\HM xs ys as d (upd (lW as xs ys d) S o)/\d S=none:=by
 have low:∀u∈as,lo<=u:=hG.low;have J:∀u∈as,u≠S:=λu Z z=>hSa (z▸Z)
 have r:∀c,c<p.heap.objs.size->upd (lW as xs ys d) S o c=d c:=λc D=>by
  rw[ay (MQ (zo D hSn))];exact xU as xs ys λhm=>absurd (zo D (FA hlo (low c hm))) (Np _)
 have q:∀(j:Nat) (u:Nat),as[j]?=some u->∃x y,xs[j]?=some x/\ys[j]?=some y/\upd (lW as xs ys d) S o u=some (.tup [x,y]):=λj u I=>by
  have aa:=(ko.mp I).1;have H:j<xs.length:=()
  have v:j<ys.length:=()
  have N:xs[j]?=some xs[j]:=my H;have M:ys[j]?=some ys[j]:=my v;refine#[_,_,N,M,?_];rw[ay (J u (t9 I))];exact Ar as xs ys hG.rise j u _ _ I N M
 refine#[E.grow (t':=tk) hk r (λc o' D e=>?_),#[λc o e=>by rw[r c (E.hok.lt e)];exact e,hal,q],E.hok.fresh hSn]
 by_cases A:c=S
 .subst A;rw[af]at e
  cases e
  exact hS
 .rw[ay A]at e;rcases uU as xs ys e with z|⟨j,x,y,f1,f2,f3,rfl⟩
  .exact absurd (E.hok.lt z) (Q8.mpr D)
  .have(Q,P,g1,g2,O):=hG.pairs j c f1;have(ux,Y,W):=R.get f2;have(uy,U,T):=G.get f3;have C:m[j]?=some Q:=by simpa using g1
   have B:l[j]?=some P:=by simpa using g2
   rw[Y]at C;rw[U]at B
   cases C
   cases B
   exact#[(by show 2<=mC;decide),_,.cons W (.cons T .nil),#[_,O,rfl,_,rfl],_,O,rfl]
theorem ve :entryFor table "dict.update.loop"=some Px.«dict.update.loop»:=by kernel_rfl
theorem lD :plainId "dict.update.loop"=true:=by kernel_rfl
theorem zE :Pq (.type "tuple") (MI "keys")=pure none:=by rw[PV,Ow];kernel_rfl
theorem zF :Pq (.type "list") (MI "keys")=pure none:=by rw[PV,Ow];kernel_rfl
theorem j8 :isSubtype (.type "AttributeError") (.type "AttributeError")=pure true:=by kernel_rfl
theorem zG (o:A.handled=none)(l:s.heap.get? a=some {cls:=.type "tuple",dict:=none,data:=.seq xs k,slots:=j})(hE:∀h' tk e,s.heap.NewAttrErr h' e (.ref a) (MI "keys")->E (.ref e) {s with heap:=h',toks:=tk}):u4 (L0 prog w) A (call (.builtin "tuple.__getattribute__") ([.ref a]++[.str (MI "keys") u])) Q E s:=by
 have p:s.TypeIs (.ref a) "tuple":=#[_,l,rfl];refine QC (Qc Ot.plain PySem.F.entry_tuple_ga (Ot.check _ _ _ _ _ _ [] _ p (PySem.F.args_tuple_getattribute_2 _ _) ?_));refine Nk (meets_getattribute_miss_tuple a xs k j (MI "keys") u zE (by decide) (by decide) prog w A (λr d=>∃h' tk e,r=.error (.ref e)/\s.heap.NewAttrErr h' e (.ref a) (MI "keys")/\d={s with heap:=h',toks:=tk}) s #[l,o,λh' tk e ne=>#[h',tk,e,rfl,ne,rfl]]) (λg d z=>?_) (λe d z=>?_)
 .rcases g with f|c
  .have(_,_,_,h,_):=z;cases h
  .exact#[z.1,PM z.2 λr m q=>by have(h',tk,e,rfl,ne,rfl):=q;exact hE h' tk e ne]
 .have(h',tk,e,h,ne,rfl):=z
  cases h
  exact hE h' tk e ne
theorem ue (l:A.handled=none)(g:s.heap.get? a=some {cls:=.type "tuple",dict:=none,data:=.seq xs k,slots:=j})(hQ:∀h' tk,(∀b o,s.heap.get? b=some o->h'.get? b=some o)->Q none {s with heap:=h',toks:=tk}):u4 (L0 prog w) A (T3 (.ref a) (MI "keys")) Q E s:=by
 unfold T3;refine bB (RQ ?_);have p:OW {s with toks:=s.toks+1} (.ref a) "tuple":=#[_,g,rfl];unfold getAttrBy?;refine bB (Om ?_);unfold U4;refine MZ (bB (Of p ?_));rw[show Pq (.type "tuple") (MI "__getattribute__")=pure (some (.builtin "tuple.__getattribute__"))from Ot.lookup];refine bB (lj ?_);dsimp only;rw[if_neg (by decide)];unfold Tw hookBefore;rw[if_neg (by decide)];refine bB (lj ?_);refine bB (Om (MZ ?_));unfold SY;rw[if_neg (by decide)];unfold T4;rw[Ot.bind];refine bB (lj ?_);refine zG (s:={s with toks:=s.toks+1}) l g λh' tk e ne=>?_;have(t,u,m):=ne.there;have d:OW {s with heap:=h',toks:=tk} (.ref e) "AttributeError":=#[_,m,rfl];show u4 _ _ (QF _ _ _ _ none false false) _ _ _;unfold QF;refine bB (OD d j8 ?_);rw[if_pos rfl];unfold hookBehind;rw[if_neg (by decide),PySem.F.plainAttrs_tuple.noGetattr];refine bB (lj ?_);unfold hookOrError;dsimp only;unfold attributeErrorLeaves;dsimp only;rw[if_pos (show(!false)=true from rfl)];refine bB (wpAny_throw ?_);refine bB (OD d j8 ?_);rw[if_pos rfl];exact lj (hQ h' tk ne.keeps)
theorem BB (o:A.handled=none)(l:s.heap.get? a=some {cls:=.type "list",dict:=none,data:=.seq xs k,slots:=j})(hE:∀h' tk e,s.heap.NewAttrErr h' e (.ref a) (MI "keys")->E (.ref e) {s with heap:=h',toks:=tk}):u4 (L0 prog w) A (call (.builtin "list.__getattribute__") ([.ref a]++[.str (MI "keys") u])) Q E s:=by
 have p:s.TypeIs (.ref a) "list":=#[_,l,rfl];refine QC (Qc OE.plain PySem.F.entry_list_ga (OE.check _ _ _ _ _ _ [] _ p (PySem.F.args_list_getattribute_2 _ _) ?_));refine Nk (meets_getattribute_miss_list a xs k j (MI "keys") u zF (by decide) (by decide) prog w A (λr d=>∃h' tk e,r=.error (.ref e)/\s.heap.NewAttrErr h' e (.ref a) (MI "keys")/\d={s with heap:=h',toks:=tk}) s #[l,o,λh' tk e ne=>#[h',tk,e,rfl,ne,rfl]]) (λg d z=>?_) (λe d z=>?_)
 .rcases g with f|c
  .have(_,_,_,h,_):=z;cases h
  .exact#[z.1,PM z.2 λr m q=>by have(h',tk,e,rfl,ne,rfl):=q;exact hE h' tk e ne]
 .have(h',tk,e,h,ne,rfl):=z
  cases h
  exact hE h' tk e ne
theorem vS (l:A.handled=none)(g:s.heap.get? a=some {cls:=.type "list",dict:=none,data:=.seq xs k,slots:=j})(hQ:∀h' tk,(∀b o,s.heap.get? b=some o->h'.get? b=some o)->Q none {s with heap:=h',toks:=tk}):u4 (L0 prog w) A (T3 (.ref a) (MI "keys")) Q E s:=by
 unfold T3;refine bB (RQ ?_);have p:OW {s with toks:=s.toks+1} (.ref a) "list":=#[_,g,rfl];unfold getAttrBy?;refine bB (Om ?_);unfold U4;refine MZ (bB (Of p ?_));rw[show Pq (.type "list") (MI "__getattribute__")=pure (some (.builtin "list.__getattribute__"))from OE.lookup];refine bB (lj ?_);dsimp only;rw[if_neg (by decide)];unfold Tw hookBefore;rw[if_neg (by decide)];refine bB (lj ?_);refine bB (Om (MZ ?_));unfold SY;rw[if_neg (by decide)];unfold T4;rw[OE.bind];refine bB (lj ?_);refine BB (s:={s with toks:=s.toks+1}) l g λh' tk e ne=>?_;have(t,u,m):=ne.there;have d:OW {s with heap:=h',toks:=tk} (.ref e) "AttributeError":=#[_,m,rfl];show u4 _ _ (QF _ _ _ _ none false false) _ _ _;unfold QF;refine bB (OD d j8 ?_);rw[if_pos rfl];unfold hookBehind;rw[if_neg (by decide),OL.noGetattr];refine bB (lj ?_);unfold hookOrError;dsimp only;unfold attributeErrorLeaves;dsimp only;rw[if_pos (show(!false)=true from rfl)];refine bB (wpAny_throw ?_);refine bB (OD d j8 ?_);rw[if_pos rfl];exact lj (hQ h' tk ne.keeps)
theorem C5 {prog:sC}{w:FT}{A:MM}{s:eT}{r:Type}[DecidableEq r]{knd:KeyKind prog w r}{d I:Addr}{Y O:List Addr}{n:Nat}{St:Nat->Heap->Prop}{R:TR->eT->Prop}{us:List cB}{rs:List (r×cB)}{h₁:Heap}(W:Walks prog w A.in1 I Y O n (λi v=>us[i]?=some v) St)(hn:n=us.length)(U:rs.length=us.length)(hsz:n<=mC)(hd:d∉Y)(hpr:∀(i:Nat) (u:cB) (kv:r×cB),us[i]?=some u->rs[i]?=some kv->∃a o m j,u=.ref a/\h₁.get? a=some o/\o.cls=.type "tuple"/\o.data=.seq #[j,kv.2,] m/\knd.is kv.1 j=true/\a≠d/\a∉O)(hR:∀h' tk,h'.DictOf knd d (UA [] rs)->(∀b o,b≠d->b∉O->h₁.get? b=some o->h'.get? b=some o)->R (.ok (.ret .none)) {s with heap:=h',toks:=tk}):
  ∀(k i:Nat) (h:Heap) (tk:Nat),n-i=k->i<=n->St i h->h.DictOf knd d (UA [] (rs.take i))->(∀b o,b≠d->b∉O->h₁.get? b=some o->h.get? b=some o) ->
   Qg (L0 prog w) A (.builtin "dict.update.loop" #[[.ref d,.ref I,NK i,.none],[]]) R {s with heap:=h,toks:=tk}:=by
 intro k
 induction k with
 |zero =>
  intro i h tk hk hi p l g;have V:i=n:=()
  subst V;refine RE ve ?_;rw[Qd lD _];show u4 _ A.in1 (Qp (.ref I)>>=_) _ _ _;refine bB (W.done {s with heap:=h,toks:=tk} _ _ p λh' S q=>?_);refine bB (lj (lj ?_));refine hR h' S ?_ (λb o P N e=>q b o N (g b o P N e));rw[hn,<-U,MS]at l;exact l.at λo e=>q d o (λz=>hd (W.sub d z)) e
 |succ k ih =>
  intro i h tk hk hi p l g;refine RE ve ?_;rw[Qd lD _];show u4 _ A.in1 (Qp (.ref I)>>=_) _ _ _;refine bB (W.item i {s with heap:=h,toks:=tk} _ _ () p λv X Q Z B q=>?_);have G:i<rs.length:=()
  have(a,o,m,j,rfl,ha,hc,H,D,T,y):=hpr i v rs[i] Z (my G);have M:X.get? a=some o:=q a o y (g a o T y ha);have J:X.DictOf knd d (UA [] (rs.take i)):=l.at λo e=>q d o (λz=>hd (W.sub d z)) e;have hT:OW {s with heap:=X,toks:=Q} (.ref a) "tuple":=#[o,M,hc];dsimp only;refine bB (MZ (bB (wpAny_tryCatch ?_)));unfold Px.Dict.pairItems;refine bB (Of hT ?_);rw[if_pos (show(Value.type "tuple" == Value.type "list"||Value.type "tuple" == Value.type "tuple")=true by decide)]
  refine bB (Nt M H (lj ?_));show u4 _ _ (RN [j,rs[i].2] (dictSet d j rs[i].2)) _ _ _;refine MZ (wpAny_dictSet_pairs D J (λh3 L C=>?_) (by have:=merged_length_le ([]:List (r×cB)) (rs.take i);rw[we]at this;simp at this;omega));refine lj #[Qx lD _,?_]
  have e1:stored (UA [] (rs.take i)) rs[i].1 rs[i].2=UA [] (rs.take (i+1)):=by
   rw[merged_take_succ [] rs i _ (my G)]
  rw[e1]at L;exact ih (i+1) h3 _ () () (W.frame (i+1) _ _ B λb hb t e=>C.extBut b t (λz=>hd (z▸hb)) e) L λb t P N e=>C.extBut b t P (q b t N (g b t P N e))
theorem rh {prog:sC}{w:FT}{A:MM}{E:cB->eT->Prop}{s:eT}{O:Type}[DecidableEq O]{knd:KeyKind prog w O}{p:Addr}{o:Obj}{us:List cB}{m:Nat}{T:String}{rs:List (O×cB)}{Q:cB->eT->Prop}(hh:A.handled=none)(L:T="list"\/T="tuple")(U:s.heap.get? p=some o)(B:o.cls=.type T)(ai:o.dict=none)(J:o.data=.seq us.toArray m)(hrl:rs.length=us.length)(hsz:us.length<=mC)(hpr:∀(i:Nat) (u:cB) (kv:O×cB),us[i]?=some u->rs[i]?=some kv->∃a o m y,u=.ref a/\s.heap.get? a=some o/\o.cls=.type "tuple"/\o.data=.seq #[y,kv.2,] m/\knd.is kv.1 y=true)(hQ:∀h' tk,h'.DictOf knd s.heap.objs.size (UA [] rs)->(∀b o,s.heap.get? b=some o->h'.get? b=some o)->Q (.ref s.heap.objs.size) {s with heap:=h',toks:=tk}):
  u4 (L0 prog w) A (call (.type "dict") [.ref p]) Q E s:=by
 have V:p<s.heap.objs.size:=ri U;have hS:(s.heap.push {cls:=.type "dict",data:=.dict #[]}).get? s.heap.objs.size=some {cls:=.type "dict",data:=.dict #[]}:=zv _ rfl;have q:∀b o,s.heap.get? b=some o->(s.heap.push {cls:=.type "dict",data:=.dict #[]}).get? b=some o:=λb o e=>lu _ e
 refine T5 (Q₁:=λR D=>R=.ref s.heap.objs.size/\D={s with heap:=s.heap.push {cls:=.type "dict",data:=.dict #[]}}) PySem.F.kt_called_dict (PySem.F.kt_typeCall_dict_1 _) PySem.F.entry_dict_init
  (kt_code_dict_new _ #[rfl,rfl]) λR D h₁=>?_
 have(rfl,rfl):=h₁;refine#[#[_,hS,rfl],PySem.F.args_dict_init_2 _ _,?_];have Z:Heap.DictOf knd (s.heap.push {cls:=.type "dict",data:=.dict #[]}) s.heap.objs.size (UA ([]:List (O×cB)) (rs.take 0)):=Vf s.heap;generalize s.heap.push {cls:=.type "dict",data:=.dict #[]}=g at hS q Z|-;have al:OW {s with heap:=g} (.ref s.heap.objs.size) "dict":=#[_,hS,rfl];have ak:OW {s with heap:=g} (.ref p) T:=#[_,q _ _ U,B];unfold Px.«dict.__init__» Px.Dict.selfAndRest Px.Dict.notOrdered;refine bB (bB ?_);rw[if_pos (by decide)];dsimp only[List.headD];refine bB (Of al ?_);rw[if_neg (by decide)];refine lj ?_;refine bB (show u4 _ _ (Px.Dict.addrOf (.ref s.heap.objs.size)) _ _ _ from lj (lj ?_));show u4 _ _ (S1 "dict.__init__" s.heap.objs.size (.ref p) [] .none) _ _ _;unfold S1;refine bB (Of ak ?_);dsimp only;rw[if_pos (by rcases L with rfl|rfl<;>decide)]
 have C:∀(j:Heap) (tk:Nat),(∀b o,g.get? b=some o->j.get? b=some o)->u4 (L0 prog w) A.in1.in1 (pyIter (.ref p)) (λit s2=>u4 (L0 prog w) A.in1.in1 (again (.builtin "dict.update.loop" #[[.ref s.heap.objs.size,it,NK 0,.none],[]]))
   (λC M=>match C with
    |.done f=>wants (λr d=>r=.none/\Q (.ref s.heap.objs.size) d) E (.ok f) M
    |.again c'=>c'.quiet=true/\Qg (L0 prog w) A.in1 c' (wants (λr d=>r=.none/\Q (.ref s.heap.objs.size) d) E) M)
   (λe M=>wants (λr d=>r=.none/\Q (.ref s.heap.objs.size) d) E (.error e) M) s2)
   (λe M=>wants (λr d=>r=.none/\Q (.ref s.heap.objs.size) d) E (.error e) M) {s with heap:=j,toks:=tk}:=by
  intro j tk l;have S:j.get? p=some o:=l _ _ (q _ _ U);have t:s.heap.objs.size<j.objs.size:=ri (l _ _ hS)
  have G:∀(N:Heap) (H:Nat) (St:Nat->Heap->Prop),Walks prog w A.in1.in1 j.objs.size [j.objs.size,p] [j.objs.size] us.toArray.size (λi v=>us.toArray[i]?=some v) St->St 0 N->(∀b o,j.get? b=some o->N.get? b=some o) ->
    Qg (L0 prog w) A.in1 (.builtin "dict.update.loop" #[[.ref s.heap.objs.size,.ref j.objs.size,NK 0,.none],[]]) (wants (λr d=>r=.none/\Q (.ref s.heap.objs.size) d) E) {s with heap:=N,toks:=H}:=by
   intro N H St W ae I
   have nd:s.heap.objs.size∉[j.objs.size,p]:=by
    intro hm;rcases vy.mp hm with z|z
    .exact absurd t (by rw[z];exact Np _)
    .rw[pD]at z;exact absurd V (by rw[<-z];exact Np _)
   refine C5 (A:=A.in1) (us:=us) (rs:=rs) (h₁:=N) (n:=us.toArray.size) (by simpa using W) (by simp) hrl (by simpa using hsz) nd ?_ ?_ us.toArray.size 0 N H (by simp) (MP _) ae (Z.at λo e=>I _ _ (l _ _ e)) (λ_ _ _ _ e=>e)
   .intro i u kv hu ag;have(a,ob,mm,y,e1,e2,e3,e4,e5):=hpr i u kv hu ag;have Y:a<s.heap.objs.size:=ri e2;refine#[a,ob,mm,y,e1,I _ _ (l _ _ (q _ _ e2)),e3,e4,e5,MQ Y,λz=>?_];rw[pD]at z;exact absurd (RP Y t) (by rw[z];exact Np _)
   .intro h' aa aj ah;refine#[rfl,hQ h' aa aj λb ob e=>ah b ob (MQ (ri e)) (λz=>?_) (I _ _ (l _ _ (q _ _ e)))];rw[pD]at z;exact absurd (RP (ri e) t) (by rw[z];exact Np _)
  have P:p≠j.objs.size:=MQ (RP V t);rcases L with rfl|rfl
  .have X:j.IsList p us.toArray:=#[o,S,B,m,J];refine Sv (s:={s with heap:=j,toks:=tk}) X (lj #[Qx lD _,?_]);exact G _ tk _ (Walks.list (A:=A.in1.in1) hh _ p P us.toArray) #[#[_,zv _ rfl,rfl,rfl],X.push _] λb o e=>lu _ e
  .have X:j.IsTuple p us.toArray:=#[o,S,B,m,J];refine R0 (s:={s with heap:=j,toks:=tk}) X (lj #[Qx lD _,?_]);exact G _ tk _ (Walks.tuple (A:=A.in1.in1) hh _ p P us.toArray) #[#[_,zv _ rfl,rfl,rfl],X.push _] λb o e=>lu _ e
 have(ad,ac,ab,am):=o;obtain rfl:ad=_:=B;obtain rfl:ac=_:=ai;obtain rfl:ab=_:=J;rcases L with rfl|rfl
 .refine bB (vS (s:={s with heap:=g}) hh (q _ _ U) λj tk l=>?_);dsimp only;rw[if_pos (show(none:Option cB).isNone=true from rfl)];exact bB (P7 (bB (C j tk l)))
 .refine bB (ue (s:={s with heap:=g}) hh (q _ _ U) λj tk l=>?_);dsimp only;rw[if_pos (show(none:Option cB).isNone=true from rfl)];exact bB (P7 (bB (C j tk l)))
abbrev sZ(K:bA)(H:Hp):List (Key×V)->List V->Prop:=Paired λd y=>∃a,y=.ref a/\bQ K H a [kV d.1,d.2]
theorem BC (I:Inv X pins σ H s):∀{kvs:List (Key×V)}{ys:List V}{d:List cB},sZ X.K H kvs ys->Vals ys d ->
  ∃rs:List (Key×cB),KV kvs rs/\rs.length=d.length/\∀(i:Nat) (u:cB) (kv:Key×cB),d[i]?=some u->rs[i]?=some kv->∃a o m g,u=.ref a/\s.heap.get? a=some o/\o.cls=.type "tuple"/\o.data=.seq #[g,kv.2,] m/\(dc X.prog X.w).is kv.1 g=true:=by
 intro kvs ys d h
 induction h generalizing d with
 |nil=>intro v;cases v;exact#[[],.nil,rfl,λi u kv h _=>by simp at h]
 |@cons kv y kvs ys hd r ih =>
  intro v
  cases v with
  |cons ru rv =>
   have(a,e,M):=hd;have(rs,J,G,E):=ih rv;subst e
   cases ru
   have(L,z,(o,D,C,m,B),_):=I.tuple M;have(t,q,rfl,A,r2):=vals2 z;refine#[(kv.1,q)::rs,.cons #[rfl,r2] J,by simp[G],λi u j p l=>?_]
   cases i with
   |zero =>
    simp at p l;subst p l;exact#[a,o,m,t,rfl,D,C,by simpa using B,uR A]
   |succ i=>exact E i u j (by simpa using p) (by simpa using l)
theorem Inv.HN (I:Inv X pins σ H s)(h:bQ X.K H a xs):∃(d:List cB) (o:Obj) (n:Nat),Vals xs d/\s.heap.get? a=some o/\o.cls=.type "tuple"/\o.dict=none/\o.data=.seq d.toArray n/\xs.length<=mC:=by
 rcases h with h|⟨o,d,n,hk,hc,hs,hz,r,hd⟩
 .have(z,d,r,(o,j,p,n,m),q,g,l):=h.ok I.hok;rw[j]at g
  cases g
  exact#[d,o,n,r,j,p,l,m,z]
 .refine#[d.toList,o,n,r,I.tZ a o hk,hc,hd,by simpa using hs,?_];have e:=r.length;simp only[Pw]at e;omega
theorem tq (N:X.calm=true):j4 X (.type "dict") (λxs H Q=>∃p ys kvs,xs=[.ref p]/\(H p=some (.lst ys)\/bQ X.K H p ys)/\sZ X.K H kvs ys/\∀d,H d=none->Q (.ref d) (upd H d (.dK (fD [] kvs)))):=by
 intro pins s σ H xs V Q I r h;have(p,ys,kvs,rfl,hp,hd,q):=h;have(u,rfl,D):=vals1 r
 cases D
 obtain⟨g,o,T,m,j,A,J,y,t,l,W⟩:∃(g:List cB) (o:Obj) (T:String) (m:Nat),Vals ys g/\(T="list"\/T="tuple")/\s.heap.get? p=some o/\o.cls=.type T/\o.dict=none/\o.data=.seq g.toArray m/\ys.length<=mC:=by
  rcases hp with hp|hp
  .have(z,g,n,j,e):=(show dO X.prog X.w H s.heap p (.lst ys)from I.hok p _ hp);exact#[g,_,"list",n,j,.inl rfl,e,rfl,rfl,rfl,z]
  .have(g,o,n,j,U,S,R,P,z):=I.HN hp;exact#[g,o,"tuple",n,j,.inr rfl,U,S,R,P,z]
 have(rs,B,G,E):=BC I hd j;have Y:=j.length;have L:kvs.length<=mC:=by have:=KV.length B;omega
 refine rh (knd:=dc X.prog X.w) (rs:=rs) (I.ok.hd N) A J y t l G () E λZ C v M=>?_;have O:=I.big;refine#[.ref s.heap.objs.size,_,I.laid (t':=C) M (mu _) (zh (kvs:=fD [] kvs) ?_ (beq_eq_false_iff_ne.mpr (NW (MQ O))) (KV.merge B .nil) v),rfl,q _ (I.hok.fresh (mu _))];have:=ku kvs [];simp at this;omega
end L2
namespace L2
open PySem
theorem Rp.t2 (h:Rp K H (.t [x,y]) v):∃a e d,v=.ref a/\bQ K H a [e,d]/\Rp K H x e/\Rp K H y d:=by
 have(a,m,rfl,j,r):=h.bq;have(u,q,rfl,g,r2):=r.inv;have(d,o,rfl,l,r3):=r2.inv;obtain rfl:=r3.iE;exact#[a,u,d,rfl,j,g,l]
theorem Rp.t3 (h:Rp K H (.t [x,y,z]) v):∃a j e d,v=.ref a/\bQ K H a [j,e,d]/\Rp K H x j/\Rp K H y e/\Rp K H z d:=by
 have(a,p,rfl,l,r):=h.bq;have(u,q,rfl,g,r2):=r.inv;have(e,A,rfl,o,r3):=r2.inv;have(d,w,rfl,m,r4):=r3.inv;obtain rfl:=r4.iE;exact#[a,u,e,d,rfl,l,g,o,m]
theorem Rp.t4 (h:Rp K H (.t [x,y,z,l]) v):∃a m j e d,v=.ref a/\bQ K H a [m,j,e,d]/\Rp K H x m/\Rp K H y j/\Rp K H z e/\Rp K H l d:=by
 have(a,C,rfl,o,r):=h.bq;have(u,q,rfl,g,r2):=r.inv;have(j,G,rfl,B,r3):=r2.inv;have(e,E,rfl,A,r4):=r3.inv;have(d,D,rfl,w,p):=r4.inv;obtain rfl:=p.iE;exact#[a,u,j,e,d,rfl,o,g,B,A,w]
end L2
namespace L2
open PySem PySem.Spec PyProof.Rows
def HP(T:Addr->Sp->Prop)(j:TE)(t:TA):TE:=λd H Q=>j d H λx m=>∃f e,x=.ref f/\T f e/\t d m λg l=>e g l Q E0
theorem tu {T:Addr->Sp->Prop}{x:Str}{p g:Pos}{e:Expr}{j:List Expr}{y:TE}{t:TA}(hT:∀f sp,T f sp->∃k m ps,bH X.prog X.w X.K X.mg X.base eZ k f m ps sp/\fB k X.A/\NF X.K (.ref f)=true/\Binds X.K m ps [])(hf:PE X (.Name x p) y)(ha:PA X (e::j) t)(he:M3 (e::j) X.env=(false,eval e X.env)::M3 j X.env:=by rfl)(hpl:(Qo g (M3 j X.env)).any (·.1)=false:=by rfl):
  PE X (.Call (.Name x p) (e::j) [] g) (HP T y t):=by
 intro d s o H Q I h;refine Nf (dw (hf d s o H _ I h) λu C ⟨v,M,B,D,f,sp,L,l,q⟩=>?_);subst L;obtain rfl:u=Value.ref f:=D;have(k,m,ps,F,hr,G,J):=hT f sp l;refine R3 (h₀:=X.base) B.ok.mod.kin G (dw (ha g d C o M _ B q) λO P ⟨N,R,z,r,q⟩=>#[z.tZ,?_]) he hpl;exact zb (E:=E0) (dvs:=[]) F hr J .nil kL z r (by simpa using q)
theorem C6 :nZ X (Pf .Add) (λx y H Q=>∃a b ys,x=.ref a/\y=.ref b/\bQ X.K H a []/\bQ X.K H b ys/\Q (.ref b) H):=by
 intro r s R H x y u v Q I D C h;have(a,b,ys,rfl,rfl,N,M,q):=h
 cases D
 cases C
 have(J,E,L,_):=I.tuple N;have(l,r2,m,_):=I.tuple M
 cases E
 have((P,O,z,B),t,w,n,hd):=id L;have((A,o,p,j),d,g,G,e):=id m;simp only at w hd g e;subst w hd g e
 exact UK #[_,t,rfl] #[_,d,rfl] SM Ul QS QI (Qw _ _)
   (tuple_addW0 a b _ l.toArray n G O o B j (by simp)) #[t,d,#[.ref b,H,I,rfl,q]]
def C7(K:bA):R2:=λx y H Q=>∃a b e d,x=.ref a/\y=.ref b/\bQ K H a e/\bQ K H b d/\e.length+d.length<=mC/\∀p g,aF H g->bQ K g p (e++d)->Q (.ref p) g
theorem jQ :nZ X (Pf .Add) (C7 X.K):=by
 intro d s j H x y u v Q I o m h;have(a,b,q,l,rfl,rfl,g,e,t,k):=h
 cases q with
 |nil=>exact C6 d s j H _ _ u v Q I o m #[a,b,l,rfl,rfl,g,e,k b H (aF.refl _) e]
 |cons x r =>
  exact EG d s j H _ _ u v Q I o m #[a,b,_,l,rfl,rfl,g,e,(by simp),t,(λz=>by subst z;have:=k a H (aF.refl _);rw[M5]at this;exact this g),λ_ p w=>k p _ (ae w _) (bQ.of af)]
end L2
namespace L2
open PySem
theorem E9 (K:bA)(d:X.K=K):Cn X (Jq K):=by subst d;exact jJ
theorem AD (K:bA)(e:X.K=K)(d:X.A.units+150<Rm):nZ X (Ox .Eq) (JA K):=by subst e;exact vQ d
theorem AE (p:Prop)(ht:∀C:Bool->Hp->Prop,(p->C true H)->(¬p->C false H)->e d H C)(a:p->j D d H)(b:¬p->g D d H):GU e j g D d H:=ht _ a b
theorem zH (R:Bool->Hp->Prop)(ht:∀C:Bool->Hp->Prop,(∀b d,R b d->C b d)->g e H C)(a:∀d,R true d->l D e d)(b:∀d,R false d->j D e d):GU g l j D e H:=ht _ λc d h=>by
 cases c with
 |true=>exact a d h
 |false=>exact b d h
theorem aF.tw (s:aF H d)(h:H l=none)(o:HO):aF H (upd d l o):=λb g e=>by rw[ay (au e h)];exact s b g e
structure LG(K:bA) (Ps:St->Prop) (H2:Hp) (us:List V) (ys:List T) (σ:St) (H5:Hp):Prop where
 p:Ps σ
 s:aF H2 H5
 r:bN K H5 ys us
theorem vU {d j:Type}{φ:d->List j}(e:∀p,(φ p).length<=1):∀ps:List d,(ps.flatMap φ).length<=ps.length
 | []=>MP _
 |x::r=>by
  rw[NJ,j3,MW];have:=e x;have:=vU e r;omega
theorem kE {d e:Type}(f:d->e):∀l:List d,(l.flatMap λp=>[f p])=l.map f
 | []=>rfl
 |x::r=>by rw[NJ,kE f r];rfl
theorem jH {B:Type}{e:B->T}{φ:B->List T}{ps:List B}(w:St->Prop)(J:bQ K H0 a C)(hr:bN K H0 (ps.map e) C)(R:ps.length<=900)(L:∀p,(φ p).length<=1)(M:w σ0)(hs:∀p∈ps,∀x o j (N:List V->St->Hp->Prop),aF H0 j->w o->Rp K j (e p) x->(∀us d t,LG K w j us (φ p) d t->N us d t)->g x o j λd P=>tt d P λok H=>if ok=true then te d H λv t=>N [v] d t else N [] d H)(k:∀l A u,aF H0 A->H0 l=none->A l=some (.lst u)->bN K A (ps.flatMap φ) u->Q (.ref l) A):j7 (Cv K a) g tt te Q σ0 H0:=by
 have l:=hr.length;rw[bC]at l;refine kQ (xs:=C) (λi o us j=>w o/\aF H0 j/\bN K j ((ps.take i).flatMap φ) us) #[M,aF.refl _,.nil] ?_ (small ()) ?_ ?_ ?_
 .rintro i o us j hi ⟨_,_,r⟩;rw[r.length];exact FA (vU L _) (by rw[we];exact RH _ _)
 .rintro i o us j hi ⟨_,s,_⟩;exact J.same s
 .rintro i x o us j hx ⟨p,s,r⟩;have(y,G,I):=hr.get' hx;rw[rj]at G;have(q,D,rfl):=ur.mp G;have E:i<ps.length:=(ko.mp D).1;have O:ps[i]=q:=(ko.mp D).2
  have z:=hs q (t9 D) x o j (λu d t=>w d/\aF H0 t/\bN K t ((ps.take (i+1)).flatMap φ) (us++u)) s p (I.same s) λu d t m=>by
   refine#[m.p,s.trans m.s,?_];rw[EF E,O,Nv];exact(r.same m.s).append (by rw[NJ,U5,M5];exact m.r)
  simp only[M5]at z;exact z
 .rintro o us j ⟨_,s,r⟩ p hp;rw[l,MS]at r;exact k p _ us (s.trans (ae hp _)) (s.free hp) af (r.same (ae hp _))
theorem eR {B:Type}{e:B->T}{φ:B->List T}{ps:List B}(w:St->Prop)(J:H0 a=some (.lst C))(hr:bN K H0 (ps.map e) C)(R:ps.length<=900)(L:∀p,(φ p).length<=1)(M:w σ0)(hs:∀p∈ps,∀x o j (N:List V->St->Hp->Prop),aF H0 j->w o->Rp K j (e p) x->(∀us d t,LG K w j us (φ p) d t->N us d t)->g x o j λd P=>tt d P λok H=>if ok=true then te d H λv t=>N [v] d t else N [] d H)(k:∀l A u,aF H0 A->H0 l=none->A l=some (.lst u)->bN K A (ps.flatMap φ) u->Q (.ref l) A):j7 (EA K a) g tt te Q σ0 H0:=by
 have l:=hr.length;rw[bC]at l;refine fS (xs:=C) (λi o us j=>w o/\aF H0 j/\bN K j ((ps.take i).flatMap φ) us) #[M,aF.refl _,.nil] ?_ (small ()) ?_ ?_ ?_
 .rintro i o us j hi ⟨_,_,r⟩;rw[r.length];exact FA (vU L _) (by rw[we];exact RH _ _)
 .rintro i o us j hi ⟨_,s,_⟩;exact bu.of (s _ _ J)
 .rintro i x o us j hx ⟨p,s,r⟩;have(y,G,I):=hr.get' hx;rw[rj]at G;have(q,D,rfl):=ur.mp G;have E:i<ps.length:=(ko.mp D).1;have O:ps[i]=q:=(ko.mp D).2
  have z:=hs q (t9 D) x o j (λu d t=>w d/\aF H0 t/\bN K t ((ps.take (i+1)).flatMap φ) (us++u)) s p (I.same s) λu d t m=>by
   refine#[m.p,s.trans m.s,?_];rw[EF E,O,Nv];exact(r.same m.s).append (by rw[NJ,U5,M5];exact m.r)
  simp only[M5]at z;exact z
 .rintro o us j ⟨_,s,r⟩ p hp;rw[l,MS]at r;exact k p _ us (s.trans (ae hp _)) (s.free hp) af (r.same (ae hp _))
theorem bN.jb :∀{ns:List Int}{d:List V},bN K H (ns.map .i) d->d=ns.map V.int
 | [],_,h=>h.iE
 |n::r,_,h=>by
  have(v,e,rfl,g,h):=bN.inv (K:=K) (x:=.i n) h;rw[g.di,jb h];rfl
theorem bN.tD :∀{ns:List Str}{d:List V},bN K H (ns.map .s) d->d=ns.map V.str
 | [],_,h=>h.iE
 |n::r,_,h=>by
  have(v,e,rfl,g,h):=bN.inv (K:=K) (x:=.s n) h;rw[g.bj,tD h];rfl
theorem bN.AF :∀ns:List Int,bN K H (ns.map .i) (ns.map V.int)
 | []=>.nil
 |n::r=>.cons .i (bN.AF r)
end L2
namespace G34
open PySem L2
inductive Kk|num|kd (x:Str)|op (n:Int)|row (k:Kk)
noncomputable def cu:Kk->T
 |.num=>.s "num"
 |.kd x=>.t [.s "kind",.s x]
 |.op n=>.t [.s "open",.i n]
 |.row k=>.t [.s "row",cu k]
noncomputable def Kk.core:Kk->Kk
 |.row k=>k.core
 |k=>k
noncomputable def Kk.qw:Kk->Option Int
 |.row k=>k.qw
 |.op n=>some n
 |_=>none
noncomputable def Kk.dep:Kk->Nat
 |.row k=>k.dep+1
 |_=>0
def Kk.ok(ns:List Str):Kk->Prop
 |.num=>True
 |.kd x=>x∈ns
 |.op _=>False
 |.row k=>k.ok ns
theorem jy :∀k:Kk,(cu k).dep<=k.dep+1
 |.num=>Gs
 |.kd x=>Kh (d:=0) (Hy Gs (Hy Gs Kg))
 |.op n=>Kh (d:=0) (Hy Gs (Hy LD Kg))
 |.row k=>Kh (d:=k.dep+1) (Hy Gs (Hy (jy k) Kg))
theorem Kk.yg :∀k:Kk,k.core.qw=k.qw
 |.num=>rfl
 |.kd x=>rfl
 |.op n=>rfl
 |.row k=>yg k
theorem Kk.AG :∀(k j:Kk),k.core≠.row j
 |.num,_=>nofun
 |.kd x,_=>nofun
 |.op n,_=>nofun
 |.row k,j=>AG k j
noncomputable def lK(t:Tm):List Int:=t.parts.filterMap dS
theorem C8 (h:Hd):∀ts:List Tm,(Tm.eJ ts).filterMap dS=ts.flatMap lK
 | []=>by rw[Tm.eJ];rfl
 |t::r=>by rw[Tm.ie,O2,C8 h r];rfl
theorem jR (e:dS (.mk h ts)=none):lK (.mk h ts)=ts.flatMap lK:=by
 unfold lK;rw[Tm.jK,List.filterMap_cons_none e];exact C8 h ts
noncomputable def vV(p:Str×Kk):T:=.t [.s p.1,cu p.2]
noncomputable def vW(d:Str×List (Str×Kk)×Tm):T:=.t [.s d.1,.t (d.2.1.map vV),enc d.2.2]
noncomputable def oH(kt:T)(d:List (Str×List (Str×Kk)×Tm)):T:=.t [kt,.t (d.map vW)]
noncomputable def jz(ps:List (Str×Kk)):List Int:=ps.filterMap λp=>p.2.qw
noncomputable def bf(e:List (Str×List (Str×Kk)×Tm)):List Int:=e.flatMap λd=>d.2.2.parts.filterMap dS
noncomputable def bI(e:List (Str×List (Str×Kk)×Tm)):List Int:=e.flatMap λd=>jz d.2.1
theorem tE {d e:Type}{f:d->List e}:∀{l:List d},(∀x∈l,(f x).length<=b)->(l.flatMap f).length<=l.length*b
 | [],_=>MP _
 |x::r,h=>by
  rw[NJ,j3,MW,UL];have:=h x (.head _);have:=tE (f:=f) (b:=b) (l:=r) (λy g=>h y (.tail _ g));omega
def rm(e:List (Str×List (Str×Kk)×Tm)):Prop:=e.length<=8/\∀d∈e,Wf d.2.2/\d.2.2.size<=100/\d.2.1.length<=8
theorem rm.take (h:rm e)(j:Nat):rm (e.take j):=#[FA (by rw[we];exact Nat.min_le_right _ _) h.1,λd hd=>h.2 d (MT hd)]
theorem yh (h:rm e):(bf e).length<=900:=by
 have:=tE (f:=λd:Str×List (Str×Kk)×Tm=>d.2.2.parts.filterMap dS) (b:=100) (l:=e) (λd hd=>FA (NL _ _) (by rw[Tm.cX];exact(h.2 d hd).2.1));have:=h.1;unfold bf;omega
theorem C9 (h:rm e):(bI e).length<=64:=by
 have:=tE (f:=λd:Str×List (Str×Kk)×Tm=>jz d.2.1) (b:=8) (l:=e) (λd hd=>FA (NL _ _) (h.2 d hd).2.2);have:=h.1;unfold bI;omega
theorem vX {g:List (Str×List (Str×Kk)×Tm)}(l:j<g.length)(e:g[j]=d):bf (g.take (j+1))=bf (g.take j)++d.2.2.parts.filterMap dS:=by
 unfold bf;rw[EF l,e,Nv];simp
theorem vY {g:List (Str×List (Str×Kk)×Tm)}(l:j<g.length)(e:g[j]=d):bI (g.take (j+1))=bI (g.take j)++jz d.2.1:=by
 unfold bI;rw[EF l,e,Nv];simp
structure GI(H0:Hp) (l1 l2:Addr) (a b:List Int) (H:Hp):Prop where
 s:aF H0 H
 h1:H l1=some (.lst (a.map V.int))
 h2:H l2=some (.lst (b.map V.int))
def j9(K:bA):Sp:=λe H Q _=>∃(v:V) (k:Kk),e=[v]/\Rp K H (cu k) v/\∀d,Rp K H (cu k.core) d->Q d H
theorem lY :Nm WD (ak iY):=by decide
theorem vZ :Lm WD (ak iY):=by decide
theorem qc :aK WD WD (ak iY):=#[rfl,rfl,rfl,by decide,rfl,by decide,by decide]
theorem wd (F:ic K "innermost" "innermost" iY f I):bH P w K mg base eZ 1 f I WD (j9 K):=by
 refine F.ok qc (λL H Q E h=>?_) (λT A B s H L Q E hr h=>?_)
 .have(_,_,rfl,_):=h;rfl
 have(v,C,rfl,M,k):=h;refine#[_,(Z5 (@pJ _ _ _ _ _ _ RD (Zj bR (Z9 jJ (va lY 0)) aB) (Ze (Z2 qc.nd vZ 0 (Z9 jJ (va lY 0))))) (Ze (cH (va lY 0)))),?_]
 right
 right
 refine#[λm G o=>o=H/\∃(v:V) (l:Kk),G=[some v]/\Rp K H (cu l) v/\l.dep=m/\l.core=C.core,#[C.dep,rfl,v,C,rfl,M,rfl,rfl],?_];rintro m G o ⟨rfl,v,l,rfl,j,O,y⟩
 have g:∀(s:Str),s≠"row"->¬(decide (V.str s=V.str "row")=true):=λs N h=>by
  have e:=of_decide_eq_true h;injection e with e;exact N e
 cases l with
 |num =>
  obtain rfl:=(show Rp K o (.s "num") v from j).bj;refine#[_,rfl,.inr (.inr #[_,0,110,rfl,rfl,(by decide),(by decide),rfl,_,rfl,cM (λc=>absurd c (g _ (by decide))) (λ_=>?_)])];ext;exact k _ (by rw[<-y];exact j)
 |kd x =>
  have(p,l,r,rfl,d,u,D):=(show Rp K o (.t [.s "kind",.s x]) v from j).t2;obtain rfl:=u.bj;refine#[_,rfl,.inr (.inl #[p,_,0,.str "kind",rfl,rfl,d,rfl,rfl,_,rfl,cM (λc=>absurd c (g _ (by decide))) (λ_=>?_)])];ext;exact k _ (by rw[<-y];exact j)
 |op n =>
  have(p,l,r,rfl,d,u,D):=(show Rp K o (.t [.s "open",.i n]) v from j).t2;obtain rfl:=u.bj;refine#[_,rfl,.inr (.inl #[p,_,0,.str "open",rfl,rfl,d,rfl,rfl,_,rfl,cM (λc=>absurd c (g _ (by decide))) (λ_=>?_)])];ext;exact k _ (by rw[<-y];exact j)
 |row r =>
  have(p,U,z,rfl,d,u,D):=(show Rp K o (.t [.s "row",cu r]) v from j).t2;obtain rfl:=u.bj;refine#[_,rfl,.inr (.inl #[p,_,0,.str "row",rfl,rfl,d,rfl,rfl,_,rfl,cM (λ_=>?_) (λc=>absurd (by decide) c)])];refine#[λq J=>J=o/\q=[some z],λq J ⟨S,R⟩=>#[r.dep,by rw[<-O];exact SS _,S,z,r,R,D,rfl,y],?_];exact#[_,rfl,.inr (.inl #[p,_,1,z,rfl,rfl,d,rfl,rfl,rfl])]
theorem jA :Nm VJ (ak oV):=by decide
theorem kc :Lm VJ (ak oV):=by decide
theorem jB :aK VJ ["program"] (ak oV):=#[rfl,rfl,rfl,by decide,rfl,by decide,by decide]
def Dc(K:bA):Sp:=λg H Q _=>∃(v:V) (kt:T) (e:List (Str×List (Str×Kk)×Tm)),g=[v]/\Rp K H (oH kt e) v/\rm e /\
 ∀(p l1 l2:Addr) (d:Hp),aF H d->H l1=none->H l2=none->l1≠l2->d p=some (.tup [.ref l1,.ref l2])->d l1=some (.lst ((bf e).map V.int))->d l2=some (.lst ((bI e).map V.int))->Q (.ref p) d
theorem Fb (F:ic K "gaps" "gaps" oV f fd)(IM:dH P w K mg base "innermost" 1 WD (j9 K) gI ifd)(GA:dH P w K mg base "gaps_in" 4 Wi (qb K) gG gfd):bH P w K mg base eZ 5 f fd ["program"] (Dc K):=by
 refine F.ok jB (λvs H Q E h=>?_) (λa8 A ag s H vs Q E hr h=>?_)
 .have(_,_,_,rfl,_):=h;rfl
 have(v,kt,m,rfl,r0,q,k):=h;refine#[_,(Z5 (Zp (va jA 0) (Zb (Zi (ga jB.nd kc 1) (aJ (ga jB.nd kc 2) aX)))) (Z5 (sa jB.nd kc 3 (bh ao)) (Z5 (sa jB.nd kc 4 (bh ao)) (Z5 (Zk (dZ (va jA 2)) (@iS _ _ _ _ _ (3) K rfl rfl (Zi (ga jB.nd kc 5) (Zi (ga jB.nd kc 6) (aJ (ga jB.nd kc 7) aX))) (by rfl) (by rfl)) (Z5 (@cC _ _ _ _ (Z8 Oc Od jF (va jA 3) (Z1 (Z0 GA (Za (va jA 7))) ao)) (by rfl)) (Z5 (Zf (ak oV) VJ WT [] (dZ (va jA 6)) (λ_ _ _ _=>(Zb (Zi (Z3 (i:=0) (show(WT:List Str).Nodup by decide)) (aJ (Z3 (i:=1) (show(WT:List Str).Nodup by decide)) aX)))) (λ_ _ _ _=>eN) (λ_ _ _ _=>(Z0 IM (Za (va (show Nm WT _ by left) 1)))) (ga jB.nd kc 8)) (Ze (@cC _ _ _ _ (Z8 Oc Od jF (va jA 4) (Z1 (@gy _ _ _ _ _ _ _ _ _ _ _ (ak oV) VJ ["core"] [] rfl rfl rfl (by decide) (cJ (va jA 8)) (λ_ _ _ _=>(Z3 (i:=0) (show(["core"]:List Str).Nodup by decide))) (λ_ _ _ _=>(@fE _ _ _ (Zj bR (Z9 (E9 K rfl) (va (show Nm ["core"] _ by left) 0)) aB))) (λ_ _ _ _=>(Z9 (gM K rfl) (va (show Nm ["core"] _ by left) 0))) (by intro _;rfl)) ao)) (by rfl)))))) (Ze (Zo (Zg (Z1 (va jA 3) (Za (va jA 4)))))))))),?_]
 right
 right
 have(pa,v1,v2,rfl,a1,g1,g2):=r0.t2;have(da,ap,rfl,aa,O):=g2.bq;have ld:=O.length;rw[bC]at ld;ext;intro l1 I;have s1:=ae I (.lst []);have h1:upd H l1 (.lst []) l1=some (.lst []):=af;generalize upd H l1 (.lst [])=H1 at s1 h1|-;ext;intro l2 G;have s2:=ae G (.lst []);have C:l1≠l2:=au h1 G;have Z:=s2 _ _ h1;have h2:upd H1 l2 (.lst []) l2=some (.lst []):=af;have B:H l2=none:=s1.free G;generalize upd H1 l2 (.lst [])=H2 at s2 h2 Z|-;have ar:=aa.same (s1.trans s2);ext;refine nT (K:=K) (xs:=ap) (λj u H3=>(∃y5 y6 y7 y8,u=[some (.ref pa),some v1,some (.ref da),some (.ref l1),some (.ref l2),y5,y6,y7,y8])/\GI H l1 l2 (bf (m.take j)) (bI (m.take j)) H3) #[#[_,_,_,_,rfl],#[s1.trans s2,Z,h2]] ?_ ?_ ?_
 .rintro j u H3 hj ⟨_,g⟩;exact aa.same g.s
 .rintro j xv u H3 hxv ⟨⟨_,_,_,_,rfl⟩,g⟩;have(yv,R,ac):=O.get' hxv;rw[rj]at R;have(d,W,rfl):=ur.mp R;have o:j<m.length:=(ko.mp W).1;have ej:m[j]=d:=(ko.mp W).2;have(ta,w1,w2,w3,rfl,az,q1,q2,q3):=(show Rp K H3 (.t [.s d.1,.t (d.2.1.map vV),enc d.2.2]) xv from ac.same g.s).t3;have(qa,a0,rfl,ad,L):=q2.bq;have lq:=L.length;rw[bC]at lq;have(wf,wz,wp):=q.2 d (by rw[<-ej];exact Qj o);have av:d.2.2.size<=900:=()
  have ai:=g.h1;have ah:=g.h2;ext;intro p4 H4 r a4 h4;have a3:=yh (q.take j);have a2:=C9 (q.take j);have U:=yh (q.take (j+1));have S:=C9 (q.take (j+1));rw[vX o ej]at U|-;rw[vY o ej]at S|-;have an:=r _ _ ai;have am:=r _ _ ah;have ab:=g.s.trans r;rw[j3]at U S;have z3:(OS V.int (bf (Ra j m))).length+(OS V.int (PB dS d.2.2.parts)).length<=mC:=small (by rw[bC,bC];omega);have s5:=ab.tw I (.lst (OS V.int (bf (Ra j m))++OS V.int (PB dS d.2.2.parts)));have Y:upd H4 l1 (.lst (OS V.int (bf (Ra j m))++OS V.int (PB dS d.2.2.parts))) l1=some (.lst (OS V.int (bf (Ra j m))++OS V.int (PB dS d.2.2.parts))):=af;have X:upd H4 l1 (.lst (OS V.int (bf (Ra j m))++OS V.int (PB dS d.2.2.parts))) l2=some (.lst ((bI (m.take j)).map V.int)):=by rw[ay C.symm];exact am
  have k5:=Kt.lst an (.lst (OS V.int (bf (Ra j m))++OS V.int (PB dS d.2.2.parts)));have M:=(L.same r).kt k5;have J:=(ad.same r).kt k5;ext;generalize upd H4 l1 (.lst (OS V.int (bf (Ra j m))++OS V.int (PB dS d.2.2.parts)))=H5 at s5 Y X k5 M J|-;refine jH (e:=vV) (φ:=λp=>[cu p.2.core]) (λu=>∃a b,u=[a,b]) J M () (λ_=>mu _) #[_,_,rfl] ?_ ?_
  .rintro p hp x _ H6 N s6 ⟨_,_,rfl⟩ rx kN;have(xa,x1,x2,rfl,as,r1,r2):=(show Rp K H6 (.t [.s p.1,cu p.2]) x from rx).t2;ext;intro v' r';exact kN _ _ _ #[#[_,_,rfl],aF.refl _,.one r']
  intro l6 H6 ax s6 a6 h6 r6;have al:=s6 _ _ X;ext;refine eR (ps:=d.2.1) (e:=λp=>cu p.2.core) (φ:=λp=>p.2.qw.toList.map .i) (λu=>∃a,u=[a]) h6 ?_ () (λp=>?_) #[_,rfl] ?_ ?_
  .rw[kE]at r6;exact r6
  .cases p.2.qw<;>simp
  .rintro p hp x _ H7 N s7 ⟨_,rfl⟩ rx kN
   have z:∀(s:Str),s≠"open"->¬(decide (V.str s=V.str "open")=true):=λs hs h=>by
    have e:=of_decide_eq_true h;injection e with e;exact hs e
   have hc:=Kk.yg p.2;have hn:=Kk.AG p.2;generalize p.2.core=c at rx hc hn;rw[<-hc]at kN
   cases c with
   |row c=>exact absurd rfl (hn c)
   |num =>
    obtain rfl:=(show Rp K H7 (.s "num") x from rx).bj;refine#[_,rfl,.inr (.inr #[_,0,110,rfl,rfl,(by decide),(by decide),rfl,_,rfl,cM (λc=>absurd c (z _ (by decide))) (λ_=>?_)])];exact kN _ _ _ #[#[_,rfl],aF.refl _,.nil]
   |kd y =>
    have(ka,k1,k2,rfl,D,g1,g2):=(show Rp K H7 (.t [.s "kind",.s y]) x from rx).t2;obtain rfl:=g1.bj;refine#[_,rfl,.inr (.inl #[ka,_,0,.str "kind",rfl,rfl,D,rfl,rfl,_,rfl,cM (λc=>absurd c (z _ (by decide))) (λ_=>?_)])];exact kN _ _ _ #[#[_,rfl],aF.refl _,.nil]
   |op n =>
    have(ka,k1,k2,rfl,D,g1,g2):=(show Rp K H7 (.t [.s "open",.i n]) x from rx).t2;obtain rfl:=g1.bj;obtain rfl:=g2.di;refine#[_,rfl,.inr (.inl #[ka,_,0,.str "open",rfl,rfl,D,rfl,rfl,_,rfl,cM (λ_=>?_) (λc=>absurd (by decide) c)])];ext;exact kN _ _ _ #[#[_,rfl],aF.refl _,.one .i]
  intro l7 H7 aw s7 a5 h7 r7
  have e7:(d.2.1.flatMap λp=>p.2.qw.toList.map .i)=(jz d.2.1).map T.i:=by
   unfold jz;generalize d.2.1=l
   induction l with
   |nil=>rfl
   |cons p l ih=>rw[NJ,ih,NG];cases p.2.qw<;>rfl
  rw[e7]at r7;obtain rfl:=r7.jb;have a7:=s7 _ _ al;have aj:=s7 _ _ (s6 _ _ Y);have z4:(OS V.int (bI (Ra j m))).length+(OS V.int (jz d.2.1)).length<=mC:=small (by rw[bC,bC];omega);ext
  .exact#[((s5.trans s6).trans s7).tw B _,by rw[ay C,vX o ej,m3];exact aj,by rw[vY o ej,m3];exact af]
 .rintro u H3 ⟨⟨_,_,_,_,rfl⟩,g⟩;rw[ld,MS]at g;ext;intro p hp;have r:=ae hp (.tup [.ref l1,.ref l2]);exact k p l1 l2 _ (g.s.trans r) I B C af (r _ _ g.h1) (r _ _ g.h2)
noncomputable def kw:Kk->Str
 |.num=>"n"
 |.kd _=>"kind"
 |.op _=>"open"
 |.row _=>"row"
theorem jS (r:Rp K H (cu k) v)(l:Q (.str (kw k)) H):Jq K v (.int 0) H Q:=by
 cases k with
 |num =>
  obtain rfl:=(show Rp K H (.s "num") v from r).bj;exact .inr (.inr #[_,0,110,rfl,rfl,(by decide),(by decide),l])
 |kd x =>
  have(e,o,m,rfl,d,g,p):=(show Rp K H (.t [.s "kind",.s x]) v from r).t2;obtain rfl:=g.bj;exact .inr (.inl #[e,_,0,.str "kind",rfl,rfl,d,rfl,l])
 |op n =>
  have(e,o,m,rfl,d,g,p):=(show Rp K H (.t [.s "open",.i n]) v from r).t2;obtain rfl:=g.bj;exact .inr (.inl #[e,_,0,.str "open",rfl,rfl,d,rfl,l])
 |row j =>
  have(e,o,m,rfl,d,g,p):=(show Rp K H (.t [.s "row",cu j]) v from r).t2;obtain rfl:=g.bj;exact .inr (.inl #[e,_,0,.str "row",rfl,rfl,d,rfl,l])
theorem HQ (r:Rp K H (cu (.row k)) v):∃u,Rp K H (cu k) u/\∀{Q:V->Hp->Prop},Q u H->Jq K v (.int 1) H Q:=by
 have(g,m,e,rfl,d,o,l):=(show Rp K H (.t [.s "row",cu k]) v from r).t2;exact#[e,l,λj=>.inr (.inl #[g,_,1,e,rfl,rfl,d,rfl,j])]
theorem Gu (r:Rp K H (cu (.op n)) v)(g:Q (.int n) H):Jq K v (.int 1) H Q:=by
 have(e,m,l,rfl,d,o,j):=(show Rp K H (.t [.s "open",.i n]) v from r).t2;obtain rfl:=j.di;exact .inr (.inl #[e,_,1,.int n,rfl,rfl,d,rfl,g])
noncomputable def AH:Nat->Kk->Kk
 |0,k=>k
 |d+1,k=>.row (AH d k)
noncomputable def uf(d:Int->Option Kk):Kk->Kk
 |.row k=>.row (uf d k)
 |.op n=>(d n).getD (.op n)
 |k=>k
theorem vh (d:Int->Option Kk):∀k:Kk,uf d k=AH k.dep (uf d k.core)
 |.num=>rfl
 |.kd _=>rfl
 |.op _=>rfl
 |.row k=>congrArg Kk.row (vh d k)
structure nA{α:Type}(K:bA) (tr:α->T) (H:Hp) (d:Addr) (pf:Int->Option α):Prop where
 x:∃kvs,H d=some (.dK kvs)/\∀n,(∀y,pf n=some y->∃v,eF kvs (Sum.inl n)=some v/\Rp K H (tr y) v)/\(pf n=none->eF kvs (Sum.inl n)=none)
theorem nA.same {tr:j->T}{l:Int->Option j}(p:nA K tr H d l)(s:aF H m):nA K tr m d l:=by
 have(g,h,q):=p.x;exact#[g,s _ _ h,λn=>#[λy e=>by have(v,a,b):=(q n).1 y e;exact#[v,a,b.same s],(q n).2]]
theorem nA.get {tr:j->T}{l:Int->Option j}(p:nA K tr H d l)(n:Int){y0:j}(r:Rp K H (tr y0) m):KZ H d/\∃o,ni H d (.int n) o/\Rp K H (tr ((l n).getD y0)) (o.getD m):=by
 have(g,h,q):=p.x;refine#[.inl #[g,.inl h],eF g (Sum.inl n),ni.k (k:=Sum.inl n) h,?_]
 cases e:l n with
 |none=>rw[(q n).2 e];exact r
 |some y =>
  have(v,a,b):=(q n).1 y e;rw[a];exact b
def AJ(K:bA):Sp:=λd H Q _=>∃(v:V) (k:Kk),d=[v]/\Rp K H (cu k) v/\Q (.int k.dep) H
def Dd(K:bA):Sp:=λj H Q _=>∃(v:V) (k:Kk) (d:Nat),j=[v,.int d]/\Rp K H (cu k) v/\d<=100/\∀g e,aF H e->Rp K e (cu (AH d k)) g->Q g e
def Fc(K:bA):Sp:=λe H Q _=>∃(v:V) (k:Kk),e=[v]/\Rp K H (cu k) v/\∀l d,aF H d->H l=none->d l=some (.lst (k.qw.toList.map V.int))->Q (.ref l) d
def De(K:bA):Sp:=λl H Q _=>∃(v:V) (d:Addr) (k:Kk) (j:Int->Option Kk),l=[v,.ref d]/\Rp K H (cu k) v/\nA K cu H d j/\k.dep<=100/\∀g e,aF H e->Rp K e (cu (uf j k)) g->Q g e
theorem Df (h:a≠b):¬(decide (V.str a=V.str b)=true):=λz=>by
 have e:=of_decide_eq_true z;injection e with e;exact h e
theorem HR :∀k:Kk,(∃j,k=.row j)\/(kw k≠"row"/\k.dep=0)
 |.num=>.inr #[by decide,rfl]
 |.kd _=>.inr #[by show("kind":Str)≠"row";decide,rfl]
 |.op _=>.inr #[by show("open":Str)≠"row";decide,rfl]
 |.row j=>.inl #[j,rfl]
theorem Dg :∀k:Kk,(∃n,k.core=.op n/\k.qw=some n)\/(kw k.core≠"open"/\k.qw=none/\∀d,uf d k=k)
 |.num=>.inr #[by decide,rfl,λ_=>rfl]
 |.kd _=>.inr #[by show("kind":Str)≠"open";decide,rfl,λ_=>rfl]
 |.op n=>.inl #[n,rfl,rfl]
 |.row j=>(Dg j).imp (λ⟨n,a,b⟩=>#[n,a,b]) (λ⟨a,b,c⟩=>#[a,b,λd=>congrArg Kk.row (c d)])
theorem lZ :Nm WK (ak iX):=by decide
theorem qd :Lm WK (ak iX):=by decide
theorem jC :aK WK WD (ak iX):=#[rfl,rfl,rfl,by decide,rfl,by decide,by decide]
theorem Dh (F:ic K "kind_deep" "kind_deep" iX f z):bH P w K mg base eZ 1 f z WD (AJ K):=by
 refine F.ok jC (λC H Q E h=>?_) (λL A p s H C Q E hr h=>?_)
 .have(_,_,rfl,_):=h;rfl
 have(v,o,rfl,D,k):=h;refine#[_,(Z5 (sa jC.nd qd 1 aq) (Z5 (@pJ _ _ _ _ _ _ RD (Zj bR (Z9 jJ (va lZ 0)) aB) (Z5 (Z2 jC.nd qd 0 (Z9 jJ (va lZ 0))) (bW (GY (i:=1) jC.nd rfl (Or.inl rfl) aq GZ)))) (Ze (cH (va lZ 1))))),?_]
 right
 right
 refine#[λm r q=>q=H/\∃(v:V) (l:Kk) (j:Nat),r=[some v,some (.int j)]/\Rp K H (cu l) v/\l.dep=m/\m+j=o.dep,#[o.dep,rfl,v,o,0,rfl,D,rfl,rfl],?_];rintro m r q ⟨rfl,v,l,j,rfl,t,y,G⟩;refine#[_,rfl,jS t ?_];refine#[rfl,_,rfl,?_];rcases HR l with⟨k2,rfl⟩|⟨hw,h0⟩
 .have(u,g,one):=HQ t;refine cM (λ_=>?_) (λc=>absurd (decide_eq_true rfl) c);refine#[λd B=>B=q/\d=[some u,some (.int (j+1:Nat))],λd B ⟨J,I⟩=>#[k2.dep,by rw[<-y];exact SS _,J,u,k2,j+1,I,g,rfl,by rw[<-G,<-y,Kk.dep];omega],?_];exact#[_,rfl,one #[_,rfl,_,_,rfl,rfl,rfl,rfl]]
 .refine cM (λc=>absurd c (Df hw)) (λ_=>?_);ext;have e:j=o.dep:=()
  rw[e];exact k
theorem oX :Nm WX (ak kR):=by decide
theorem tF :Lm WX (ak kR):=by decide
theorem oY :aK WX WK (ak kR):=#[rfl,rfl,rfl,by decide,rfl,by decide,by decide]
theorem Fd (F:ic K "in_rows" "in_rows" kR f r)(z_range:mg "range"=none):bH P w K mg base eZ 1 f r WK (Dd K):=by
 refine F.ok oY (λt H Q E h=>?_) (λz A o s H t Q E hr h=>?_)
 .have(_,_,_,rfl,_):=h;rfl
 have(v,c,d,rfl,u,hd,k):=h;refine#[_,(Z5 (Zk (Zn (Za (va oX 1))) (ga oY.nd tF 2) (Ze (Z2 oY.nd tF 0 (Zg (Z1 aB (Za (va oX 0))))))) (Ze (cH (va oX 0)))),?_]
 right
 right
 ext;refine eO (λi j g=>∃e y,j=[some e,some (.int d),y]/\aF H g/\Rp K g (cu (AH i c)) e) #[v,_,rfl,aF.refl _,u] ?_ ?_
 .rintro i j g hi ⟨e,y,rfl,l,m⟩;ext;intro p q;exact#[_,_,rfl,l.trans (ae q _),Rp.new (K:=K) q (.cons .s (.one m))]
 .rintro j g ⟨e,y,rfl,l,m⟩;ext;exact k _ _ l m
theorem nB :Nm ["kind","core"] (ak jL):=by decide
theorem yi :Lm ["kind","core"] (ak jL):=by decide
theorem qQ :aK ["kind","core"] WD (ak jL):=#[rfl,rfl,rfl,by decide,rfl,by decide,by decide]
theorem Di (F:ic K "opens_in" "opens_in" jL f m)(r:dH P w K mg base "innermost" 1 WD (j9 K) gI ifd):bH P w K mg base eZ 2 f m WD (Fc K):=by
 refine F.ok qQ (λo H Q E h=>?_) (λq A j s H o Q E hr h=>?_)
 .have(_,_,rfl,_):=h;rfl
 have(v,p,rfl,u,k):=h;refine#[_,(Z5 (Z2 qQ.nd yi 1 (Z0 r (Za (va nB 0)))) (Ze (Zo (@wZ _ _ _ _ _ _ _ _ (Zj bR (Z9 jJ (va nB 1)) aB) (@bh _ _ _ _ (Z1 (Z9 jJ (va nB 1)) ao)) (bh ao))))),?_]
 right
 right
 ext;intro t g;ext;refine jS g ?_;rcases Dg p with⟨n,e,eo⟩|⟨hw,eo,_⟩
 .rw[e]at g|-;ext;refine Gu g ?_;ext;intro l d;exact k l _ (ae d _) d (by rw[eo];exact af)
 .ext;refine cM (λc=>absurd c (Df hw)) (λ_=>?_);ext;intro l d;exact k l _ (ae d _) d (by rw[eo];exact af)
theorem fF :Nm WY (ak jM):=by decide
theorem yj :Lm WY (ak jM):=by decide
theorem qR :aK WY ["kind","puts"] (ak jM):=#[rfl,rfl,rfl,by decide,rfl,by decide,by decide]
theorem Fe (F:ic K "kind_put" "kind_put" jM f m)(D:dH P w K mg base "innermost" 1 WD (j9 K) gI ifd)(l:dH P w K mg base "kind_deep" 1 WD (AJ K) gD dfd)(C:dH P w K mg base "in_rows" 1 WK (Dd K) gR rfd):bH P w K mg base eZ 2 f m ["kind","puts"] (De K):=by
 refine F.ok qR (λp H Q E h=>?_) (λB A j s H p Q E hr h=>?_)
 .have(_,_,_,_,rfl,_):=h;rfl
 have(v,d,u,L,rfl,r,t,hd,k):=h;refine#[_,(Z5 (Z2 qR.nd yj 2 (Z0 D (Za (va fF 0)))) (Z5 (Zd (Zj Jj (Z9 jJ (va fF 2)) aB) (Ze (cH (va fF 0)))) (Ze (Zo (Z0 C (Z1 (@xO _ _ _ _ _ _ _ _ _ (mK hr) (va fF 1) (Z9 jJ (va fF 2)) (va fF 2) #[rfl,rfl,rfl,rfl]) (Z1 (Z0 l (Za (va fF 0))) ao))))))),?_]
 right
 right
 ext;intro I g;ext;refine jS g ?_;rcases Dg u with⟨n,e,eo⟩|⟨hw,eo,ep⟩
 .rw[e]at g|-;have(y,o,M,J):=t.get n (y0:=.op n) g;ext;refine Gu g ?_;ext;intro G N q r2;exact k _ _ q (by rw[vh,e];exact r2)
 .ext;refine cM (λ_=>?_) (λc=>absurd (by rw[decide_eq_false (λz=>hw (V.str.inj z))];rfl) c);ext;exact k _ _ (aF.refl _) (by rw[ep];exact r)
end G34
namespace L2
open PySem PySem.Spec PyProof.Rows
def nC(b:Bool)(h:Heap)(l:Addr)(xs:Array cB):Prop:=match b with|false=>h.IsList l xs|true=>h.IsTuple l xs
def lN(b:Bool)(h:Heap)(i l:Addr)(k:Nat):Prop:=match b with|false=>h.IsListIter i l k|true=>h.IsTupleIter i l k
theorem nC.at (x:nC b h l xs)(k:∀o,h.get? l=some o->h'.get? l=some o):nC b h' l xs:=by
 cases b with
 |false=>exact Heap.IsList.at (show h.IsList l xs from x) k
 |true=>have(o,e,r):=(show h.IsTuple l xs from x);exact#[o,k o e,r]
theorem lN.at (x:lN b h i l n)(k:∀o,h.get? i=some o->h'.get? i=some o):lN b h' i l n:=by
 cases b with
 |false=>exact Heap.IsListIter.at (show h.IsListIter i l n from x) k
 |true=>have(o,e,r):=(show h.IsTupleIter i l n from x);exact#[o,k o e,r]
theorem nC.extBut (x:nC b h l xs)(hs:T6 c h h')(d:l≠c):nC b h' l xs:=x.at λo e=>hs l o d e
theorem lN.extBut (x:lN b h i l n)(hs:T6 c h h')(d:i≠c):lN b h' i l n:=x.at λo e=>hs i o d e
theorem nC.got (x:nC b h l xs):∃o,h.get? l=some o:=by
 cases b with
 |false=>have(o,e,_):=(show h.IsList l xs from x);exact#[o,e]
 |true=>have(o,e,_):=(show h.IsTuple l xs from x);exact#[o,e]
theorem lN.got (x:lN b h i l n):∃o,h.get? i=some o:=by
 cases b with
 |false=>have(o,e,_):=(show h.IsListIter i l n from x);exact#[o,e]
 |true=>have(o,e,_):=(show h.IsTupleIter i l n from x);exact#[o,e]
theorem ug (d:s.heap.IsTupleIter it t i)(ht:s.heap.IsTuple t items)(m:items[i]?=some x)(hQ:∀h',h'.IsTupleIter it t (i+1)->Pc it s.heap h'->Q x {s with heap:=h'}):u4 (L0 prog w) A (MR (.ref it)) Q E s:=by
 have(o,e,p,hd):=id d;have(q,g,_,nl,j):=ht;have l:=d.typeIs;unfold MR;refine bB (Nb (name:=MI "__next__") l Oq (NT Oq l QL ?_ (QG _)));show u4 _ _ (S2 (.ref it) 0>>=_) _ _ s;refine bB (MX e hd (x:=.ref t) rfl ?_);show u4 _ _ (if(Value.ref t == Value.none)=true then _ else _) _ _ s;rw[if_neg (show ¬((Value.ref t == Value.none)=true)from FG)];show u4 _ _ (S2 (.ref it) 1>>=_) _ _ s;refine bB (MX e hd (x:=.int i 0) rfl ?_);show u4 _ _ (seqItems? (.ref t)>>=_) _ _ s;refine bB (Nt g j ?_);simp only[NY,m];refine bB (QW e hd (by simp) (lj #[x,rfl,lj (hQ _ #[_,Nc _ e (Q6 (QH hd _)),(UQ ..).trans p,?_] (Ug ..))]));rw[QH hd];simp[NK]
theorem wg (p:A.handled=none)(d:s.heap.IsTupleIter it t i)(ht:s.heap.IsTuple t items)(r:items[i]?=none)(hE:∀h' e,T6 it s.heap h'->(∃o,h'.get? e=some o/\o.cls=.type "StopIteration")->E (.ref e) {s with heap:=h'}):u4 (L0 prog w) A (MR (.ref it)) Q E s:=by
 have(o,j,v,hd):=id d;have(u,g,_,nl,l):=ht;have q:=d.typeIs;unfold MR;refine bB (Nb (name:=MI "__next__") q Oq (NT Oq q QL ?_ (QG _)));show u4 _ _ (S2 (.ref it) 0>>=_) _ _ s;refine bB (MX j hd (x:=.ref t) rfl ?_);show u4 _ _ (if(Value.ref t == Value.none)=true then _ else _) _ _ s;rw[if_neg (show ¬((Value.ref t == Value.none)=true)from FG)];show u4 _ _ (S2 (.ref it) 1>>=_) _ _ s;refine bB (MX j hd (x:=.int i 0) rfl ?_);show u4 _ _ (seqItems? (.ref t)>>=_) _ _ s;refine bB (Nt g l ?_);simp only[NY,r];refine bB (P7 (bB (QW j hd (by simp) ?_)));show u4 _ _ (newExc (.type "StopIteration") []>>=_) _ _ _;refine bB ?_;simp only[newExc,newTuple];refine bB (NX ?_ (by size_fits));refine bB (m:=firstArgMember _ _) (wpAny_of_eq (a:=Value.none) (by first|rfl|(simp only[firstArgMember];rfl)) ?_)
 refine NX ?_ (by size_fits);simp only[raiseNew];refine bB (wpAny_handled ?_)
 first|rw[show A.in1.handled=none from p]|rw[p]
 refine bB (lj (wpAny_throw ?_));exact hE _ _ (((Ug ..).extBut.push _).push _) #[_,zv _ rfl,rfl]
theorem jT (d:lN b s.heap it l i)(g:nC b s.heap l items)(e:items[i]?=some x)(hQ:∀h',lN b h' it l (i+1)->Pc it s.heap h'->Q x {s with heap:=h'}):u4 (L0 prog w) A (MR (.ref it)) Q E s:=by
 cases b with
 |false=>exact wpAny_nextOf_list_item d g e hQ
 |true=>exact ug d g e hQ
theorem qe (m:A.handled=none)(d:lN b s.heap it l i)(j:nC b s.heap l items)(g:items[i]?=none)(hE:∀h' e,T6 it s.heap h'->(∃o,h'.get? e=some o/\o.cls=.type "StopIteration")->E (.ref e) {s with heap:=h'}):u4 (L0 prog w) A (MR (.ref it)) Q E s:=by
 cases b with
 |false=>exact wpAny_nextOf_list_end m d j g hE
 |true=>exact wg m d j g hE
noncomputable abbrev nF(b:Bool)(l:Addr):Obj:={cls:=.type (cond b "tuple_iterator" "list_iterator"),data:=.fields #[.ref l,.int 0 0,]}
theorem yk (d:nC b s.heap l items)(e:Q (.ref s.heap.objs.size) {s with heap:=s.heap.push (nF b l)}):u4 (L0 prog w) A (pyIter (.ref l)) Q E s:=by
 cases b with
 |false=>exact Sv d e
 |true=>exact R0 d e
noncomputable abbrev Km(d:Bool)(h:Heap)(l1:Addr):Heap:=h.push (nF d l1)
noncomputable abbrev Kn(e d:Bool)(h:Heap)(l1 l2:Addr):Heap:=(Km e h l1).push (nF d l2)
noncomputable abbrev Ko(d e:Bool)(h:Heap)(l1 l2:Addr):Heap:=(Kn d e h l1 l2).push {cls:=.type "tuple",data:=.seq #[.ref h.objs.size,.ref (Km d h l1).objs.size,]}
noncomputable abbrev Kp(e d:Bool)(h:Heap)(l1 l2:Addr):Heap:=(Ko e d h l1 l2).push {cls:=.type "tuple",data:=.seq #[.none,.none,]}
noncomputable abbrev HS(e d:Bool)(h:Heap)(l1 l2:Addr):Heap:=(Kp e d h l1 l2).push {cls:=.type "zip",data:=.fields #[.none,.bool false,.bool false,.ref (Kn e d h l1 l2).objs.size,.ref (Ko e d h l1 l2).objs.size,]}
theorem HU (j l:Bool)(l1 l2:Addr)(xs ys:Array cB):
  Meets (Px.«zip.__new__» #[[.type "zip",.ref l1,.ref l2],[]]) (λ_ R s=>nC j s.heap l1 xs/\nC l s.heap l2 ys/\R (.ok (.ret (.ref (Kp j l s.heap l1 l2).objs.size))) {s with heap:=HS j l s.heap l1 l2}) :=
 .of_wp λu w A R s h=>by
  have(z,g,d,t,v):=s;have(p,m,h):=h;have y:=sub_zip;have r:nC j (Ve #[z,g,d,t,v]) l1 xs:=p;have q:nC l (Ve #[z.push (nF j l1),g,d,t,v]) l2 ys:=m.at λo e=>lu _ e
  wp_walk using yk r,yk q
  exact#[_,rfl,h]
theorem Dj (e:h.get? i=some (nF b l)):lN b h i l 0:=by
 cases b with
 |false=>exact#[_,e,rfl,rfl]
 |true=>exact#[_,e,rfl,rfl]
theorem AL (r:nC b1 s.heap l1 xs)(q:nC b2 s.heap l2 ys)(h:∀h',S3 h' (s.heap.objs.size+4) (s.heap.objs.size+2) (s.heap.objs.size+3) .none->OB h' (s.heap.objs.size+2) (.ref s.heap.objs.size) (.ref (s.heap.objs.size+1)) ->
   OB h' (s.heap.objs.size+3) .none .none->lN b1 h' s.heap.objs.size l1 0->lN b2 h' (s.heap.objs.size+1) l2 0->h'.objs.size=s.heap.objs.size+5 ->
   (∀c o,s.heap.get? c=some o->h'.get? c=some o)->Q (.ref (s.heap.objs.size+4)) {s with heap:=h'}):
  u4 (L0 prog w) A (call (.type "zip") [.ref l1,.ref l2]) Q E s:=by
 refine callType_new PySem.F.called_zip (by decide) (PySem.F.typeCall_zip_2 _ _) (PySem.F.newCall_zip_2 _ _) (λp=>PySem.F.args_object_init_3 p _ _) PySem.F.entry_zip_new (HU b1 b2 l1 l2 xs ys) #[r,q,?_];have m:(Km b1 s.heap l1).objs.size=s.heap.objs.size+1:=Ob ..;have l:(Kn b1 b2 s.heap l1 l2).objs.size=s.heap.objs.size+2:=by rw[Ob,m]
 have j:(Ko b1 b2 s.heap l1 l2).objs.size=s.heap.objs.size+3:=by rw[Ob,l]
 have g:(Kp b1 b2 s.heap l1 l2).objs.size=s.heap.objs.size+4:=by rw[Ob,j]
 have z:(HS b1 b2 s.heap l1 l2).objs.size=s.heap.objs.size+5:=by rw[Ob,g]
 have d:∀{h:Heap}{c:Addr}{o:Obj}(x:Obj),h.get? c=some o->(h.push x).get? c=some o:=λx e=>lu _ e;have t:(HS b1 b2 s.heap l1 l2).get? (Kp b1 b2 s.heap l1 l2).objs.size=some _:=zv _ rfl;have u:(HS b1 b2 s.heap l1 l2).get? (Ko b1 b2 s.heap l1 l2).objs.size=some _:=d _ (zv _ rfl);have v:(HS b1 b2 s.heap l1 l2).get? (Kn b1 b2 s.heap l1 l2).objs.size=some _:=d _ (d _ (zv _ rfl));have y:(HS b1 b2 s.heap l1 l2).get? (Km b1 s.heap l1).objs.size=some (nF b2 l2):=d _ (d _ (d _ (zv _ rfl)));have B:(HS b1 b2 s.heap l1 l2).get? s.heap.objs.size=some (nF b1 l1):=d _ (d _ (d _ (d _ (zv _ rfl))));show _/\_;rw[l,j,g]at t;rw[m,l]at v;rw[j]at u;rw[m]at y;rw[g];exact#[#[_,t,rfl],h _ t v u (Dj B) (Dj y) z λc o x=>d _ (d _ (d _ (d _ (d _ x))))]
theorem AM {TI TO:Addr}(D:Ro z TI TO N M l1 l2)(hz:S3 s.heap z TI TO .none)(ah:OB s.heap TI (.ref N) (.ref M))(ag:OB s.heap TO a b)(h1:lN b1 s.heap N l1 k1)(h2:lN b2 s.heap M l2 k2)(hl1:nC b1 s.heap l1 xs)(hl2:nC b2 s.heap l2 ys)(hx:xs[k1]?=some x)(hy:ys[k2]?=some y)(hQ:∀h',S3 h' z TI TO (NK s.heap.objs.size)->OB h' TO x y->lN b1 h' N l1 (k1+1)->lN b2 h' M l2 (k2+1)->OB h' s.heap.objs.size x y->h'.objs.size=s.heap.objs.size+1 ->
   (∀c o,c≠z->c≠TO->c≠N->c≠M->s.heap.get? c=some o->h'.get? c=some o)->Q (some (.ref s.heap.objs.size)) {s with heap:=h'}):
  u4 (L0 prog w) A (Qp (.ref z)) Q E s:=by
 have ae:s.TypeIs (.ref z) "zip":=#[_,hz,rfl];unfold Qp;refine bB (Om (Nb (name:=MI "__next__") ae Nu (NT Nu ae OT ?_ (OM _))));show u4 _ _ (S2 (.ref z) 2>>=_) _ _ _;refine bB (MX hz rfl (x:=.bool false) rfl ?_);show u4 _ _ (S2 (.ref z) 3>>=_) _ _ _;refine bB (MX hz rfl (x:=.ref TI) rfl (bB (Nt ah rfl ?_)));show u4 _ _ (MV (.ref z)>>=_) _ _ _;refine bB ?_;unfold MV;refine bB (MX hz rfl (x:=.none) rfl (lj ?_));simp only[if_true];refine bB (P7 (bB (MX hz rfl (x:=.ref TO) rfl ?_)));refine bB (OA hz (by simp) λab B g=>?_)
 replace B:S3 ab z TI TO .ellipsis:=B
 refine bB ?_;simp only[U6,List.zipIdx_nil,Pa,Pz];refine bB (bB (Ri ?_));show u4 _ _ (MR (.ref N)>>=_) _ _ _;refine bB (jT (h1.extBut g.extBut D.i1z) (hl1.extBut g.extBut D.l1z) hx λaa V l=>lj ?_);have I:OB aa TO a b:=l.extBut _ _ D.TOi1 (g.extBut _ _ D.TOz ag);refine bB (Nt I rfl (bB (Rq I λZ t j=>?_)))
 replace t:OB Z TO x b:=t
 refine bB (Rr (lj ?_));refine bB (bB (Ri ?_));show u4 _ _ (MR (.ref M)>>=_) _ _ _;refine bB (jT (((h2.extBut g.extBut D.i2z).extBut l.extBut D.i12.symm).extBut j.extBut D.TOi2.symm) (((hl2.extBut g.extBut D.l2z).extBut l.extBut D.l2i1).extBut j.extBut D.l2TO) hy λY T q=>lj ?_);have H:OB Y TO x b:=q.extBut _ _ D.TOi2 t;refine bB (Nt H rfl (bB (Rq H λd m p=>?_)))
 replace m:OB d TO x y:=m
 refine bB (Rr (lj (lj (bB (Nt m rfl (bB (wpAny_newTuple ?_)))))));have ad:d.objs.size=s.heap.objs.size:=by rw[p.1,q.1,j.1,l.1,g.1]
 have J:S3 d z TI TO .ellipsis:=p.extBut _ _ D.TOz.symm (q.extBut _ _ D.i2z.symm (j.extBut _ _ D.TOz.symm (l.extBut _ _ D.i1z.symm B)));have R:∀c o,c≠z->c≠TO->c≠N->c≠M->s.heap.get? c=some o->d.get? c=some o:=λc o W c2 c3 c4 e=>p.extBut _ _ c2 (q.extBut _ _ c4 (j.extBut _ _ c2 (l.extBut _ _ c3 (g.extBut _ _ W e))));have U:lN b1 d N l1 (k1+1):=((V.extBut j.extBut D.TOi1.symm).extBut q.extBut D.i12).extBut p.extBut D.TOi1.symm;have S:lN b2 d M l2 (k2+1):=T.extBut p.extBut D.TOi2.symm;have O:z<d.objs.size:=ri J;show u4 _ _ (Qt (.ref z) (.ref d.objs.size)>>=_) _ _ _;refine bB ?_;unfold Qt;have P:S3 (d.push {cls:=.type "tuple",data:=.seq #[x,y,]}) z TI TO .ellipsis:=lu _ J;refine bB (OA P (by simp) λX v G=>?_)
 replace v:S3 X z TI TO (NK d.objs.size):=v
 refine OA v (by simp) λu r C=>?_
 replace r:S3 u z TI TO (NK d.objs.size):=r
 have up:∀c o,c≠z->d.get? c=some o->u.get? c=some o:=λc o W e=>C.extBut _ _ W (G.extBut _ _ W (lu _ e));have L:OB u d.objs.size x y:=C.extBut _ _ (Oo O) (G.extBut _ _ (Oo O) (zv _ rfl));have ac:u.objs.size=d.objs.size+1:=by rw[C.1,G.1,Ob]
 rw[ad]at r L ac;refine lj #[_,rfl,lj ?_];show Q (some (.ref d.objs.size)) _;rw[ad];exact hQ u r (up _ _ D.TOz m) (U.at λo e=>up _ o D.i1z e) (S.at λo e=>up _ o D.i2z e) L ac λc o W c2 c3 c4 e=>up c o W (R c o W c2 c3 c4 e)
theorem Dk {TI TO:Addr}(hh:A.handled=none)(D:Ro z TI TO I H l1 l2)(hz:S3 s.heap z TI TO .none)(X:OB s.heap TI (.ref I) (.ref H))(W:OB s.heap TO a b)(h1:lN b1 s.heap I l1 U)(h2:lN b2 s.heap H l2 S)(hl1:nC b1 s.heap l1 xs)(hl2:nC b2 s.heap l2 ys)(hend:xs[U]?=none\/ys[S]?=none)(hQ:∀h',(∀c o,c≠z->c≠TO->c≠I->c≠H->s.heap.get? c=some o->h'.get? c=some o)->Q none {s with heap:=h'}):u4 (L0 prog w) A (Qp (.ref z)) Q E s:=by
 have N:s.TypeIs (.ref z) "zip":=#[_,hz,rfl]
 have B:∀(h':Heap) (e:Addr),(∀c o,c≠z->c≠TO->c≠I->c≠H->s.heap.get? c=some o->h'.get? c=some o)->(∃o,h'.get? e=some o/\o.cls=.type "StopIteration") ->
   u4 (L0 prog w) A (do if(←Tq (.ref e) (.type "StopIteration"))then pure none else throw (.ref e)) Q E {s with heap:=h'}:=λh' e hk ⟨o,ho,hc⟩ =>
  bB (OD (T:="StopIteration") (b:=true) #[o,ho,hc] T7 (lj (hQ _ hk)))
 unfold Qp;refine bB (Om (Nb (name:=MI "__next__") N Nu (NT Nu N OT ?_ (OM _))));show u4 _ _ (S2 (.ref z) 2>>=_) _ _ _;refine bB (MX hz rfl (x:=.bool false) rfl ?_);show u4 _ _ (S2 (.ref z) 3>>=_) _ _ _;refine bB (MX hz rfl (x:=.ref TI) rfl (bB (Nt X rfl ?_)));show u4 _ _ (MV (.ref z)>>=_) _ _ _;refine bB ?_;unfold MV;refine bB (MX hz rfl (x:=.none) rfl (lj ?_));simp only[if_true];refine bB (P7 (bB (MX hz rfl (x:=.ref TO) rfl ?_)));refine bB (OA hz (by simp) λM l d=>?_)
 replace l:S3 M z TI TO .ellipsis:=l
 refine bB ?_;simp only[U6,List.zipIdx_nil,Pa,Pz];refine bB (bB (Ri ?_));show u4 _ _ (MR (.ref I)>>=_) _ _ _
 cases hx:xs[U]? with
 |none =>
  refine bB (qe hh (h1.extBut d.extBut D.i1z) (hl1.extBut d.extBut D.l1z) hx λq e g V=>?_);have(R,m,y):=V;have t:S3 q z TI TO .ellipsis:=g _ _ D.i1z.symm l;have G:e≠z:=λx=>by subst x;rw[t]at m;cases m;simp at y
  exact OA t (by simp) λC _ j=>B C e (λc o O _ Z _ x=>j.extBut _ _ O (g _ _ Z (d.extBut _ _ O x))) #[R,j.extBut _ _ G m,y]
 |some x =>
  have hy:ys[S]?=none:=by
   rcases hend with h|h
   .rw[hx]at h;cases h
   .exact h
  refine bB (jT (h1.extBut d.extBut D.i1z) (hl1.extBut d.extBut D.l1z) hx λq Y g=>lj ?_);have p:OB q TO a b:=g.extBut _ _ D.TOi1 (d.extBut _ _ D.TOz W);refine bB (Nt p rfl (bB (Rq p λC P j=>?_)));refine bB (Rr (lj ?_));refine bB (bB (Ri ?_));show u4 _ _ (MR (.ref H)>>=_) _ _ _;refine bB (qe hh (((h2.extBut d.extBut D.i2z).extBut g.extBut D.i12.symm).extBut j.extBut D.TOi2.symm) (((hl2.extBut d.extBut D.l2z).extBut g.extBut D.l2i1).extBut j.extBut D.l2TO) hy λL e v V=>?_);have(R,m,y):=V;have r:S3 L z TI TO .ellipsis:=v _ _ D.i2z.symm (j.extBut _ _ D.TOz.symm (g.extBut _ _ D.i1z.symm l));have G:e≠z:=λx=>by subst x;rw[r]at m;cases m;simp at y
  exact OA r (by simp) λJ _ u=>B J e (λc o O c2 Z c4 x=>u.extBut _ _ O (v _ _ c4 (j.extBut _ _ c2 (g.extBut _ _ Z (d.extBut _ _ O x))))) #[R,u.extBut _ _ G m,y]
theorem tG {TI TO T:Addr}(D:Ro z TI TO m p l1 l2)(hz:vP s.heap z TI TO T C)(hT:s.heap.get? T=some R)(hTI:OB s.heap TI (.ref m) (.ref p))(h1:lN b1 s.heap m l1 H)(h2:lN b2 s.heap p l2 I)(hl1:nC b1 s.heap l1 xs)(hl2:nC b2 s.heap l2 ys)(hx:xs[H]?=some x)(hy:ys[I]?=some y)(hQ:∀h',vP h' z TI TO T true->lN b1 h' m l1 (H+1)->lN b2 h' p l2 (I+1)->OB h' s.heap.objs.size x y ->
   (∀c o,c≠z->c≠m->c≠p->s.heap.get? c=some o->h'.get? c=some o)->Q (some (.ref s.heap.objs.size)) {s with heap:=h'}):
  u4 (L0 prog w) A (Qp (.ref z)) Q E s:=by
 have B:s.TypeIs (.ref z) "zip":=#[_,hz,rfl];unfold Qp
 refine bB (Om (Nb (name:=MI "__next__") B Nu
  (NT Nu B OT ?_ (OM _))))
 show u4 _ _ (S2 (.ref z) 2>>=_) _ _ _;refine bB (MX hz rfl (x:=.bool false) rfl ?_);show u4 _ _ (S2 (.ref z) 3>>=_) _ _ _;refine bB (MX hz rfl (x:=.ref TI) rfl ?_);refine bB (Nt hTI rfl ?_);show u4 _ _ (MV (.ref z)>>=_) _ _ _;refine bB (qC hz hT λP r d=>?_);simp only[NC,if_false];refine bB ?_;simp only[<-Se,Pa,Pz];refine bB (bB (MZ ?_));show u4 _ _ (MR (.ref m)>>=_) _ _ _;refine bB (jT (h1.extBut d.extBut D.i1z) (hl1.extBut d.extBut D.l1z) hx λO v j=>lj (lj ?_));dsimp only;refine bB (bB (MZ ?_));show u4 _ _ (MR (.ref p)>>=_) _ _ _;refine bB (jT ((h2.extBut d.extBut D.i2z).extBut j.extBut D.i12.symm) ((hl2.extBut d.extBut D.l2z).extBut j.extBut D.l2i1) hy λg t l=>lj (lj (lj ?_)));dsimp only;refine bB (wpAny_newTuple (hsz:=by show 2<=mC;decide) ?_);have hsz:g.objs.size=s.heap.objs.size:=by rw[l.1,j.1,d.1]
 have q:vP g z TI TO T true:=l.extBut _ _ D.i2z.symm (j.extBut _ _ D.i1z.symm r);have S:∀c o,c≠z->c≠m->c≠p->s.heap.get? c=some o->g.get? c=some o:=λc o N M L e=>l.extBut _ _ L (j.extBut _ _ M (d.extBut _ _ N e));have u:lN b1 g m l1 (H+1):=v.extBut l.extBut D.i12;refine lj #[_,rfl,lj ?_];show Q (some (.ref g.objs.size)) _;have J:OB (g.push {cls:=.type "tuple",data:=.seq #[x,y,]}) g.objs.size x y:=zv _ rfl;have G:=hQ (g.push {cls:=.type "tuple",data:=.seq #[x,y,]}) (lu _ q) (u.at λo e=>lu _ e) (t.at λo e=>lu _ e) (by rw[<-hsz];exact J) λc o N M L e=>lu _ (S c o N M L e);rw[<-hsz]at G;exact G
theorem uh {TI TO T:Addr}(G:A.handled=none)(D:Ro z TI TO j p l1 l2)(hz:vP s.heap z TI TO T m)(hT:s.heap.get? T=some C)(hTI:OB s.heap TI (.ref j) (.ref p))(h1:lN b1 s.heap j l1 u)(hl1:nC b1 s.heap l1 xs)(hx:xs[u]?=none)(hQ:∀h',(∀c o,c≠z->c≠j->c≠p->s.heap.get? c=some o->h'.get? c=some o)->Q none {s with heap:=h'}):
  u4 (L0 prog w) A (Qp (.ref z)) Q E s:=by
 have l:s.TypeIs (.ref z) "zip":=#[_,hz,rfl];unfold Qp
 refine bB (Om (Nb (name:=MI "__next__") l Nu
  (NT Nu l OT ?_ (OM _))))
 show u4 _ _ (S2 (.ref z) 2>>=_) _ _ _;refine bB (MX hz rfl (x:=.bool false) rfl ?_);show u4 _ _ (S2 (.ref z) 3>>=_) _ _ _;refine bB (MX hz rfl (x:=.ref TI) rfl ?_);refine bB (Nt hTI rfl ?_);show u4 _ _ (MV (.ref z)>>=_) _ _ _;refine bB (qC hz hT λy q d=>?_);simp only[NC,if_false];refine bB ?_;simp only[<-Se,Pa,Pz];refine bB (bB (MZ ?_));show u4 _ _ (MR (.ref j)>>=_) _ _ _;refine bB (qe G (h1.extBut d.extBut D.i1z) (hl1.extBut d.extBut D.l1z) hx λv e g H=>?_);have(B,r,t):=H;refine bB (OD (T:="StopIteration") (b:=true) #[B,r,t] T7 ?_);exact lj (hQ _ λc o L J _ I=>g _ _ J (d.extBut _ _ L I))
theorem tH {TI TO T:Addr}(L:A.handled=none)(D:Ro z TI TO m l l1 l2)(hz:vP s.heap z TI TO T q)(hT:s.heap.get? T=some J)(hTI:OB s.heap TI (.ref m) (.ref l))(h1:lN b1 s.heap m l1 B)(h2:lN b2 s.heap l l2 y)(hl1:nC b1 s.heap l1 xs)(hl2:nC b2 s.heap l2 ys)(hx:xs[B]?=some x)(hy:ys[y]?=none)(hQ:∀h',(∀c o,c≠z->c≠m->c≠l->s.heap.get? c=some o->h'.get? c=some o)->Q none {s with heap:=h'}):
  u4 (L0 prog w) A (Qp (.ref z)) Q E s:=by
 have p:s.TypeIs (.ref z) "zip":=#[_,hz,rfl];unfold Qp
 refine bB (Om (Nb (name:=MI "__next__") p Nu
  (NT Nu p OT ?_ (OM _))))
 show u4 _ _ (S2 (.ref z) 2>>=_) _ _ _;refine bB (MX hz rfl (x:=.bool false) rfl ?_);show u4 _ _ (S2 (.ref z) 3>>=_) _ _ _;refine bB (MX hz rfl (x:=.ref TI) rfl ?_);refine bB (Nt hTI rfl ?_);show u4 _ _ (MV (.ref z)>>=_) _ _ _;refine bB (qC hz hT λH r d=>?_);simp only[NC,if_false];refine bB ?_;simp only[<-Se,Pa,Pz];refine bB (bB (MZ ?_));show u4 _ _ (MR (.ref m)>>=_) _ _ _;refine bB (jT (h1.extBut d.extBut D.i1z) (hl1.extBut d.extBut D.l1z) hx λG v g=>lj (lj ?_));dsimp only;refine bB (bB (MZ ?_));show u4 _ _ (MR (.ref l)>>=_) _ _ _;refine bB (qe L ((h2.extBut d.extBut D.i2z).extBut g.extBut D.i12.symm) ((hl2.extBut d.extBut D.l2z).extBut g.extBut D.l2i1) hy λC e j M=>?_);have(I,t,u):=M;refine bB (OD (T:="StopIteration") (b:=true) #[I,t,u] T7 ?_);exact lj (hQ _ λc o R P O N=>j _ _ O (g.extBut _ _ P (d.extBut _ _ R N)))
structure K4(b1 b2:Bool) (h:Heap) (z TI TO i1 i2 l1 l2 lo:Nat) (xs ys:Array cB) (i:Nat):Prop where
 ti:OB h TI (.ref i1) (.ref i2)
 it1:lN b1 h i1 l1 i
 it2:lN b2 h i2 l2 i
 ls1:nC b1 h l1 xs
 ls2:nC b2 h l2 ys
 st:(i=0/\S3 h z TI TO .none/\∃a b,OB h TO a b)\/∃(T:Nat) (flag:Bool) (oT:Obj),vP h z TI TO T flag/\h.get? T=some oT/\lo<=T
theorem BE {s:eT}{TI TO lo:Nat}(hh:A.handled=none)(D:Ro z TI TO v u l1 l2)(M:S≠z/\S≠TI/\S≠TO/\S≠v/\S≠u/\S≠l1/\S≠l2)(hL:z<lo/\TO<lo/\v<lo/\u<lo/\S<lo)(hnx:n<=xs.size)(hny:n<=ys.size)(hend:xs[n]?=none\/ys[n]?=none)(hn:n<=mC)(res:cB){h₁:Heap}(hR:∀h' tk acc c (as:List Nat),(∀b o,b≠S->b≠z->b≠TO->b≠v->b≠u->h₁.get? b=some o->h'.get? b=some o)->h'.get? S=some {cls:=.type "list",dict:=none,data:=.seq acc c,slots:=#[]}->as.length=n->mL h' lo xs ys as ->
   acc.toList=as.map Value.ref->R (.ok (.ret res)) {s with heap:=h',toks:=tk}):
  ∀(k i:Nat) (h:Heap) (tk c:Nat) (acc:Array cB) (as:List Nat),n-i=k->i<=n->K4 b1 b2 h z TI TO v u l1 l2 lo xs ys i ->
   (∀b o,b≠S->b≠z->b≠TO->b≠v->b≠u->h₁.get? b=some o->h.get? b=some o)->lo<=h.objs.size ->
   h.get? S=some {cls:=.type "list",dict:=none,data:=.seq acc c,slots:=#[]}->acc.toList=as.map Value.ref->as.length=i->mL h lo xs ys as ->
   Qg (L0 prog w) A (.builtin "list.extend.loop" #[[.ref S,.ref z,res],[]]) R {s with heap:=h,toks:=tk}:=by
 have(s1,s2,s3,Z,Y,s6,s7):=M;have(L1,L2,L3,L4,L5):=hL;have p:∀{a b:Nat},b<lo->lo<=a->a≠b:=λh1 h2=>Oo (zo h1 h2);intro k
 induction k with
 |zero =>
  intro i h tk c acc as hk hi d m y M q r hG;have ab:i=n:=()
  subst ab;refine RE So ?_;rw[Qd Ou _];show u4 _ A.in1 (Qp (.ref z)>>=_) _ _ _
  have t:∀h':Heap,(∀c o,c≠z->c≠TO->c≠v->c≠u->h.get? c=some o->h'.get? c=some o)->R (.ok (.ret res)) {s with heap:=h',toks:=tk}:=λh' j =>
   hR h' tk acc c as (λb o b1 b2 V U Q e=>j b o b2 V U Q (m b o b1 b2 V U Q e)) (j S _ s1 s3 Z Y M) r (hG.keep λ(c:Nat) o hc e=>j c o (p L1 hc) (p L2 hc) (p L3 hc) (p L4 hc) e) q
  rcases d.st with⟨e0,hz,a,b,hTO⟩|⟨T,l,C,hz,hT,hTlo⟩
  .exact bB (Dk (s:={s with heap:=h,toks:=tk}) (A:=A.in1) hh D hz d.ti hTO d.it1 d.it2 d.ls1 d.ls2 hend λh' j=>lj (t h' j))
  .cases E:xs[i]? with
   |none=>exact bB (uh (s:={s with heap:=h,toks:=tk}) (A:=A.in1) hh D hz hT d.ti d.it1 d.ls1 E λh' j=>lj (t h' λc o P _ O N e=>j c o P O N e))
   |some x =>
    have G:ys[i]?=none:=hend.resolve_left (by rw[E];intro z;cases z);exact bB (tH (s:={s with heap:=h,toks:=tk}) (A:=A.in1) hh D hz hT d.ti d.it1 d.it2 d.ls1 d.ls2 E G λh' j=>lj (t h' λc o P _ O N e=>j c o P O N e))
 |succ k ih =>
  intro i h tk c acc as hk hi d m y M q r hG;have aa:i<xs.size:=()
  have I:i<n:=()
  have J:i<ys.size:=()
  have E:xs[i]?=some xs[i]:=Qn aa;have G:ys[i]?=some ys[i]:=Qn J;have B:acc.size=i:=by rw[<-r,<-bC (f:=Value.ref),<-q];simp
  refine RE So ?_;rw[Qd Ou _];show u4 _ A.in1 (Qp (.ref z)>>=_) _ _ _
  -- what follows a turn
  have next:∀h':Heap,(∃(T:Nat) (l:Bool) (C:Obj),vP h' z TI TO T l/\h'.get? T=some C/\lo<=T)->lN b1 h' v l1 (i+1)->lN b2 h' u l2 (i+1)->OB h' h.objs.size xs[i] ys[i] ->
    (∀c o,c≠z->c≠TO->c≠v->c≠u->h.get? c=some o->h'.get? c=some o) ->
    u4 (L0 prog w) A.in1 (S4 S (·.push (Value.ref h.objs.size))>>=λ_=>again (.builtin "list.extend.loop" #[[.ref S,.ref z,res],[]]))
     (λt W=>match t with|.done f=>R (.ok f) W|.again c'=>c'.quiet=true/\Qg (L0 prog w) A c' R W) (λe W=>R (.error e) W) {s with heap:=h',toks:=tk}:=by
   intro h' hb j1 j2 hp j;have L:h'.get? S=some {cls:=.type "list",dict:=none,data:=.seq acc c,slots:=#[]}:=j S _ s1 s3 Z Y M;have g:∀b o,b≠S->h'.get? b=some o->(h'.update S (Nn (·.push (Value.ref h.objs.size)))).get? b=some o:=λb o hb e=>(M9 _ _ (NW hb)).trans e;have H:OB (h'.update S (Nn (·.push (Value.ref h.objs.size)))) h.objs.size xs[i] ys[i]:=g _ _ (p L5 y) hp;refine bB (PX L rfl (lj #[Qx Ou _,?_]) (by rw[B];omega) (by show(acc.push _).size<=mC+1;rw[Array.size_push,B];omega));refine ih (i+1) (h'.update S (Nn (·.push (Value.ref h.objs.size)))) tk _ (acc.push (Value.ref h.objs.size)) (as++[h.objs.size]) () I #[?_,?_,?_,?_,?_,?_] ?_ ?_ (Nc _ L rfl) ?_ (by rw[j3,r];rfl) ?_
   .exact g _ _ (NW s2) (j TI _ D.TIz D.TITO D.TIi1 D.TIi2 d.ti)
   .exact j1.at λo e=>g _ o (NW Z) e
   .exact j2.at λo e=>g _ o (NW Y) e
   .exact d.ls1.at λo e=>g _ o (NW s6) (j _ o D.l1z D.l1TO D.l1i1 D.l1i2 e)
   .exact d.ls2.at λo e=>g _ o (NW s7) (j _ o D.l2z D.l2TO D.l2i1 D.l2i2 e)
   .have(T,l,C,e1,e2,e3):=hb;exact .inr #[T,l,C,g _ _ (NW s1) e1,g _ _ (p L5 e3) e2,e3]
   .exact λb o b1 b2 V U Q e=>g b o b1 (j b o b2 V U Q (m b o b1 b2 V U Q e))
   .have:h.objs.size<(h'.update S (Nn (·.push (Value.ref h.objs.size)))).objs.size:=ri H;omega
   .rw[Array.toList_push,q,m3];rfl
   .exact hG.snoc (h':=h'.update S (Nn (·.push (Value.ref h.objs.size)))) (λ(c:Nat) o hc e=>g c o (p L5 hc) (j c o (p L1 hc) (p L2 hc) (p L3 hc) (p L4 hc) e)) y (mu _) (by rw[r];exact E) (by rw[r];exact G) H
  rcases d.st with⟨e0,hz,a,b,hTO⟩|⟨T,l,C,hz,hT,hTlo⟩
  .refine bB (AM (s:={s with heap:=h,toks:=tk}) D hz d.ti hTO d.it1 d.it2 d.ls1 d.ls2 E G λh' a1 a2 a3 a4 X a6 j=>?_);exact next h' #[h.objs.size,false,_,a1,X,y] a3 a4 X j
  .refine bB (tG (s:={s with heap:=h,toks:=tk}) D hz hT d.ti d.it1 d.it2 d.ls1 d.ls2 E G λh' a1 a3 a4 X j=>?_);exact next h' #[T,true,C,a1,j T C (p L1 hTlo) (p L3 hTlo) (p L4 hTlo) hT,hTlo] a3 a4 X λc o P _ O N e=>j c o P O N e
theorem tI (hh:A.handled=none)(t:nC b1 s.heap l1 xs)(r:nC b2 s.heap l2 ys)(N:n<=xs.size)(M:n<=ys.size)(G:xs[n]?=none\/ys[n]?=none)(hn:n<=mC)(hQ:∀h' tk acc c (as:List Nat),(∀b o,s.heap.get? b=some o->h'.get? b=some o)->h'.get? (s.heap.objs.size+5)=some {cls:=.type "list",dict:=none,data:=.seq acc c,slots:=#[]}->as.length=n->mL h' (s.heap.objs.size+6) xs ys as ->
   acc.toList=as.map Value.ref->Q (.ref (s.heap.objs.size+5)) {s with heap:=h',toks:=tk}):
  u4 (L0 prog w) A (call (.type "zip") [.ref l1,.ref l2]) (λv V=>u4 (L0 prog w) A (call (.type "list") [v]) Q E V) E s:=by
 have Z:l1<s.heap.objs.size:=by have(_,e):=t.got;exact ri e
 have Y:l2<s.heap.objs.size:=by have(_,e):=r.got;exact ri e
 refine AL t r λg hz T S h1 h2 C P=>?_
 have D:Ro (s.heap.objs.size+4) (s.heap.objs.size+2) (s.heap.objs.size+3) s.heap.objs.size (s.heap.objs.size+1) l1 l2:=by
  refine#[?_,?_,?_,?_,?_,?_,?_,?_,?_,?_,?_,?_,?_,?_,?_,?_,?_,?_]<;>(show @Ne Nat _ _;omega)
 have J:(g.push {cls:=.type "list",data:=.seq #[]}).get? g.objs.size=some {cls:=.type "list",data:=.seq #[]}:=zv _ rfl
 refine T5 (Q₁:=λB p=>B=.ref g.objs.size/\p={s with heap:=g.push {cls:=.type "list",data:=.seq #[]}}) Uh (S5 _) S7
  (code_list_new _ #[rfl,rfl]) λB p h₁=>?_
 have(rfl,rfl):=h₁;refine#[#[_,J,rfl],SI _ _,?_];show u4 _ A.in1.in1 (do let L ←OU (.ref g.objs.size);S9 (.ref g.objs.size) (λ_=>#[]);letGo L.toList.reverse;NQ (.ref g.objs.size) (.ref (s.heap.objs.size+4)) .none) _ _ _;refine bB ?_;unfold OU;refine bB (Nt J rfl (lj ?_));show u4 _ A.in1.in1 (S4 g.objs.size (λ_=>#[])>>=λ_=>letGo (#[]:Array cB).toList.reverse>>=λ_=>NQ (.ref g.objs.size) (.ref (s.heap.objs.size+4)) .none) _ _ _;refine bB (PX J rfl ?_);have j:=Nc (Nn (λ_=>(#[]:Array cB))) J rfl
 have m:∀b o,g.get? b=some o->((g.push {cls:=.type "list",data:=.seq #[]}).update g.objs.size (Nn (λ_=>(#[]:Array cB)))).get? b=some o :=
  λb o e=>(M9 _ _ (Oo (ri e))).trans (lu _ e)
 generalize hg2:(g.push {cls:=.type "list",data:=.seq #[]}).update g.objs.size (Nn (λ_=>(#[]:Array cB)))=g2 at j m|-;refine bB (Rr ?_);have u:OW {s with heap:=g2} (.ref (s.heap.objs.size+4)) "zip":=#[_,m _ _ hz,rfl];unfold NQ;refine bB (Of u ?_)
 have q1:Oe (.ref g.objs.size) (.ref (s.heap.objs.size+4))=false:=by
  simp only[Oe,beq_eq_false_iff_ne];intro z;have z':(g.objs.size:Nat)=s.heap.objs.size+4:=z;omega
 have X:(Value.type "zip" == Value.type "list")=false:=by decide
 have W:(Value.type "zip" == Value.type "tuple")=false:=by decide
 simp only[q1,X,W,Up,NC,if_false];refine bB (Tc (s:={s with heap:=g2}) (m _ _ hz) ?_);refine bB (MZ ?_);unfold RS;refine bB (PU u zp ?_);show u4 _ A.in1.in1 (specialOf (Value.ref (s.heap.objs.size+4)) (MI "__length_hint__")>>=_) _ _ _;refine bB (PU u xT ?_);refine lj ?_
 show u4 _ A.in1.in1 (rule "list.extend.makes-room">>=λ_=>Px.List.listTouch (.ref g.objs.size)>>=λ_ =>
  again (.builtin "list.extend.loop" #[[.ref g.objs.size,.ref (s.heap.objs.size+4),.none],[]])) _ _ _
 refine bB (P7 ?_);refine bB ?_;show u4 _ A.in1.in1 (S4 g.objs.size (·.push .none)>>=λ_=>S4 g.objs.size (·.pop)) _ _ _;refine bB (PX j rfl ?_);have l:=Nc (Nn (·.push Value.none)) j rfl;refine PX (hz:=by seq_fits) l rfl ?_;have d:=Nc (Nn (·.pop)) l rfl
 have y:∀b o,b≠g.objs.size->g2.get? b=some o->((g2.update g.objs.size (Nn (·.push Value.none))).update g.objs.size (Nn (·.pop))).get? b=some o :=
  λb o q e=>(M9 _ _ (NW q)).trans ((M9 _ _ (NW q)).trans e)
 have all:∀b o,g.get? b=some o->((g2.update g.objs.size (Nn (·.push Value.none))).update g.objs.size (Nn (·.pop))).get? b=some o:=λb o e=>y b o (MQ (ri e)) (m b o e);generalize hg3:(g2.update g.objs.size (Nn (·.push Value.none))).update g.objs.size (Nn (·.pop))=g3 at d all|-
 have O:s.heap.objs.size+6<=g3.objs.size:=by
  have h5:(g.objs.size:Nat)<g3.objs.size:=ri d;have h6:(g.objs.size:Nat)=s.heap.objs.size+5:=C;omega
 refine lj #[Qx Ou _,BE (n:=n) (s:=s) (lo:=s.heap.objs.size+6) (h₁:=g3) (A:=A.in1) hh D () () N M G hn .none (λh' tk acc c as hq I R hG H=>?_) n 0 g3 s.toks _ #[] [] () (MP _)
  #[all _ _ T,h1.at λo e=>all _ o e,h2.at λo e=>all _ o e,t.at λo e=>all _ o (P _ o e),r.at λo e=>all _ o (P _ o e),.inl #[rfl,all _ _ hz,_,_,all _ _ S]] (λ_ _ _ _ _ _ _ e=>e) O d rfl rfl #[List.Pairwise.nil,(λ_ z=>nomatch z),λ_ _ z=>by simp at z]]
 have U:g.objs.size=s.heap.objs.size+5:=C;refine#[rfl,?_];rw[U]at I |-;refine hQ h' tk acc c as (λb o e=>?_) I R hG H;have q:∀k,b≠s.heap.objs.size+k:=λk=>MQ (zo (ri e) (Ol _ k));exact hq b o (by rw[U];exact q 5) (q 4) (q 3) (q 0) (q 1) (all b o (P b o e))
def oi(K:bA)(b:Bool)(H:Hp)(p:Addr)(xs:List V):Prop:=match b with|false=>bu K H p xs|true=>bQ K H p xs
theorem jU (I:Inv X g q H s)(h:oi X.K c H p xs):∃d:List cB,Vals xs d/\nC c s.heap p d.toArray/\xs.length<=mC:=by
 cases c with
 |false =>
  have(d,j,l,m):=I.list h;exact#[d,j,l.isList,m]
 |true =>
  have(d,j,l,m):=I.tuple h;exact#[d,j,(show Heap.IsTuple _ _ _ by have(o,e,r):=l;exact#[o,e,r]),m]
def K5(K:bA)(t:TA):TE:=λo H Q=>t o H λr d=>∃v u p q j g,r=[.ref p,.ref q]/\oi K v d p j/\oi K u d q g /\
 ∀(l:Addr) (m:List Addr) (e:Hp),HM j g m d e->d l=none->e l=some (.lst (m.map V.ref))->Q (.ref l) e
theorem yl (hc:X.calm=true)(D:Gl X "list")(B:X.mg "list"=none)(C:Gl X "zip")(A:X.mg "zip"=none)(ha:PA X [a,b] t)(he:M3 [a,b] X.env=(false,eval a X.env)::M3 [b] X.env:=by rfl)(hpl:(Qo p2 (M3 [b] X.env)).any (·.1)=false:=by rfl)(he2:M3 [.Call (.Name "zip" p1) [a,b] [] p2] X.env=[(false,eval (.Call (.Name "zip" p1) [a,b] [] p2) X.env)]:=by rfl):
  PE X (.Call (.Name "list" p3) [.Call (.Name "zip" p1) [a,b] [] p2] [] p4) (K5 X.K t):=by
 intro d s J H Q I h;refine Nf (lQ I D B O6 ?_ (by decide) (by decide));refine Nl ?_ he2 rfl;rw[he2];refine PL ?_;refine Nf (lQ I C A boot_zip ?_ (by decide) (by decide));refine Nl ?_ he hpl;refine dw (ha p2 d s J H _ I h) λus L ⟨vs,H1,m,r,q1⟩=>?_;have(c1,c2,p,q,xs,ys,rfl,U,T,W):=q1;have(u,w',rfl,r,r2):=vals2 r
 cases r
 cases r2
 have(z,M,R,hz):=jU m U;have(y,e,P,S):=jU m T;have e1:=M.length;have e2:=e.length;refine dw (tI (n:=min xs.length ys.length) (Q:=EP X d J Q) (E:=X.xe) (m.ok.hd hc) R P (by simp only[sE];omega) (by simp only[sE];omega) (by have:=E7 (xs:=z) (ys:=y);rw[<-e1,<-e2]at this;simpa using this) () λh' tk aa ce l hk hS g N j=>?_) λv s2 h2=>QN (by simpa using h2);have G:L.heap.objs.size+5∉l:=λZ=>by have:=N.low _ Z;omega
 have(I2,O,Y):=E8 (tk:=tk) (o:=.lst (l.map V.ref)) m M e (Ol _ 6) hk g N (Ol _ 5) G
  (show dO X.prog X.w _ _ _ (.lst _)from#[by rw[bC,g];omega,l.map Value.ref,ce,uV l,by rw[<-j];simpa using hS])
 exact#[.ref (L.heap.objs.size+5),_,I2,rfl,W _ l _ O Y af]
theorem Inv.AN {j:List Addr}(I:Inv X pins σ H s)(l:∀b∈j,qZ X pins H b)(k:∀b o,b∉j->s.heap.get? b=some o->h'.get? b=some o):Inv X pins σ H {s with heap:=h',toks:=t'}:=by
 have g:∀b u,H b=some u->b∉j:=λb u e z=>by rw[(l b z).1]at e;cases e
 have y:X.env.locals∉j:=λz=>(l _ z).2.1 rfl
 refine I.step (g':=s.gens) (d':=s.drawn) (ch:=j) (λb w=>?_) (λb o _ _ d e _=>k b o d e) (λb o _ _ d e _=>#[o.slots,k b o d e]) (λ_ _ _ _ n=>n)
  (λb o d e=>#[o,k b o d e]) (λ_ _ e=>e) (λ_ _ _ e=>e) (λb J e=>#[#[],by rw[e];simp]) (λm t=>?_) (λb u e=>?_) I.bare
 .have(_,D,_,C,B,A):=l b w;exact#[C,D,B,A]
 .have(o,E,G,p,r):=t;exact#[o,E,G,k _ o y p,r]
 .refine(I.hok b u e).stay (λc v d q=>k c v ?_ q) (λ_ q=>q) λ_ _ q=>q;rcases d with z|z
  .rw[z];exact g b u e
  .exact g c _ z
theorem Inv.AO {l:List Addr}(I:Inv X pins σ H s)(t:∀b∈l,qZ X pins H b)(k:∀b o,b∉l->s.heap.get? b=some o->h'.get? b=some o)(y:s.heap.objs.size<=a)(new:dO X.prog X.w (upd H a o) h' a o):
  Inv X pins σ (upd H a o) {s with heap:=h',toks:=t'}:=by
 have j:∀b u,H b=some u->b∉l:=λb u e z=>by rw[(t b z).1]at e;cases e
 have D:X.env.locals∉l:=λz=>(t _ z).2.1 rfl;have B:H a=none:=I.hok.fresh y;have g:∀b u,H b=some u->upd H a o b=some u:=λb u e=>by rw[ay (au e B)];exact e
 refine I.step (g':=s.gens) (d':=s.drawn) (ch:=l) (λb p=>?_) (λb o _ _ d e _=>k b o d e) (λb o _ _ d e _=>#[o.slots,k b o d e]) (λb P _ e n=>?_)
  (λb o d e=>#[o,k b o d e]) (λb _ e=>g b _ e) (λb _ _ e=>g b _ e) (λb O e=>#[#[],by rw[g b _ e];simp]) (λm C=>?_) (λb u e=>?_) I.bare
 .have(_,L,_,J,G,E):=t b p;exact#[J,L,G,E]
 .rw[ay (MQ (zo (ri e) y))];exact n
 .have(o,M,N,A,r):=C;exact#[o,M,N,k _ o D A,r]
 .by_cases p:b=a
  .subst p;rw[af]at e;cases e;exact new
  .rw[ay p]at e;refine(I.hok b u e).stay (λc v d q=>k c v ?_ q) (λc q=>g c _ q) λc _ q=>g c _ q;rcases d with z|z
   .rw[z];exact j b u e
   .exact j c _ z
noncomputable def IX (K : bA) (j : Bool) (l1 : Addr) (g : Bool) (l2 : Addr) : It :=
  #[λi H => ∃ e d x y, oi K j H l1 e ∧ oi K g H l2 d ∧ e[i]? = some x ∧ d[i]? = some y,
   λi H v l => ∃ p x y, H p = none ∧ v = .ref p ∧ l = upd H p (.tup [x, y]) ∧ (∀ e, oi K j H l1 e -> e[i]? = some x) ∧ ∀ d, oi K g H l2 d -> d[i]? = some y,
   λi H => ∃ e d, oi K j H l1 e ∧ oi K g H l2 d ∧ (e.length ≤ i ∨ d.length ≤ i)]
theorem oi.inj (I:Inv X d g H s)(h:oi X.K b H a xs)(e:oi X.K b H a ys):xs=ys:=by
 cases b with
 |false=>exact I.xg h e
 |true=>exact I.qz h e
theorem Dl {K:bA}(z TI TO M L l1 l2:Addr)(D:Ro z TI TO M L l1 l2):Turn P w K (.Tuple S x1 aa) (IX K b1 l1 b2 l2) [z,TI,TO,M,L] z
  (λi h=>S3 h z TI TO .none/\OB h TI (.ref M) (.ref L)/\(∃a b,OB h TO a b)/\lN b1 h M l1 i/\lN b2 h L l2 i) where
 mem:=by simp
 obj:=λi h r b j=>by
  have(B,g,(a,c,m),G,C):=r
  have Q:∀{b:Bool}{i l:Addr}{k:Nat},lN b h i l k->∃o,h.get? i=some o/\∀v,o.data≠.cell v:=λ{b i l k} q=>by
   cases b with
   |false=>have(o,e,_,d):=(show h.IsListIter i l k from q);exact#[o,e,λv z=>by rw[d]at z;cases z]
   |true=>have(o,e,_,d):=(show h.IsTupleIter i l k from q);exact#[o,e,λv z=>by rw[d]at z;cases z]
  simp only[vy,MK,or_false]at j;rcases j with rfl|rfl|rfl|rfl|rfl
  .exact#[_,B,λv z=>by cases z]
  .exact#[_,g,λv z=>by cases z]
  .exact#[_,m,λv z=>by cases z]
  .exact Q G
  .exact Q C
 keep:=λi h h' r k=>by
  have(B,g,(a,c,m),G,C):=r;exact#[k z (by simp) _ B,k TI (by simp) _ g,#[a,c,k TO (by simp) _ m],G.at λo e=>k M (by simp) o e,C.at λo e=>k L (by simp) o e]
 item:=by
  intro X hP hw hK hc i O s σ H E I V r hg;subst hP hw hK;have(xs,ys,x,y,A,t,hx,hy):=hg;have(B,g,(a,c,m),G,C):=r;have(ac,Z,p1,_):=jU I A;have(ab,J,p2,_):=jU I t;have(u,hu,ru):=Z.get hx;have(v,hv,Y):=J.get hy;refine AM D B g m G C p1 p2 (x:=u) (y:=v) (by simpa using hu) (by simpa using hv) λh' a1 a2 a3 a4 a5 a6 U=>?_;refine#[.ref s.heap.objs.size,rfl,wpAny_letOwnedTupleGo_zip (s:={s with heap:=h'}) a1 λR ad p=>?_]
  have np:∀b∈[z,TI,TO,M,L],b≠s.heap.objs.size:=λb j e=>by
   obtain⟨o,e2⟩:∃o,s.heap.get? b=some o:=by
    simp only[vy,MK,or_false]at j;rcases j with rfl|rfl|rfl|rfl|rfl
    .exact#[_,B]
    .exact#[_,g]
    .exact#[_,m]
    .exact G.got
    .exact C.got
   have:=ri e2;rw[e]at this;exact Np _ this
  have kk:∀b o,b∉[z,TI,TO,M,L]->s.heap.get? b=some o->R.get? b=some o:=λb o j e=>by
   simp only[vy,MK,or_false,not_or]at j;have(n1,n2,n3,n4,n5):=j;exact p.extBut _ _ n1 (U b o n1 n3 n4 n5 e)
  have T:OB R s.heap.objs.size u v:=p.extBut _ _ (np z (by simp)).symm a5
  refine#[.ref s.heap.objs.size,upd H s.heap.objs.size (.tup [x,y]),I.AO (t':=s.toks) V kk (mu _) #[(by show 2<=mC;decide),_,.cons ru (.cons Y .nil),#[_,T,rfl,_,rfl],_,T,rfl],rfl,
   #[_,x,y,I.hok.fresh (mu _),rfl,rfl,λzs N=>by rw[oi.inj I N A];exact hx,λzs N=>by rw[oi.inj I N t];exact hy],?_,λb j=>?_]
  .exact#[ad,p.extBut _ _ D.TIz (U TI _ D.TIz D.TITO D.TIi1 D.TIi2 g),#[u,v,p.extBut _ _ D.TOz a2],a3.extBut p.extBut D.i1z,a4.extBut p.extBut D.i2z]
  .rw[ay (np b j)];exact(V b j).1
 done:=by
  intro X hP hw hK hc i O s σ H E I V r hg;subst hP hw hK;have(xs,ys,A,t,hl):=hg;have(B,g,(a,c,m),G,C):=r;have(ac,Z,p1,_):=jU I A;have(ab,J,p2,_):=jU I t;have e1:=Z.length;have e2:=J.length;refine Dk (I.ok.hd hc) D B g m G C p1 p2 ?_ λh' U=>#[rfl,I.AN (t':=s.toks) V λb o j e=>?_]
  .rcases hl with hl|hl
   .refine .inl ?_;simp;omega
   .refine .inr ?_;simp;omega
  .simp only[vy,MK,or_false,not_or]at j;exact U b o j.1 j.2.2.1 j.2.2.2.1 j.2.2.2.2 e
 self:=λ_ _ _ _ _ r h=>Tc r.1 h
def K6(K:bA)(t:TA):TI:=λj H R=>t j H λo d=>∃g e p q m l,o=[.ref p,.ref q]/\oi K g d p m/\oi K e d q l/\R (IX K g p e q) d
theorem Dm (K:bA)(hK:X.K=K)(Z:Gl X "zip")(hm:X.mg "zip"=none)(ha:PA X [a,b] t)(he:M3 [a,b] X.env=(false,eval a X.env)::M3 [b] X.env:=by rfl)(hpl:(Qo w (M3 [b] X.env)).any (·.1)=false:=by rfl):PI X (.Tuple m J v) (.Call (.Name "zip" M) [a,b] [] w) (K6 K t):=by
 subst hK;intro j s G H R I h;refine Nf (lQ I Z hm boot_zip ?_ (by decide) (by decide));refine Nl ?_ he hpl;refine dw (ha w j s G H _ I h) λus d ⟨vs,H1,o,r,q1⟩=>?_;have(c1,c2,p,q,xs,ys,rfl,T,S,V):=q1;have(u,w',rfl,r,r2):=vals2 r
 cases r
 cases r2
 have(Q,rv,B,_):=jU o T;have(P,L,A,_):=jU o S;have O:@LT.lt Nat _ p d.heap.objs.size:=by have(_,e):=B.got;exact ri e
 have N:@LT.lt Nat _ q d.heap.objs.size:=by have(_,e):=A.got;exact ri e
 refine AL B A λg C z y h1 h2 U Y=>?_
 have D:Ro (d.heap.objs.size+4) (d.heap.objs.size+2) (d.heap.objs.size+3) d.heap.objs.size (d.heap.objs.size+1) p q:=by
  refine#[?_,?_,?_,?_,?_,?_,?_,?_,?_,?_,?_,?_,?_,?_,?_,?_,?_,?_]<;>(show @Ne Nat _ _;omega)
 refine Tc (s:={d with heap:=g}) C ?_;refine#[d.heap.objs.size+4,[d.heap.objs.size+4,d.heap.objs.size+2,d.heap.objs.size+3,d.heap.objs.size,d.heap.objs.size+1],_,_,H1,rfl,o.kept (t':=d.toks) Y,Dl _ _ _ _ _ p q D,#[C,z,#[_,_,y],h1,h2],λb E=>?_,V]
 have l:d.heap.objs.size<=b:=by
  simp only[vy,MK,or_false]at E;rcases E with rfl|rfl|rfl|rfl|rfl
  .exact Ol _ 4
  .exact Ol _ 2
  .exact Ol _ 3
  .exact mu _
  .exact Ol _ 1
 exact o.Ct l (o.hok.fresh l)
theorem Ff {K:bA}{g:TG}{A:TS}{D:Ends}(j:Nat->St->Hp->Prop)(P:j 0 d H)(w:∀i d H,i<=min xs.length ys.length->j i d H->oi K r H a xs)(v:∀i d H,i<=min xs.length ys.length->j i d H->oi K q H b ys)(hs:∀i x y d H p,xs[i]?=some x->ys[i]?=some y->j i d H->H p=none->g (.ref p) d (upd H p (.tup [x,y])) λl z=>A {D with nx:=j (i+1),ct:=j (i+1),bk:=D.nx} l z)(hd:∀d H,j (min xs.length ys.length) d H->D.nx d H):
  ∃W:Nat->Nat->St->Hp->Prop,(∃m,W 0 m d H)/\∀i m d H,W i m d H ->
   ((IX K r a q b).stop i H/\D.nx d H)\/((IX K r a q b).go i H/\∃N:St->Hp->Prop,(∀σ' o,N σ' o->∃B,B < m/\W (i+1) B σ' o)/\∀x o,(IX K r a q b).yld i H x o->g x d o λl z=>A {D with nx:=N,ct:=N,bk:=D.nx} l z):=by
 generalize hn:min xs.length ys.length=n at *;refine#[λi m d H=>m=n-i/\i<=n/\j i d H,#[n,by simp,MP _,P],?_];rintro i m d H ⟨rfl,C,p⟩;have q1:=w i d H C p;have t:=v i d H C p
 by_cases u:i<n
 .have M:i<xs.length:=()
  have L:i<ys.length:=()
  refine .inr #[#[xs,ys,xs[i],ys[i],q1,t,by simp[M],by simp[L]],j (i+1),λσ' o J=>#[n - (i+1),(),rfl,u,J],λx o y=>?_];have(I,G,E,O,rfl,rfl,R,Q):=y;exact hs i G E d H I (R xs q1) (Q ys t) p O
 .have e:i=n:=()
  subst e;exact .inl #[#[xs,ys,q1,t,()],hd d H p]
theorem Dn {K:bA}(l:Nat->St->List V->Hp->Prop)(D:l 0 σ0 [] H0)(m:∀i e d H,i<=min xs.length ys.length->l i e d H->d.length<=i)(hn:min xs.length ys.length<=mC)(hl1:∀i e d H,i<=min xs.length ys.length->l i e d H->oi K r H a xs)(hl2:∀i e d H,i<=min xs.length ys.length->l i e d H->oi K q H b ys)(hs:∀i x y e d H p,xs[i]?=some x->ys[i]?=some y->l i e d H->H p=none->g (.ref p) e (upd H p (.tup [x,y])) λj J=>tt j J λok t=>if ok=true then te j t λv I=>l (i+1) j (d++[v]) I else l (i+1) j d t)(hd:∀e d H,l (min xs.length ys.length) e d H->∀p,H p=none->Q (.ref p) (upd H p (.lst d))):j7 (IX K r a q b) g tt te Q σ0 H0:=by
 refine rL (min xs.length ys.length) l D m hn (λi e d H o p=>?_) (λe d H p=>#[xs,ys,hl1 _ e d H (mu _) p,hl2 _ e d H (mu _) p,()]) (λi e d H x L o p y=>?_) hd
 .have B:i<xs.length:=()
  have A:i<ys.length:=()
  exact#[xs,ys,xs[i],ys[i],hl1 i e d H (Ny o) p,hl2 i e d H (Ny o) p,by simp[B],by simp[A]]
 .have(z,w,u,C,rfl,rfl,G,E):=y;exact hs i w u e d H z (G xs (hl1 i e d H (Ny o) p)) (E ys (hl2 i e d H (Ny o) p)) p C
end L2
namespace HT
open PySem PyProof.Rows
section
open PySem.SeqAt
open PySem.AutoSeq1 (wpAny_loadPart')
open PySem.MeetsSeq PySem.MeetsSeq2 PySem.MeetsSeq3
theorem oj {lo:Option Int}(ht:IsTup s.heap t items)(hs:s.heap.IsSliceOf d m l .none)(p:RB m lo)(o:RB l hi)(h0:iB items.size 0 lo=0)(h1:iB items.size items.size hi=items.size)(h:Q (.ref t) s):u4 (L0 prog w) A (RO (.ref t) (.ref d)) Q E s:=by
 have(q,e,g,r):=id hs;have j:s.TypeIs (.ref d) "slice":=#[q,e,g];unfold RO
 try with_reducible refine MZ ?_
 first|refine bB (lj ?_)|skip
 refine bB (Sw ht.typeIs (by decide) ?_)
 refine bB (Nb (name:=MI "__getitem__") ht.typeIs ND
  (NT ND ht.typeIs entry_tuple_getitem ?_ (args_tuple_getitem _ _)))
 show u4 _ _ (R6 (.ref t)>>=_) _ _ s;refine bB (tupleItemsOf_ ht ?_);refine bB (Of j ?_);rw[if_pos (by decide)];refine bB (kK hs p o ?_);rw[h0,h1];show u4 _ _ (if(((0:Nat):Int) == 0&&(1:Int) == 1&&(items.size-0) == items.size)=true then _ else _) _ _ s;rw[if_pos (by simp)];show u4 _ _ ((typeOf (.ref t)>>=_)>>=_) _ _ s;refine bB (bB (Of ht.typeIs (lj ?_)));show u4 _ _ (if(_:Bool)=true then _ else _) _ _ s;rw[if_pos (by decide)];refine bB (P7 ?_);exact lj #[_,rfl,lj h]
end
end HT
namespace L2
open PySem PySem.Spec PyProof.Rows
def HV(K:bA):V->Option Int->Option Int->Hp->VK->Prop:=λx lo hi H Q=>∃a g,x=.ref a/\bQ K H a g/\∀p d,aF H d->bQ K d p (iW g lo hi)->Q (.ref p) d
theorem kh :IV X (HV X.K):=by
 intro j s B H x v D C lo hi E Q I t A y w h;have(a,d,rfl,o,q):=h
 by_cases l:HT.iB d.length 0 lo=0/\HT.iB d.length d.length hi=d.length
 .cases t
  have(m,r,z,J):=I.tuple o;have g:m.toArray.size=d.length:=by rw[sE];exact r.length.symm
  refine#["tuple",_,ND.lookup,z.typeIs,?_];refine HT.oj z A y w (by rw[g];exact l.1) (by rw[g];exact l.2) #[.ref a,H,I,rfl,q a H (λ_ _ e=>e) ?_]
  have:iW d lo hi=d:=by
   unfold iW;rw[l.1,l.2,List.drop_zero,Nat.sub_zero,MS]
  rw[this];exact o
 .exact CF j s B H (.ref a) v D C lo hi E Q I t A y w #[a,d,rfl,o,l,λp G=>q p _ (λb u q=>by rw[ay (au q G)];exact q) (bQ.of af)]
end L2
namespace L2
open PySem
structure bS(M:List Addr) (f:Addr) (H H':Hp):Prop where
 oth:∀b o,b∉M->b≠f->H b=some o->H' b=some o
 kt:Kt H H'
 ff:cg H' f
theorem bS.refl (d:cg H f):bS M f H H:=#[λ_ _ _ _ e=>e,Kt.refl,d]
theorem bS.ext (a:bS M f H H1)(e:Ext f H1 H2):bS M f H H2:=#[λb o g d h=>e.1 b o d (a.oth b o g d h),a.kt.trans (e.kt a.ff),e.2]
theorem bS.same (a:bS M f H H1)(e:aF H1 H2):bS M f H H2:=#[λb o g d h=>e b o (a.oth b o g d h),a.kt.trans (Kt.same e),let⟨p,q,h⟩:=a.ff;#[p,q,e _ _ h]]
theorem bS.trans (a:bS M f H H1)(b:bS M f H1 H2):bS M f H H2:=#[λc o e d h=>b.oth c o e d (a.oth c o e d h),a.kt.trans b.kt,b.ff]
theorem bS.upd {M:List Addr}{f:Addr}{H H1:Hp}{l:Addr}{us:List V}{o:HO}(a:bS M f H H1)(hm:l∈M)(n:l≠f)(h:H1 l=some (.lst us)):bS M f H (upd H1 l o):=#[λb g d j e=>by have z:b≠l:=(λz=>d (by rw[z];exact hm));rw[ay z];exact a.oth b g d j e,a.kt.trans (Kt.lst h o),let⟨p,q,e⟩:=a.ff;#[p,q,by rw[ay n.symm];exact e]]
theorem bS.um (a:bS M f H H1)(hm:l∈M)(n:l≠f)(h:H1 l=some (.dK us)):bS M f H (L2.upd H1 l o):=#[λb g d j e=>by have z:b≠l:=(λz=>d (by rw[z];exact hm));rw[ay z];exact a.oth b g d j e,a.kt.trans (Kt.upd h (λ_ z=>nomatch z) (λ_ _ z=>nomatch z) o),let⟨p,q,e⟩:=a.ff;#[p,q,by rw[ay n.symm];exact e]]
theorem bS.BF (a:bS M f H H1)(hn:H l=none)(n:l≠f)(h:H1 l=some (.lst us)):bS M f H (L2.upd H1 l o):=#[λb d j g e=>by rw[ay (au e hn)];exact a.oth b d j g e,a.kt.trans (Kt.lst h o),let⟨p,q,e⟩:=a.ff;#[p,q,by rw[ay n.symm];exact e]]
theorem bS.drop (a:bS (l::M) f H H1)(hn:H l=none):bS M f H H1:=#[λb o e d h=>a.oth b o (λz=>(vy.mp z).elim (λz=>by subst z;rw[hn]at h;cases h) e) d h,a.kt,a.ff]
theorem bS.more (a:bS M f H H1):bS (l::M) f H H1:=#[λb o e d h=>a.oth b o (λz=>e (.tail _ z)) d h,a.kt,a.ff]
theorem bS.sub (a:bS M f H H1)(h:∀z∈M,z∈d):bS d f H H1:=#[λb o j g e=>a.oth b o (λz=>j (h b z)) g e,a.kt,a.ff]
theorem bS.ex (a:bS [] f H H1):Ext f H H1:=#[λb o n h=>a.oth b o nofun n h,a.ff]
theorem Ext.uo (d:cg H f)(e:Ext f H H1):bS M f H H1:=(bS.refl d).ext e
theorem bS.tJ (a:bS [] f H H1)(n:b≠f)(h:H b=some o):H1 b=some o:=a.oth b o nofun n h
theorem bS.gu (a:bS [l] f H H1)(d:b≠l)(n:b≠f)(h:H b=some o):H1 b=some o:=a.oth b o (λz=>d (pD.mp z)) n h
theorem bS.fq (a:bS [l,m] f H H1)(d:b≠l)(n2:b≠m)(n:b≠f)(h:H b=some o):H1 b=some o:=a.oth b o (λz=>(vy.mp z).elim d λz=>n2 (pD.mp z)) n h
theorem bS.free (a:bS M f H H1)(d:H1 p=none)(hm:p∉M):H p=none:=by
 cases e:H p with
 |none=>rfl
 |some o =>
  by_cases c:p=f
  .subst c;have(x,y,z):=a.ff;rw[z]at d;cases d
  .rw[a.oth p o hm c e]at d;cases d
theorem BG (d:cg H f)(h:H l=none):l≠f:=λz=>by
 have(p,q,e):=d;rw[<-z,h]at e
 cases e
theorem fY (xs:List V)(n:Nat):iW xs none (some (n:Int))=xs.take n:=by
 unfold iW;rw[HT.pN,HT.xr,List.drop_zero,Nat.sub_zero];rcases UP n xs.length with h|h
 .rw[Pb h]
 .rw[SX h,Na (mu _),Na h]
theorem qG (xs:List V)(j:Nat):iW xs (some (j:Int)) none=xs.drop j:=by
 unfold iW;rw[HT.pN,HT.xr];rcases UP j xs.length with h|h
 .rw[Pb h,Na (by rw[Oj];omega)]
 .rw[SX h,Tr h,Tr (mu _)];simp
theorem qf (xs:List V)(a b:Nat)(h:b<=xs.length)(d:a<=b):iW xs (some (a:Int)) (some (b:Int))=(xs.drop a).take (b-a):=by
 unfold iW;rw[HT.pN,HT.pN,Pb h,Pb ()]
end L2
namespace G34
open PySem L2
noncomputable def stp:List T->List Nat->List T->List T
 |L,p::ps,k::ks=>stp (L.set p k) ps ks
 |L,_,_=>L
theorem AQ :∀(L:List T) (ps:List Nat) (ks:List T),(stp L ps ks).length=L.length
 |L,[],_=>by rw[stp];exact λ_ _ _ _ h=>nomatch h
 |L,_::_,[]=>by rw[stp];exact λ_ _ _ _ _ h=>nomatch h
 |L,p::ps,k::ks=>by rw[stp,AQ,List.length_set]
theorem ym :∀{L:List T}{ps:List Nat}{ks:List T}{p:Nat}{k:T},ps.length=ks.length->stp L (ps++[p]) (ks++[k])=(stp L ps ks).set p k
 |L,[],[],p,k,_=>by rw[PR,PR,stp,stp,stp]<;>exact λ_ _ _ _ h=>nomatch h
 |L,q::ps,j::ks,p,k,h=>by rw[Qi,Qi,stp,stp,ym (Vp h)]
theorem AS (r:Rp K H t u):∀{ts:List T}{us:List V}{j:Nat},bN K H ts us->bN K H (ts.set j t) (us.set j u)
 | [],_,j,h=>by obtain rfl:=h.iE;exact .nil
 |t1::ts,_,0,h=>by have(v,q,rfl,_,d):=h.inv;exact .cons r d
 |t1::ts,_,j+1,h=>by have(v,q,rfl,e,d):=h.inv;exact .cons e (AS r d)
theorem Fg (h:j<n):Ak n (j:Int)=some j:=by
 unfold Ak;rw[if_pos (),if_pos (),NY]
theorem fZ {d:Type}{xs:List d}{x:d}(h:xs[i]?=some x):xs.take (i+1)=xs.take i++[x]:=by
 rw[EF (ko.mp h).1,(ko.mp h).2]
theorem Dq (xs:List V)(j:Nat)(d:j<xs.length):¬(HT.iB xs.length 0 none=0/\HT.iB xs.length xs.length (some (j:Int))=xs.length):=λz=>by
 have:=z.2;rw[HT.pN]at this;omega
theorem HW {i:Nat}(h:(NB nj arms ts)[i]?=some t):∃x k,arms[i]?=some x/\t=nj x k:=by
 rw[TH]at h
 cases e1:arms[i]? with
 |none=>rw[e1]at h;cases h
 |some x =>
  cases e2:ts[i]? with
  |none=>rw[e1,e2]at h;cases h
  |some k=>rw[e1,e2]at h;exact#[x,k,rfl,(Nd h).symm]
theorem Dr (h:arms.length=ks.length):NB nj (arms++[a]) (ks++[k])=NB nj arms ks++[nj a k]:=by
 rw[List.zipWith_append h];rfl
def HX(hd:Hd)(ks ks2:List Tm):Prop:=∃(e:Str) (r:List T) (d:List Nat) (n:Nat),(e,d)∈placesOf/\oS hd (ks.map enc)=.t (.s e::r)/\d.length=ks2.length/\r.length=n/\(∀p∈d,p<n+1)/\n<=5/\oS hd (ks2.map enc)=.t (stp (.s e::r) d (ks2.map enc))
def JI(hd:Hd)(ks ks2:List Tm):Prop:=∃(d:Str) (r:List T) (j:Nat),(d,j)∈([("row",1),("tag",2),("call",2)]:List (Str×Nat))/\oS hd (ks.map enc)=.t (.s d::r)/\r.length=j/\oS hd (ks2.map enc)=.t ((T.s d::r).take j++[.t (ks2.map enc)])
theorem Ds (j : fg hd ks.length = true)(g : ks2.length = ks.length): HX hd ks ks2 ∨ JI hd ks ks2 ∨ (∃ arms, hd = .mat arms) ∨ (∃ x, hd = .lt x) ∨ ∃ x y, hd = .fold x y := by
  cases hd
  case num n => obtain rfl : ks = [] := by simpa [fg] using j
                obtain rfl := NH.mp g;exact .inl #["num", [.i n], [], 1, by decide, rfl, rfl, rfl, by decide, by decide, rfl]
  case name x => obtain rfl : ks = [] := by simpa [fg] using j
                 obtain rfl := NH.mp g;exact .inl #["name", [.s x], [], 1, by decide, rfl, rfl, rfl, by decide, by decide, rfl]
  case gap n => obtain rfl : ks = [] := by simpa [fg] using j
                obtain rfl := NH.mp g;exact .inl #["gap", [.i n], [], 1, by decide, rfl, rfl, rfl, by decide, by decide, rfl]
  case op s => have(a, b, rfl) := l2 (show ks.length = 2 by simpa [fg] using j)
               have(c, d, rfl) := l2 g;exact .inl #["op", [.s s, enc a, enc b], [2, 3], 3, by decide, rfl, rfl, rfl, by decide, by decide, rfl]
  case more => have(a, b, rfl) := l2 (show ks.length = 2 by simpa [fg] using j)
               have(c, d, rfl) := l2 g;exact .inl #["more", [enc a, enc b], [1, 2], 2, by decide, rfl, rfl, rfl, by decide, by decide, rfl]
  case first => have(a, rfl) := l1 (show ks.length = 1 by simpa [fg] using j)
                have(c, rfl) := l1 g;exact .inl #["first", [enc a], [1], 1, by decide, rfl, rfl, rfl, by decide, by decide, rfl]
  case others => have(a, rfl) := l1 (show ks.length = 1 by simpa [fg] using j)
                 have(c, rfl) := l1 g;exact .inl #["others", [enc a], [1], 1, by decide, rfl, rfl, rfl, by decide, by decide, rfl]
  case long => have(a, rfl) := l1 (show ks.length = 1 by simpa [fg] using j)
               have(c, rfl) := l1 g;exact .inl #["long", [enc a], [1], 1, by decide, rfl, rfl, rfl, by decide, by decide, rfl]
  case ife => have(a, b, c, rfl) := l3 (show ks.length = 3 by simpa [fg] using j)
              have(d, e, f, rfl) := l3 g;exact .inl #["if", [enc a, enc b, enc c], [1, 2, 3], 3, by decide, rfl, rfl, rfl, by decide, by decide, rfl]
  case row => exact .inr (.inl #["row", [.t (ks.map enc)], 1, by decide, rfl, rfl, rfl])
  case tag t => exact .inr (.inl #["tag", [.s t, .t (ks.map enc)], 2, by decide, rfl, rfl, rfl])
  case call t => exact .inr (.inl #["call", [.s t, .t (ks.map enc)], 2, by decide, rfl, rfl, rfl])
  case mat arms => exact .inr (.inr (.inl #[_, rfl]))
  case lt x => exact .inr (.inr (.inr (.inl #[_, rfl])))
  case fold x y => exact .inr (.inr (.inr (.inr #[_, _, rfl])))
def zI(K:bA):Sp:=λm H Q _=>∃(v:V) (l:Addr) (hd:Hd) (ks d:List Tm) (j:List V),m=[v,.ref l]/\Rp K H (enc (.mk hd ks)) v/\fg hd ks.length=true/\H l=some (.lst j)/\bN K H (d.map enc) j/\d.length=ks.length/\ks.length<=900 /\
 ∀g e,aF H e->Rp K e (enc (.mk hd d)) g->Q g e
theorem aD :Nm V5 (ak fV):=by decide
theorem gz :Lm V5 (ak fV):=by decide
theorem eV :aK V5 WZ (ak fV):=#[rfl,rfl,rfl,by decide,rfl,by decide,by decide]
theorem Fi (F:ic K "with_inner" "with_inner" fV f fd)(TB:HK K w mg dP dM pl)(I:mg "zip"=none)(g:mg "tuple"=none)(S:mg "list"=none):bH P w K mg base eZ 1 f fd WZ (zI K):=by
 refine F.ok eV (λJ H Q E h=>?_) (λbt A a7 s H J Q E hr h=>?_)
 .have(_,_,_,_,_,_,rfl,_):=h;rfl
 have(v,l,hd,ks,ks2,L,rfl,hv,ar,hl,rs,hk,hz,k):=h;refine#[_,(Z5 (Z2 eV.nd gz 2 (Z9 aZ (va aD 0))) (Z5 (Zd (Zq bR (va aD 2) aB) (Z5 (Zf (ak fV) V5 V2 [] (Dm K rfl (by left) I (Z1 (Z9 aZ (va aD 0)) (Z1 (bZ iC (va aD 1) (bL aq) cW) ao))) (λ_ _ _ _=>(Zb (Zi (@iS _ _ _ _ _ (3) K rfl rfl (Zi (Z3 (i:=1) (show(V2:List Str).Nodup by decide)) (Zi (Z3 (i:=2) (show(V2:List Str).Nodup by decide)) (aJ (Z3 (i:=3) (show(V2:List Str).Nodup by decide)) aX))) (by rfl) (by rfl)) (aJ (Z3 (i:=0) (show(V2:List Str).Nodup by decide)) aX)))) (λ_ _ _ _=>eN) (λ_ _ _ _=>(Zg (Z1 (va (show Nm V2 _ by left) 1) (Z1 (va (show Nm V2 _ by left) 2) (Za (va (show Nm V2 _ by left) 0)))))) (ga eV.nd gz 3)) (Ze (Zo (Zg (Z1 aB (Z1 (Z9 aN (va aD 1)) (Z1 (Z6 aU g MJ (Za (va aD 3))) ao)))))))) (Z5 (Zd (Zq bR (va aD 2) aB) (Ze (Zo (Zg (Z1 aB (Z1 (Z9 aZ (va aD 0)) (Z1 (Z9 aN (va aD 1)) (Z1 (Z9 aN (va aD 1)) ao)))))))) (Z5 (Zd (Zq bR (va aD 2) aB) (Ze (Zo (Zg (Z1 aB (Z1 (Z9 aN (va aD 1)) (Z1 (Z9 aZ (va aD 0)) (Z1 (Z9 aZ (va aD 0)) (Z1 (Z9 aN (va aD 1)) (Z1 (Z9 aN (va aD 1)) ao)))))))))) (Z5 (Zd (fh Ax (va aD 2) (dh (v:=.ref dM) (by rfl) TB.mM rfl) (by with_unfolding_all rfl)) (Ze (Zo (Zm jQ (@bZ _ _ _ _ _ _ _ _ _ _ CF (va aD 0) cW (@bL _ _ _ (rM (dh (v:=.ref dM) (by rfl) TB.mM rfl) (va aD 2) (λ_ _=>rfl)))) (Zg (Z1 (Z6 aU g MJ (Za (va aD 1))) ao)))))) (Z5 (Z2 eV.nd gz 4 (Z6 jt S O6 (Za (va aD 0)))) (Z5 (Zk (Dm K rfl (by left) I (Z1 (rM (dh (v:=.ref dP) (by rfl) TB.mP rfl) (va aD 2) (λ_ _=>rfl)) (Za (va aD 1)))) (Zb (Zi (ga eV.nd gz 5) (aJ (ga eV.nd gz 6) aX))) (Ze (Zp (va aD 6) (vE (va aD 4) (va aD 5) set_list)))) (Ze (Zo (Z6 aU g MJ (Za (va aD 4)))))))))))),?_]
 right
 right
 have kM:=TB.kM;have kP:=TB.kP;refine yb ?_;intro N1 N2 N3 N4 N5 N6 N7 c1 c2 c3 c4 c5 c6 c7;rw[cY]at hv;have ah:=rs.length;rw[bC]at ah;rcases Ds (ks2:=ks2) ar hk with⟨fm,r,ps,n,hm,he,hpl,hrn,hlt,an,he2⟩|⟨fm,r,j,hm,he,hj,he2⟩|⟨arms,rfl⟩|⟨x,rfl⟩|⟨x,y,rfl⟩
 .rw[he]at hv;have(a,J,rfl,hS,u):=hv.bq;have(v0,D,rfl,e0,aa):=id u.inv;obtain rfl:=e0.bj;have(pa,lk,ap):=TB.at_ fm ps hm;have(n1,n2,n3,n4):=yd (fm,ps) hm;have bn:bu K H a (V.str fm::D)\/bQ K H a (V.str fm::D):=.inr hS;have lq:=u.length;ext
  .exact Bw _ _
  ext;refine oU (Bx n1) ?_;ext;refine oU (Bx n2) ?_;ext;refine oU (Bx n3) ?_;ext;refine oU n4 ?_;ext;intro U X;have B:=ae X (.lst (V.str fm::D));have Z:upd H U (.lst (V.str fm::D)) U=some (.lst (V.str fm::D)):=af;generalize upd H U (.lst (V.str fm::D))=H1 at B Z|-;have bi:oi K true H1 pa (ps.map λ(j:Nat)=>V.int (j:Int)):=ap H1;have bh:oi K false H1 l L:=bu.of (B _ _ hl);ext;refine Ff (K:=K) (xs:=ps.map λ(j:Nat)=>V.int (j:Int)) (ys:=L) (λi C d=>(∃o5 o6,C=[some (.ref a),some (.ref l),some (.str fm),none,some (.ref U),o5,o6])/\aF H d/\∃ws,d U=some (.lst ws)/\bN K d (stp (.s fm::r) (ps.take i) ((ks2.map enc).take i)) ws) #[#[_,_,rfl],B,_,Z,by rw[OH,OH,stp];exact u.same B;exact λ_ _ _ _ h=>nomatch h] ?_ ?_ ?_ ?_
  .exact λi C d _ _=>ap d
  .exact λi C d _ ⟨_,o,_⟩=>bu.of (o _ _ hl)
  .rintro i x y C d p hx hy ⟨⟨_,_,rfl⟩,o,ws,hw,M⟩ O;rw[rj]at hx;have(q,hq,rfl):=ur.mp hx;have(tk,W,rk):=rs.get' hy;have m:=ae O (.tup [V.int (q:Int),y]);have h3:upd d p (.tup [V.int (q:Int),y]) p=some (.tup [V.int (q:Int),y]):=af;generalize upd d p (.tup [V.int (q:Int),y])=H3 at m h3|-;have al:=m _ _ hw;have lw:=M.length;rw[AQ]at lw;have bs:Ak ws.length (q:Int)=some q:=Fg (by have:=hlt q (t9 hq);simp at lw;omega);ext
   .exact(o.trans m).tw X _
   ext;rw[fZ hq,fZ W,ym (by rw[we,we,bC,hpl])];exact AS ((rk.same (o.trans m)).kt (Kt.lst al _)) ((M.same m).kt (Kt.lst al _))
  .rintro C d ⟨⟨_,_,rfl⟩,o,ws,hw,M⟩;rw[bC,ah,hpl,To,<-hpl,MS,hpl,Na (by rw[bC];exact mu _)]at M;ext;exact .inl #[bu.of hw,λl2 av=>k _ _ (o.trans (ae av _)) (by rw[cY,he2];exact Rp.new (K:=K) av M)]
 .rw[he]at hv;have(a,J,rfl,hS,u):=hv.bq;have(v0,D,rfl,e0,aa):=id u.inv;obtain rfl:=e0.bj;have(n1,n2,n3,n4):=AA (fm,j) hm;have bm:Rn fm qF=some (.int (j:Int)):=n4;ext
  .exact Bw _ _
  ext;refine oU (Bx n1) ?_;ext;refine oU (Bx n2) ?_;ext;refine oU (Bx n3) ?_;ext;refine xX (by rw[n4];rfl) ?_;have lq:=u.length;have br:j<=2:=(show ∀p∈([("row",1),("tag",2),("call",2)]:List (Str×Nat)),p.2<=2 by decide) _ hm;ext
  .exact Dq _ j (by simp at lq|-;omega)
  intro U X;rw[fY];have B:=ae X (.tup ((V.str fm::D).take j));have Z:upd H U (.tup ((V.str fm::D).take j)) U=some (.tup ((V.str fm::D).take j)):=af;generalize upd H U (.tup ((V.str fm::D).take j))=H1 at B Z|-;have ab:=B _ _ hl;have a5:=(u.take j).same B;have a6:=rs.same B;ext;refine .inl #[bu.of ab,λp2 au=>?_];have o:=ae au (.tup L);have r2:=Rp.new (K:=K) au a6;generalize upd H1 p2 (.tup L)=d at o r2|-;ext;intro p3 bf;have m:=ae bf (.tup [.ref p2]);have bk:=bQ.of (K:=K) (m _ _ (o _ _ Z));have h3:bQ K (upd d p3 (.tup [.ref p2])) p3 [.ref p2]:=bQ.of af;generalize upd d p3 (.tup [.ref p2])=H3 at m bk h3|-;have bo:((V.str fm::D).take j).length+[V.ref p2].length<=mC:=small (by rw[we];show min _ _+1<=1000;omega);ext;intro p4 H4 T a4;have ag:=(o.trans m).trans T;exact k _ _ (B.trans ag) (by rw[cY,he2];exact Rp.t a4 ((a5.same ag).append (.one (r2.same (m.trans T)))))
 .have ac:ks.length=arms.length+1:=by simpa[fg]using ar
  match ks,ac,ks2,hk with
  |k0::kr,ac,j0::jr,hk =>
  have Y:arms.length=kr.length:=by simpa using ac.symm
  have ad:jr.length=kr.length:=by simpa using hk
  have(a,v0,v1,v2,rfl,hS,e0,e1,e2):=(show Rp K H (.t [.s "match",enc k0,.t (NB nj arms (kr.map enc))]) v from hv).t3;obtain rfl:=e0.bj;have(b,ax,rfl,aw,am):=e2.bq;have(u0,R,rfl,g0,G):=rs.inv;have aj:=am.length;rw[OR,bC,Y,To]at aj;have ai:=G.length;rw[bC]at ai;ext;intro l1 ab;rw[show iW (u0::R) (some 1) none=R from qG (u0::R) 1];have B:=ae ab (.lst R);have Z:upd H l1 (.lst R) l1=some (.lst R):=af;generalize upd H l1 (.lst R)=H1 at B Z|-;have bh:oi K false H1 l1 R:=bu.of Z;have bi:oi K true H1 b ax:=aw.same B;ext;refine Dn (K:=K) (xs:=ax) (ys:=R) (λi C L d=>(∃y0 y1 y2 y3,C=[y0,y1,y2,y3])/\aF H1 d/\bN K d (NB nj (arms.take i) ((jr.take i).map enc)) L/\L.length=i) #[#[_,_,_,_,rfl],aF.refl _,.nil,rfl] ?_ (small ()) ?_ ?_ ?_ ?_
  .exact λi C L d _ ⟨_,_,_,e⟩=>Tt e
  .exact λi C L d _ ⟨_,o,_⟩=>aw.same (B.trans o)
  .exact λi C L d _ ⟨_,o,_⟩=>bu.of (o _ _ Z)
  .rintro i xv yv C L d p hx hy ⟨⟨_,_,_,_,rfl⟩,o,r2,e2⟩ O;have(ta,a9,ra):=am.get' hx;have(x,kk,a8,rfl):=HW a9;have(tk,W,rk):=G.get' hy;rw[rj]at W;have(jj,bg,rfl):=ur.mp W;have(xa,x1,x2,x3,rfl,az,q1,q2,q3):=(show Rp K H (.t [.s x.1,.t (x.2.map .s),kk]) xv from ra).t3;have m:=ae O (.tup [V.ref xa,yv]);have h3:bQ K (upd d p (.tup [V.ref xa,yv])) p [V.ref xa,yv]:=bQ.of af;generalize upd d p (.tup [V.ref xa,yv])=H3 at m h3|-;have z:=(B.trans o).trans m;have bl:=az.same z;ext;intro p4 N;have T:=ae N (.tup [x1,x2,yv]);refine#[#[_,_,_,_,rfl],(o.trans m).trans T,?_,by rw[j3,e2];rfl];rw[fZ a8,fZ bg,m3,Sf,Dr (by rw[bC,we,we,ad,<-Y])];exact((r2.same m).same T).snoc (Rp.new (K:=K) (xs:=[.s x.1,.t (x.2.map .s),enc jj]) N (.cons (q1.same z) (.cons (q2.same z) (.one (rk.same z)))))
  .rintro C J d ⟨⟨_,_,_,_,rfl⟩,o,r2,e2⟩ p O;rw[aj,ai,ad,To,<-Y,MS,Y,<-ad,MS]at r2;have m:=ae O (.lst J);have h3:upd d p (.lst J) p=some (.lst J):=af;generalize upd d p (.lst J)=H3 at m h3|-;have z:=(B.trans o).trans m;have bp:=z _ _ hl;have a0:=Bw u0 R;ext;refine .inl #[bu.of h3,λp4 N=>?_];have T:=ae N (.tup J);have r4:=Rp.new (K:=K) N (r2.same m);generalize upd H3 p4 (.tup J)=H4 at T r4|-;ext;intro p5 as;exact k _ _ ((z.trans T).trans (ae as _)) (by rw[cY];exact Rp.new (K:=K) (xs:=[.s "match",enc j0,.t (NB nj arms (jr.map enc))]) as (.cons .s (.cons (g0.same (z.trans T)) (.one r4))))
 .have(a1,a2,rfl):=l2 (show ks.length=2 by simpa[fg]using ar);have(b1,b2,rfl):=l2 hk;have(a,v0,v1,v2,v3,rfl,hS,e0,e1,e2,e3):=(show Rp K H (.t [.s "let",.s x,enc a1,enc a2]) v from hv).t4;obtain rfl:=e0.bj;have(u1,_,rfl,g1,G):=rs.inv;have(u2,_,rfl,g2,G):=G.inv;obtain rfl:=G.iE;ext;intro p O;exact k _ _ (ae O _) (Rp.new (K:=K) (xs:=[.s "let",.s x,enc b1,enc b2]) O (.cons .s (.cons e1 (.cons g1 (.one g2)))))
 .have(a1,a2,a3,rfl):=l3 (show ks.length=3 by simpa[fg]using ar);have(b1,b2,b3,rfl):=l3 hk;have(a,J,rfl,hS,u):=(show Rp K H (.t [.s "fold",enc a1,.s x,.s y,enc a2,enc a3]) v from hv).bq;have(v0,_,rfl,e0,aa):=u.inv;have(v1,_,rfl,e1,be):=aa.inv;have(v2,_,rfl,e2,bc):=be.inv;have(v3,_,rfl,e3,bb):=bc.inv;have(v4,_,rfl,e4,an):=bb.inv;have(v5,_,rfl,e5,ba):=an.inv;obtain rfl:=ba.iE;obtain rfl:=e0.bj;have(u1,_,rfl,g1,G):=rs.inv;have(u2,_,rfl,g2,G):=G.inv;have(u3,_,rfl,g3,G):=G.inv;obtain rfl:=G.iE;ext;intro p O;exact k _ _ (ae O _) (Rp.new (K:=K) (xs:=[.s "fold",enc b1,.s x,.s y,enc b2,enc b3]) O (.cons .s (.cons g1 (.cons e2 (.cons e3 (.cons g2 (.one g3)))))))
end G34
namespace L2
open PySem PySem.Spec PyProof.Rows
section
set_option maxRecDepth 100000 in
theorem tK {a c: Nat}(e : s.heap.get? l = some { cls := .type "list", data := .seq items n })(e2 : s.heap.get? b = some { cls := .type "list", data := .seq new n2 })(hne : l ≠ b)(hs : s.heap.IsSliceOf p u t .none)(pl : RB u (some (a : Int)))(pu : RB t hi)(hbd : Nq (some (a : Int)) hi none items.size = ((a : Int), (c : Int), 1))(hac : a ≤ c)(hc : c ≤ items.size)(hsz : items.size + new.size ≤ mC)(h : Q Unit.unit { s with heap := s.heap.update l (Nn λxs => xs.extract 0 a ++ new ++ xs.extract c xs.size) }):
    u4 (L0 prog w) A (UE (.ref l) (.ref p) (.ref b)) Q E s := by
  have y : s.heap.IsList l items := U7 e;have C : s.heap.IsList b new := U7 e2;have(B, g, z, o) := id hs;have r : s.TypeIs (.ref p) "slice" := #[B, g, z];have j : ¬ ((rawPart none == NK 0) = true) := FG
  have d : Oe (.ref l) (.ref b) = false := by
    unfold Oe;exact beq_eq_false_iff_ne.mpr hne
  have q : (max (a : Int) (c : Int)).toNat = c := by omega
  have v : ((λxs : Array cB => xs.extract 0 a ++ new ++ xs.extract c xs.size) items).size ≤ mC + 1 := by
    simp only [Array.size_append, Array.size_extract];omega
  unfold UE
  try with_reducible refine MZ ?_
  first | refine bB (lj ?_) | skip
  refine bB (Sw y.typeIs (by decide) ?_)
  refine bB (Nb (name := MI "__setitem__") y.typeIs slot_list_setitem
    (NT slot_list_setitem y.typeIs entry_list_setitem ?_ (args_list_setitem _ _ _)))
  show u4 _ _ (RT (.ref p) >>= _) _ _ s;refine bB ?_;unfold RT;refine bB (PU r slice_no_index ?_);simp only [Option.isNone_none, if_true];refine lj ?_;show u4 _ _ (typeOf (.ref p) >>= _) _ _ s;refine bB (Of r ?_)
  first
    | rw [if_neg (by decide)]
    | refine Sg (by decide) ?_
  rw [listSliceParts_eq];refine bB (bB (MX g o (x := .none) rfl (bB (T8 .none ?_))));rw [if_neg j];refine bB (MX g o (x := u) rfl (bB (T8 pl ?_)));refine bB (MX g o (x := t) rfl (bB (T8 pu (lj ?_))))
  first
    | simp only [d, NC, if_false]
    | refine Sg d ?_
    | (dsimp only
       rw [if_neg (by rw [d]; exact FG)])
  refine bB (m := Sq (.ref b) "must assign iterable to extended slice") ?_;unfold Sq;refine bB (Of C.typeIs ?_)
  first
    | refine PySem.W.KFB.if_so (by decide) ?_
    | rw [if_pos (by decide)]
    | simp only [beq_self_eq_true, UM, if_true]
  unfold OU;refine bB (Nt e2 rfl (lj ?_));refine bB (bB (Nt e rfl (lj ?_)));refine bB (wpAny_of_eq ((sliceIndices_raw (some (a : Int)) hi none items.size (by simp)).trans (congrArg (pure : Int × Int × Int -> Sem (Int × Int × Int)) hbd)) ?_);show u4 _ _ (if ((1 : Int) == 1) = true then _ else _) _ _ s;rw [if_pos (by decide)];refine bB (P7 ?_)
  first
    | simp only [pU hsz, NC, if_false]
    | refine Sg (pU hsz) ?_
  first | refine bB (lj ?_) | skip
  show u4 _ _ (S4 l (λxs => xs.extract 0 ((a : Int)).toNat ++ new ++ xs.extract (max (a : Int) (c : Int)).toNat xs.size) >>= _) _ _ s;rw [q, NY];refine bB (PX (hz := FA (Ol _ _) hsz) (_hz' := v) e rfl ?_);refine bB (Rr ?_)
  first
    | exact bB (lj (lj #[.none, rfl, lj h]))
    | exact lj #[.none, rfl, lj h]
end
theorem BH {a:Nat}(e:a<=n):Nq (some (a:Int)) none none n=((a:Int),(n:Int),1):=by
 simp only[Nq,SO];have d:¬((a:Int)<0):=()
 simp only[d,if_false,show(1:Int)>0 by decide,if_true]
 congr 1
 omega
def K7(m:TE)(p:TO):TG:=λv e H Q=>m e H λo q=>p e q λi j=>∃l b d g a,o=.ref l/\v=.ref b/\i=some a/\j l=some (.lst d)/\j b=some (.lst g)/\l≠b/\0<=a/\a<=d.length/\d.length+g.length<=mC/\Q e (upd j l (.lst (d.take a.toNat++g)))
theorem HY {lo:Option Expr}(S:PE X o E)(V:PO X lo G)(ha:∀v,Uw (.Subscript o (.Slice lo none none A) g) X.env v=(do
   let j ←RN [v] (eval o X.env)
   let B ←RN [v,j] (eval (.Slice lo none none A) X.env)
   standAt g
   RN [v,j,B] (UE j B v)
   release [B,v,j] []):=by intro _;rfl):PG X (.Subscript o (.Slice lo none none A) g) (K7 E G):=by
 intro d s w H v u Q I r h;rw[ha];refine bB (MZ (dw (S d s w H _ I h) λj N ⟨x,H1,I1,O,q1⟩=>?_));refine bB (MZ ?_);refine wpAny_Slice (dw (V d N w H1 _ I1 q1) λM y ⟨l,H2,I2,R,P⟩=>?_);rw[Um];refine lj ?_;refine lj ?_;have D:Inv X d w H2 {y with heap:=y.heap.push {cls:=.type "slice",data:=.fields #[M,.none,.none,]}}:=I2.kept (t':=y.toks) λb ob q=>lu _ q;have(p,b,xs,ys,a,rfl,rfl,rfl,J,W,C,Y,h1,hz,q):=P
 cases O
 cases r
 have(z,t,n,r,U,e):=D.uc J;have(z2,m,n2,r2,T,Z):=D.uc W;have(L,rfl):=QJ Y;simp only[NY]at q;refine bB (PZ (bB (MZ ?_)));refine tK (a:=L) (c:=t.toArray.size) (hi:=none) e Z C (R7 ..) R .none (BH (by rw[sE];omega)) (by rw[sE];omega) (mu _) (by rw[sE,sE];omega) ?_;refine wpAny_release #[w,_,D.CK (its':=t.take L++m) (t':=y.toks) J e ?_ (Vals.append (r.take _) r2) ?_,q]
 .rw[Bl,sE,OF,M5]
 .rw[j3,we];omega
structure qg(N P Fr:List Str) (sc:Ov):Prop where
 kind:sc.kind=.function
 co:sc.isCoroutine=false
 gen:sc.isGenerator=false
 nd:N.Nodup
 pre:N.take P.length=P
 suf:N.drop (N.length-Fr.length)=Fr
 fit:P.length+Fr.length<=N.length
 par:∀x∈P,sc.names.lookup x=some .local
 nocell:∀y∈sc.names,y.2≠.cell
 fre:∀x∈Fr,sc.names.lookup x=some .free
 all:∀y∈sc.names,y.2=.free->y.1∈Fr
noncomputable def nH(N:List Str)(e d:List V):St:=e.map some++(MU (N.length-e.length-d.length) none++d.map some)
noncomputable def qS(o:uJ)(P:sC)(w:FT)(K:bA)(mg:Str->Option cB)(base:Heap)(N:List Str)(g:Str)(d:Ov)(f:Addr)(m:cB)(l:List (Str×Addr))(A:MM)(outer:List Env)(s:eT)(H:Hp)(E:XK):Cx where
 prog:=P
 w:=w
 K:=K
 mg:=mg
 base:=base
 A:=A.deeper (Pj g d s.heap.objs.size f m l)
 N:=N
 s₀:=s
 H₀:=H
 env:=Pj g d s.heap.objs.size f m l
 outer:=outer
 stack:=Pj g d s.heap.objs.size f m l::outer
 ex:=[]
 calm:=true
 fn:=λ_=>false
 pn:=[]
 xe:=λe p=>u4 (L0 P w) (A.deeper (Pj g d s.heap.objs.size f m l)) (leaving (Pj g d s.heap.objs.size f m l) e) (λ_ j=>o outer H s E e j) (λq j=>o outer H s E q j) p
theorem lookup_mem {d:Type}{u:d}:∀{l:List (Str×d)},(l.map (·.1)).Nodup->(x,u)∈l->l.lookup x=some u
 | [],_,h=>by cases h
 |(y,v)::r,nd,h=>by
  rw[M0,O9]at nd;rcases vy.mp h with h|h
  .cases h;simp[M4]
  .have:x≠y:=λz=>nd.1 (by rw[<-z];exact NV.mpr #[_,h,rfl]);rw[M4,beq_false_of_ne this];exact lookup_mem nd.2 h
theorem tL {P:List Str}{us:List cB}{i:Nat}(d:P.Nodup)(g:P[i]?=some x)(e:us[i]?=some u):(P.zip us).reverse.lookup x=some u:=by
 refine lookup_mem ?_ (SW.mpr (t9 (i:=i) ?_))
 .rw[Q9];refine List.pairwise_reverse.mpr (Ur.imp (λh=>NW h) (d.sublist ?_))
  have:∀(P:List Str) (us:List cB),List.Sublist ((P.zip us).map (·.1)) P:=by
   intro P
   induction P with
   |nil=>intro us;exact QX _
   |cons a r ih =>
    intro us
    cases us with
    |nil=>exact Rb _
    |cons u us=>exact(ih us).cons_cons a
  exact this P us
 .rw[List.getElem?_zip_eq_some];exact#[g,e]
structure yn(base:Heap) (cl:List (Str×Addr)) (Fr:List Str) (fvs:List V):Prop where
 inj:∀x y c,cl.lookup x=some c->cl.lookup y=some c->x=y
 cell:∀x c,cl.lookup x=some c->∃v,base.IsCell c v
 get:∀(i:Nat) (x:Str) (v:V),Fr[i]?=some x->fvs[i]?=some v->∃c u,cl.lookup x=some c/\RelV v u/\base.IsCell c (some u)
 len:fvs.length=Fr.length
 has:∀x∈Fr,∃c,cl.lookup x=some c
theorem zJ {K:bA}{Fr:List Str}(S:qg N ps Fr scope)(hd:A.handled=none)(l:vF P w K mg base A outer s H)(Z:j.length=ps.length)(r:Vals j us)(C:yn base cl Fr d)(hns:m.Ns s.heap.objs.size (λx=>(ps.zip us).reverse.lookup x))(hk:∀b o,s.heap.get? b=some o->m.get? b=some o):
  Inv (qS CX P w K mg base N qual scope f cd cl A outer s H E) [] (nH N j d) H {s with heap:=m,toks:=tk}:=by
 have L:=C.len;have T:=S.fit;have O:∀c v,base.IsCell c v->m.IsCell c v:=λc v ⟨o,J,hd⟩=>#[o,hk _ _ (l.bs _ _ J).1,hd];have q:∀b:Addr,b∉(qS CX P w K mg base N qual scope f cd cl A outer s H E).ex:=λb z=>absurd (show b∈([]:List Addr)from z) (by simp)
 refine#[#[l.mod,S.kind,rfl,rfl,mu _,C.inj,λy hy=>?_,(λx c B=>nomatch B),λ_=>hd,TU l.frames,.inr #[rfl,rfl],λb z=>absurd z (q b),l.bs,l.bsz,λb _ _=>q b,λb z=>absurd z (q b),l.oM,l.frf],
  rfl,l.bare,Un.kept hk,#[_,hns,λi y v m g h3=>?_],λy c h=>?_,l.hok.fresh (mu _),λy c h=>?_,λp D=>absurd (show p∈([]:List (Addr×Obj))from D) (by simp),l.hok.kept hk,?_]
 .have hy:scope.names.lookup y=some .cell\/scope.names.lookup y=some .free:=hy;rcases hy with hy|hy
  .exact absurd rfl (S.nocell _ (Nh hy))
  .exact C.has y (S.all _ (Nh hy) rfl)
 .have m:N[i]?=some y:=m
  by_cases M:i<j.length
  .have Y:j[i]?=some v:=by
    unfold nH at g;rw[Ng (by simpa using M),rj]at g
    cases e:j[i]? with
    |none=>rw[e]at g;cases g
    |some a=>rw[e]at g;cases g;rfl
   have(u,R,G):=r.get Y
   have D:ps[i]?=some y:=by
    rw[<-S.pre,SG ()];exact m
   have I:ps.Nodup:=by rw[<-S.pre];exact S.nd.sublist (UI _ _)
   exact#[u,G,.inl #[S.par y (t9 D),tL I D R]]
  .unfold nH at g;rw[M7 (by simpa using M),bC]at g
   have U:(N.length-j.length-d.length)<=i-j.length:=by
    refine Q8.mp λz=>?_;rw[Ng (by simpa using z),Py]at g
    split at g<;>cases g
   rw[M7 (by simpa using U),O0,rj]at g
   have W:d[i-j.length - (N.length-j.length-d.length)]?=some v:=by
    cases e:d[i-j.length - (N.length-j.length-d.length)]? with
    |none=>rw[e]at g;cases g
    |some a=>rw[e]at g;cases g;rfl
   have B:Fr[i-j.length - (N.length-j.length-d.length)]?=some y:=by
    rw[<-S.suf,List.getElem?_drop,<-m]
    congr 1
    omega
   have(c,u,X,G,t):=C.get _ _ _ B W;exact#[u,G,.inr #[.inr (S.fre y (t9 B)),c,X,O _ _ t]]
 .have(v,Q):=C.cell y c h;exact#[v,O _ _ Q]
 .have(v,o,J,_):=C.cell y c h;exact(l.bs _ _ J).2
 .unfold nH;show _=N.length;rw[j3,j3,bC,bC,O0];omega
theorem HZ {K:bA}{Fr:List Str}{kV:cB}(lk:base.get? f=some #[oc,od,.func (QK name qual d g scope cl dV kV L Z an cd ct),R])(S:qg N ps Fr scope)(C:yn base cl Fr m)(len:∀j H Q E,sp j H Q E->j.length=ps.length)(hcd:∀j H Q E (h:Heap),sp j H Q E->mU P w H h->h.CodeRec cd qual)(hbody:∀(A:MM) (outer:List Env) (s:eT) (H:Hp) (j:List V) (Q:VK) (E:XK),fB k (A.deeper (Pj qual scope s.heap.objs.size f cd cl))->sp j H Q E ->
   ∃t,qy (qS CX P w K mg base N qual scope f cd cl A outer s H E) g t/\t {nx:=λ_ p=>Q .gq p,rt:=Q} (nH N j m) H):
  bH P w K mg base CX (k+1) f (QK name qual d g scope cl dV kV L Z an cd ct) ps sp:=by
 refine#[len,λA outer s H aa us j Q E hr G hb r z=>?_];have hl:=len _ _ _ _ z;have T:s.heap.NoLimit:=G.mod.nolimit.keeps λb o e=>(G.bs b o e).1;refine Q2 hr.depth (G.bs _ _ lk).1 rfl S.co S.gen rfl (hcd _ _ _ _ _ z G.hok) (hb _ _ _ _ ?_);refine wpAny_newFunctionEnv S.nocell (λy hy=>S.par _ (PN (show(y.1,y.2)∈_ from hy)).1) (λh1 X U=>?_) S.kind
 have hk:∀b o,s.heap.get? b=some o->h1.get? b=some o:=λb o e=>by
  have Y:b≠s.heap.objs.size:=MQ (ri e);rw[U.2 b Y];exact lu _ e
 refine#[T.keeps hk,UJ ?_];have(t,ht,hq):=hbody A outer s H j Q E (hr.deeper _) z;have I:Inv (qS CX P w K mg base N qual scope f cd cl A outer s H E) [] (nH N j m) H {s with heap:=h1,toks:=s.toks+(ps.zip us).length}:=zJ S hr.hd G hl r C X hk;change u4 (L0 P w) (A.deeper (Pj qual scope s.heap.objs.size f cd cl)) (execs g (Pj qual scope s.heap.objs.size f cd cl)) _ _ _;refine Nk (ht [] _ (nH N j m) H _ I hq) (λfl M B=>?_) λe M B=>B
 have D:∀{l:St}{p:Hp}{v:V}{u:cB},Inv (qS CX P w K mg base N qual scope f cd cl A outer s H E) [] l p M->RelV v u->Q v p->CE outer P w H s Q u M :=
  λ{l p v u} J O q=>#[v,p,J.os,J.bare,J.base,J.hok,O,q]
 cases fl with
 |ret u =>
  have(v,l,p,J,O,q):=B;exact D J O q
 |next =>
  have(l,p,J,q):=B;exact D (v:=V.gq) (u:=Value.none) J rfl q
 |brk =>
  have(_,_,_,q):=B;exact Nx q
 |cont =>
  have(_,_,_,q):=B;exact Nx q
def Ia(f:Addr)(sp:Sp)(g:TE)(t:TA):TE:=λd H Q=>g d H λx l=>x=.ref f/\t d l λe j=>sp e j Q E0
theorem Dt (F:bH X.prog X.w X.K X.mg X.base eZ k f l ps sp)(hr:fB k X.A)(o:UR f X.base)(M:Binds X.K l ps [])(hf:PE X (.Name x p) z)(ha:PA X (e::j) t)(he:M3 (e::j) X.env=(false,eval e X.env)::M3 j X.env:=by rfl)(hpl:(Qo g (M3 j X.env)).any (·.1)=false:=by rfl):
  PE X (.Call (.Name x p) (e::j) [] g) (Ia f sp z t):=by
 intro d s y H Q I h;refine Nf (dw (hf d s y H _ I h) λu G ⟨v,O,D,L,N,q⟩=>?_);subst N;obtain rfl:u=Value.ref f:=L;have at':∀{B:eT}{m:St}{P:Hp},Inv X d m P B->UR f B.heap:=λJ=>let⟨oc,od,l,sl,e⟩:=o;#[oc,od,l,sl,J.bk _ _ e];refine PySem.W.callWith_F (at' D) (dw (ha g d G y O _ D q) λS T ⟨R,U,C,r,q⟩=>#[at' C,?_]) he hpl;exact zb (E:=E0) (dvs:=[]) F hr M .nil kL C r (by simpa using q)
noncomputable def mR(c:Addr)(q:Str):HO:=.ext λh=>∃e d t,h.get? c=some e/\e.data=.fields d/\d[1]?=some (.str q t)
theorem BJ (d:mU P w H h)(e:H c=some (mR c q)):h.CodeRec (.ref c) q:=by
 have((j,g,t,o,m,l),_):=d c _ e;exact#[c,j,g,t,rfl,o,m,l]
def Du(H:Hp)(P:Addr)(d:Pos)(q:Str)(c:Addr):Prop:=H P=some (.tbl #[NK d.line,NK d.col,.ref c,])/\H c=some (mR c q)
def jD(H:Hp)(P:Addr)(d:Pos)(q:Str):Prop:=H P=some (.tbl #[])\/∃c,Du H P d q c
def rA(P:Addr)(H d:Hp):Prop:=∀b o,b≠P->H b=some o->d b=some o
structure uq(base:Heap) (mg:Str->Option cB):Prop where
 ex:∃bm ob,mg "__builtins__"=some (.ref bm)/\bm≠Tg/\base.get? bm=some ob/\ob.cls=.type "module"/\ob.dict=some Tg/\ob.data=.plain
theorem Inv.Gv (I:Inv X pins σ H s)(B:uq X.base X.mg)(m:H P=some o):ML≠P/\s.heap.BuiltinsAt X.mg P:=by
 have ne:∀b d,X.base.get? b=some d->b≠P:=λb d e z=>by
  have:=(I.bs b d e).2;rw[z,m]at this;cases this
 have(w,y,A,l,p,_):=id I.mod.glob;have(q,d,v,u,g,t,r,j):=B.ex;refine#[ne _ _ l,q,d,v,u,λz=>?_,ne _ _ g,I.bk _ _ g,t,r,j];rw[z,l]at g;cases g;rw[p]at j;cases j
theorem Dv (I:Inv X pins σ H s)(N:X.env.code=.ref c)(hC:OI X.base c P)(B:uq X.base X.mg)(hT:jD H P g j)(hcl:closureFor C X.env=pure Y)(h:∀f l O R L s1,Inv X ((f,Vm name j D Z C Y O ((X.mg "__name__").getD .none) l R)::pins) σ L s1->Du L P g j l->rA P H L->Q (.ref f) s1):
  u4 (L0 X.prog X.w) X.A (makeFunction name j D (.stmts Z) C X.env [] [] [] g g.line) Q X.xe s:=by
 have ai:OI s.heap c P:=hC.keeps I.bk;have hg:s.heap.Ns ML X.mg:=I.mod.glob.keeps I.bk
 have pinned:∀{L:Hp}{V:Heap}{S:Nat}{fo:Obj},Inv X pins σ L {s with heap:=V,toks:=S}->(∀v,fo.data≠.cell v)->fo.isFreed=false->X.env.locals<V.objs.size->Inv X ((V.objs.size,fo)::pins) σ L {s with heap:=V.push fo,toks:=S}:=by
  intro L V S fo J hd ab aa;have J2:Inv X pins σ L {s with heap:=V.push fo,toks:=S}:=J.kept (t':=S) λb u e=>lu _ e;refine J2.iy λp hp=>?_;rcases vy.mp hp with rfl|hp
  .exact#[zv _ ab,J.hok.fresh (mu _),Oo aa,J.Ex (mu _),hd]
  .exact J2.pin p (I0 _ hp)
 rcases hT with hT|⟨l,hT,hc'⟩
 .have(ah,hb):=I.Gv B hT;have hP:s.heap.get? P=some (Sh #[]):=I.hok P _ hT;refine PySem.W.makeFunction_K (mg:=X.mg) hcl I.ok.glob hg N ai hP trivial rfl ah hb λl R O V S hx T aa ae ad=>?_;have(c2,oc,vs,t,e2,ag,hd,hv):=ae
  cases e2
  have fr:H l=none:=I.hok.fresh T;have M:∀b o,H b=some o->o≠.tbl #[]->b≠P:=λb o e n z=>by rw[z,hT]at e;exact n (Nd e).symm
  have E:∀b,H b=none->b≠P:=λb e z=>by rw[z,hT]at e;cases e
  have aj:∀b o,s.heap.get? b=some o->b≠l:=λb o e=>MQ (zo (ri e) T);have cP:l≠P:=λz=>absurd (ri hP) (by rw[<-z];exact Q8.mpr T);have hH:∀b,b≠P->b≠l->upd (upd H P (.tbl (#[]++#[NK g.line,NK g.col,.ref l,]))) l (mR l j) b=H b:=λb h1 h2=>by rw[ay h2,ay h1]
  have U:upd (upd H P (.tbl (#[]++#[NK g.line,NK g.col,.ref l,]))) l (mR l j) P=some (.tbl (#[]++#[NK g.line,NK g.col,.ref l,])):=by rw[ay (NW cP),af]
  have ac:upd (upd H P (.tbl (#[]++#[NK g.line,NK g.col,.ref l,]))) l (mR l j) l=some (mR l j):=af;generalize upd (upd H P (.tbl (#[]++#[NK g.line,NK g.col,.ref l,]))) l (mR l j)=L at hH U ac;have G:∀b o,b≠P->H b=some o->L b=some o:=λb o n e=>by rw[hH b n (λz=>by rw[z,fr]at e;cases e)];exact e
  have J:Inv X pins σ L {s with heap:=V,toks:=S}:=by
   refine I.step (g':=s.gens) (d':=s.drawn) (t':=S) (ch:=[]) (λ_ z=>nomatch z) (λb o _ _ _ e n=>hx b o (E b n) e) (λb o _ _ _ e n=>#[o.slots,hx b o (E b n) e]) (λb o _ e n=>by rw[hH b (E b n) (aj b o e)];exact n)
    (λb o _ e=>?_) (λb xs e=>G b _ (M b _ e (by simp)) e) (λb o u e=>G b _ (M b _ e (by simp)) e) (λb ps e=>?_) (λm hm=>?_) (λb o e=>?_) I.bare
   .by_cases z:b=P
    .subst z;exact#[_,ad]
    .exact#[o,hx b o z e]
   .by_cases z:b=P
    .subst z;rw[hT]at e;cases e;exact#[_,U]
    .exact#[#[],by rw[G b _ z e];simp]
   .have(o,es,ep,ho,r):=hm;exact#[o,es,ep,hx _ _ (E _ I.free) ho,r]
   .by_cases z:b=P
    .subst z;rw[U]at e;cases e;exact ad
    .by_cases z2:b=l
     .subst z2;rw[ac]at e;cases e;exact#[#[oc,vs,t,ag,hd,hv],#[oc,ag],λh1 h2 ⟨oc,vs,t,e1,r⟩ k=>#[oc,vs,t,k _ e1,r]]
     .have e':H b=some o:=by rw[<-hH b z z2];exact e
      refine(I.hok b o e').stay (λd u hd q=>hx d u ?_ q) (λd q=>G d _ (M d _ q (by simp)) q) λd xs q=>G d _ (M d _ q (by simp)) q;rcases hd with y|y
      .rw[y];exact z
      .exact M d _ y (by simp)
  refine h _ l O R L _ (pinned J (λv z=>nomatch z) rfl (zo I.lt (FA T (Ny aa)))) #[by rw[U];simp,ac] λb o n e=>G b o n e
 .have(ah,hb):=I.Gv B hT;have hP:s.heap.get? P=some (Sh #[NK g.line,NK g.col,.ref l,]):=I.hok P _ hT;refine PySem.W.makeFunction_hit (mg:=X.mg) (cv:=.ref l) hcl I.ok.glob hg N ai hP (by simp[TriplesOk,NK]) (by simp[codeAmong,NK]) hb λR O V S hk ak=>?_;exact h _ l O R H _ (pinned (I.kept hk) (λv z=>nomatch z) rfl (zo I.lt ak)) #[hT,hc'] λb o _ e=>e
theorem Inv.JJ (I:Inv X pins σ H s):∃d,vF X.prog X.w X.K X.mg d X.A X.stack s H/\∀b o,s.heap.get? b=some o->H b=none->b∉frs X.stack->d.get? b=some o:=by
 have get:∀b o,s.heap.get? b=some o->H b=none->b∉frs X.stack->(Rv (pF s.heap H) (frs X.stack)).get? b=some o:=λb o e n j=>Ud _ (wX e n) j
 have g:∀b o,X.base.get? b=some o->(Rv (pF s.heap H) (frs X.stack)).get? b=some o:=λb o e=>get b o (I.bs b o e).1 (I.bs b o e).2 λj=>by
  have:=(I.stack.mem j).1;rw[e]at this;cases this
 refine#[_,#[I.ok.frames,#[I.mod.kin.keeps g,I.mod.glob.keeps g,let⟨mb,h1,h2⟩:=I.mod.blt;#[mb,h1.keeps g,h2],I.mod.nolimit.keeps g],λb o e=>Af (Uv _ e),by rw[TL,uG];exact mu _,?_,I.rG,I.hok,I.bare],get]
 have all:∀(l:List Env),(∀b∈frs l,b∈frs X.stack)->s.heap.FunFrames X.base l->s.heap.FunFrames (Rv (pF s.heap H) (frs X.stack)) l:=by
  intro l
  induction l with
  |nil=>intro _ _;trivial
  |cons env r ih =>
   intro p t;have(u,(L,o,m,y,q,hd),hr):=t;have v:L∈frs X.stack:=p L (by unfold frs;rw[NG,m];exact Oh);exact#[u,#[L,o,m,TM _ v,q,hd],ih (λb j=>p b (by unfold frs;rw[NG,m];exact Nz _ j)) hr]
 exact all X.stack (λ_ j=>j) I.stack
theorem Fj (I:Inv X pins σ H s)(hF:∀d,(∀b o,s.heap.get? b=some o->H b=none->b∉frs X.stack->d.get? b=some o)->bH X.prog X.w X.K X.mg d eZ k g p ps sp)(hr:fB k X.A)(hb:Binds X.K p ps [])(r:Vals m us)(h:sp m H Q E0):
  u4 (L0 X.prog X.w) X.A (call (.ref g) us) (EP X pins σ Q) X.xe s:=by
 have(d,t,get):=I.JJ;have F:=hF d get;have q:us.length=ps.length:=by rw[<-r.length];exact F.len _ _ _ _ h
 have l:=hb s us I.tZ (by simpa using q);rw[M5]at l;refine QC (PM (F.run X.A X.stack s H #[us,[]] us m Q E0 hr t l r h) λr v j=>?_)
 cases r with
 |error e=>exact Nx j
 |ok fl =>
  cases fl with
  |ret u=>exact I.after j
  |next=>exact Nx j
  |brk=>exact Nx j
  |cont=>exact Nx j
def My(i:Nat)(fr:List Nat)(P:Addr)(d:Pos)(q:Str)(sp:Addr->Addr->List V->Sp)(t:TA):TS:=λD l H=>jD H P d q/\∃e:List V,fr.map (λj=>l[j]?)=e.map (λv=>some (some v)) /\
 ∀f c g,Du g P d q c->rA P H g->t (l.set i (some (.ref f))) g λm o=>sp f c e m o D.rt E0
theorem zK {T:List Stmt}(hcode:X.env.code=.ref c)(hC:OI X.base c P)(B:uq X.base X.mg)(hfn:∀x,X.fn x=true)(hN:X.N.Nodup)(hi:X.N[i]?=some name)(U:X.env.scope.names.lookup name=some .local)(hfr:∀x∈d.names,x.2=.free->X.env.scope.names.lookup x.1=some .cell)(hfi:∀j∈fr,X.env.scope.names.lookup (X.N.getD j MY)=some .cell/\d.names.lookup (X.N.getD j MY)=some .free)(G:∀E f c' Z aa R,E.get? f=some (Vm name (qualnameIn X.env name name) C T d (cS X.env d.names []) Z ((X.mg "__name__").getD .none) c' aa)->yn E (cS X.env d.names []) (fr.map λj=>X.N.getD j MY) R->bH X.prog X.w X.K X.mg E eZ k g fdg psg (sp f c' R))(hr:fB k X.A)(hg:Gl X gx)(hm:X.mg gx=some (.ref g))(hk:NF X.K (.ref g)=true)(hb:Binds X.K fdg psg [])(ha:PA X (e::es) t)(hd0:C.defaults=[]:=by rfl)(hk0:C.kw_defaults=[]:=by rfl)(han:annTrees C none X.env=[]:=by rfl)(hdb:(gx == ("__debug__":Str))=false:=by decide)(he:M3 (e::es) X.env=(false,eval e X.env)::M3 es X.env:=by rfl)(hpl:(Qo pc (M3 es X.env)).any (·.1)=false:=by rfl):
  qy X [.FunctionDef name C T [] none [] d none name ab,.Return (some (.Call (.Name gx pn) (e::es) [] pc)) pr] (My i fr P ab (qualnameIn X.env name name) sp t):=by
 intro aj s σ H D I ⟨hT,R,hv,h⟩;have M:∀x∈d.names,x.2=.free->∃c,X.env.cells.lookup x.1=some c:=λx U e=>I.ok.has x.1 (.inl (hfr x U e));refine Qf (PySem.W.nestDef_K hd0 hk0 han (Dv I hcode hC B hT (oE M) λf c' Z aa H1 s1 J tb gr=>?_));refine iV J hN hi (.inl U) (show RelV (.ref f) (.ref f)from rfl) (λs2 J2=>?_) (.inr U);dsimp only;refine Qf (wpAny_Return_some (Nf (pH J2 hg hm ?_ hdb)));refine R3 (h₀:=X.base) J2.ok.mod.kin hk (dw (ha pc _ s2 _ H1 _ J2 (h f c' H1 tb gr)) λus s3 ⟨vs,H2,L,r,q⟩=>#[L.tZ,?_]) he hpl;refine dw (Fj L (λE get=>?_) hr hb r q) λu s4 ⟨v,H3,J4,rv,q4⟩=>?_
 .have(e1,n1,ae,ad,_):=L.pin _ (I0 _ (Oh));refine G E f c' Z aa R (get _ _ e1 n1 λz=>(vy.mp (L.qx _ z)).elim ae ad) ?_;have sub:∀y c,(cS X.env d.names []).lookup y=some c->X.env.cells.lookup y=some c:=jv _ _ M (by intro y c e;simp at e)
  have O:∀x c v,X.env.cells.lookup x=some c->s3.heap.IsCell c v->E.IsCell c v:=λx c v e ⟨o,ho,hd⟩=>#[o,get _ _ ho (L.freeC x c e) (λz=>by
   rcases vy.mp (L.qx _ z)with y|y
   .exact L.Et x c e y
   .have(_,o',ag,_):=L.ok.oM.mem y;exact absurd (zo (ri ag) (L.ok.cab x c (hfn x) e)) (Np _)),hd]
  have S:=congrArg PF hv;rw[bC,bC]at S;refine#[λx y c Q h2=>L.ok.inj x y c (sub x c Q) (sub y c h2),λx c e=>?_,λj x v Q h2=>?_,by rw[bC];exact S.symm,λx U=>?_]
  .have(v,z):=L.cell x c (sub x c e);exact#[v,O x c v (sub x c e) z]
  .rw[rj]at Q
   cases ej:fr[j]? with
   |none=>rw[ej]at Q;cases Q
   |some n =>
    rw[ej]at Q;simp only[QA,QV]at Q;have(q1,q2):=hfi n (t9 ej)
    have hs:σ[n]?=some (some v):=by
     have:=congrArg (λl=>l[j]?) hv;simp only[rj,ej,h2,QA]at this;exact Nd this
    have ah:n<X.N.length:=by rw[<-I.len];exact(ko.mp hs).1
    have Y:X.N[n]?=some x:=by rw[<-Q,OX,my ah];rfl
    rw[Q]at q1 q2;have ai:n≠i:=λz=>by rw[z,hi]at Y;cases Y;rw[U]at q1;cases q1
    have(m,hn,hl):=L.loc;have(u,ru,lk):=hl n x v Y (by rw[Pd (NW ai)];exact hs) (.inr (.inl q1));rcases lk with⟨k1,_⟩|⟨_,c,hc,z⟩
    .have k1:X.env.scope.names.lookup x=some .local:=k1;rw[q1]at k1;cases k1
    .have(c2,ac):=jx (env:=X.env) d.names [] x (Nh q2);have:=sub x c2 ac;rw[hc]at this;cases this;exact#[c,u,ac,ru,O x c _ hc z]
  .have(j,hj,rfl):=NV.mp U;exact jx _ _ _ (Nh (hfi j hj).2)
 .exact#[v,_,H3,J4.iy λp hp=>J4.pin p (I0 _ (Nz _ hp)),rv,q4]
structure zL(K:bA) (x qual:Str) (st:Stmt) (f:Addr) (fd:rE) (c:Addr):Prop where
 ex:∃(oc:cB) (od:Option Addr) (kV doc pm:cB) (an:Option Addr) (ct:cB) (osl:Array (Option cB)),
  fd=Pg x qual (fj st) (bM st) (ak st) .none kV doc pm an (.ref c) ct/\K.lookup f=some #[oc,od,.func fd,osl]/\Qq K (.ref c) qual=true
 kp:NF K (.ref f)=true
theorem zL.f {K:bA}{st:Stmt}{f:Addr}(F:zL K x d st f g c):ic K x d st f g :=
 let⟨oc,od,kV,doc,pm,an,ct,osl,e,lk,hcd⟩:=F.ex
 #[#[oc,od,kV,doc,pm,an,.ref c,ct,osl,e,lk,hcd],F.kp]
theorem zL.ok {K:bA}{st:Stmt}{f:Addr}(F:zL K x e st f m c)(S:aK N ps (ak st))(len:∀g H Q E,sp g H Q E->g.length=ps.length)(hbody:∀(A:MM) (d:List Env) (s:eT) (H:Hp) (g:List V) (Q:VK) (E:XK),fB k (A.deeper (Rz e (ak st) s.heap.objs.size f (.ref c)))->sp g H Q E ->
   ∃t,qy (m6 eZ P w K mg base N e (ak st) f (.ref c) A d s H E).yU (bM st) t/\t {nx:=λ_ u=>Q .gq u,rt:=Q} (start N g) H):bH P w K mg base eZ (k+1) f m ps sp:=by
 have(z,y,kV,r,v,C,B,o,rfl,p,l):=F.ex;refine CB p l S len λA d s H g Q E hr j=>?_;have(t,h,q):=hbody A d s H g Q E hr j;exact#[t,h.yU,q]
theorem Fo {K:bA}{st:Stmt}{kV:cB}(l:K.lookup f=some #[o,od,.func (Pg x d (fj st) (bM st) (ak st) .none kV e j m (.ref c) ct),g])(h:Qq K (.ref c) d=true)(k:NF K (.ref f)=true):zL K x d st f (Pg x d (fj st) (bM st) (ak st) .none kV e j m (.ref c) ct) c:=#[#[o,od,kV,e,j,m,ct,g,rfl,l,h],k]
def Dw(Pt:Addr)(H:Hp):Prop:=∀b,H b=none\/b=Pt\/∃o d,H b=some (.frz o (.lst d))
theorem BK {K:bA}(KX:K.In g.heap)(hns:g.heap.Ns ML mg)(l:g.heap.Ns Tg mb)(hbb:∀x:Str,x≠"__name__"->mb x=RL x)(hlim:g.heap.NoLimit)(hg:g.gens=#[])(ha:g.heap.get? a=some {cls:=.type "list",data:=.seq I.toArray})(hi:Vh I ns)(hl:ns.length<=mC)(hr:fB k Uc)(hC:OI g.heap c Pt)(hPt:g.heap.get? Pt=some (Sh #[]))(hKP:K.lookup Pt=none)(B:uq g.heap mg)(F:∀t:Heap,K.In t->t.Ns ML mg->OI t c Pt->uq t mg->bH P w K mg t eZ k fa fd [x] sp)(hbind:∀(s:eT) (u:cB),UH s fd #[[u],[]] [(x,u)])(hsp:∀H:Hp,Dw Pt H->H Pt=some (.tbl #[])->bu K H a (ns.map V.int)->sp [.ref a] H (λv _=>v=.bl true) λ_ _ _=>False):
  Qg (L0 P w) Uc (.call (.ref fa) #[[.ref a],[]]) (λr s'=>r=.ok (.ret (.bool true))/\OldK g.heap s'.heap/\s'.os=g.os/\RM s'.gens) g:=by
 have rv:=uQ hi;have N:=hi.length;have aP:a≠Pt:=λz=>by rw[z,hPt]at ha;cases ha
 have core:∀H:Hp,Dw Pt H->H Pt=some (.tbl #[])->bu K H a (ns.map V.int)->mU P w H g.heap->(∀b,H b≠none->b=a\/b=Pt)->(H a≠none->K.lookup a=none) ->
   Qg (L0 P w) Uc (.call (.ref fa) #[[.ref a],[]]) (λr s'=>r=.ok (.ret (.bool true))/\OldK g.heap s'.heap/\s'.os=g.os/\RM s'.gens) g:=by
  intro H hO R hS O hA hK;have j:∀{b:Addr}{o:Obj},g.heap.get? b=some o->H b=none->(pF g.heap H).get? b=some o:=λe n=>wX e n
  have A:∀b,b≠a->b≠Pt->H b=none:=λb h1 h2=>by
   cases q:H b with
   |none=>rfl
   |some u=>exact absurd (hA b (by rw[q];simp)) (λz=>z.elim h1 h2)
  have aa:∀{b:Addr}{o:Obj}{X:Array P0}{Y:Nat},g.heap.get? b=some o->o.data=.dict X Y->H b=none:=λ{b o X Y} e d=>by
   refine A b (λz=>?_) λz=>?_
   .rw[z,ha]at e;cases e;cases d
   .rw[z,hPt]at e;cases e;cases d
  have D:∀{b:Addr}{m:Str->Option cB},g.heap.Ns b m->(pF g.heap H).Ns b m:=λ{b m} ⟨o,X,Y,e,d,r⟩=>#[o,X,Y,j e (aa e d),d,r]
  have Q:K.In (pF g.heap H):=λb o e=>j (KX b o e) (by
   cases q:H b with
   |none=>rfl
   |some u =>
    rcases hA b (by rw[q];simp)with z|z
    .subst z;rw[hK (by rw[q];simp)]at e;cases e
    .rw[z,hKP]at e;cases e)
  have ac:OI (pF g.heap H) c Pt:=by
   have(o,Z,S,tf,G,tg,ab,L,tt,J,e2,e3,r1,r2,r3,r4,r5,r6,r7):=hC;refine#[o,Z,S,tf,G,tg,ab,L,tt,j J (A c (λz=>?_) r7),e2,e3,r1,r2,r3,r4,r5,r6,r7];rw[z,ha]at J;cases J;cases e3
  have ad:uq (pF g.heap H) mg:=by
   have(bm,ob,b1,b2,U,b4,b5,b6):=B.ex;refine#[bm,ob,b1,b2,j U (A bm (λz=>?_) λz=>?_),b4,b5,b6]
   .rw[z,ha]at U;cases U;cases b6
   .rw[z,hPt]at U;cases U;cases b6
  have hM:Mod K mg (pF g.heap H):=#[Q,D hns,#[mb,D l,hbb],let⟨mc,h1,h2⟩:=hlim;#[mc,D h1,h2]];have e0:vF P w K mg (pF g.heap H) Uc [] g H:=#[rfl,hM,λb o e=>Af e,Tt (uG _ _),trivial,λb l=>absurd (show b∈([]:List Addr)from l) (by simp),O,.of_eq hg];refine PM ((F _ Q (D hns) ac ad).run Uc [] g H #[[.ref a],[]] [.ref a] [.ref a] _ _ hr e0 (hbind g (.ref a)) (.cons rfl .nil) (hsp H hO R hS)) λr s' h=>?_
  cases r with
  |error e=>exact Nx h
  |ok fl =>
   cases fl with
   |next=>exact Nx h
   |brk=>exact Nx h
   |cont=>exact Nx h
   |ret u =>
    have(v,H',os,T,un,E,r',q):=h;have q':v=.bl true:=q;subst q';obtain rfl:u=Value.bool true:=r'
    have M:∃more,s'.heap.get? Pt=some (Sh (#[]++more)):=by
     have(more,e):=un.tbls Pt #[] R;exact#[more,E Pt _ e]
    have keep:∀b o,b≠Pt->g.heap.get? b=some o->s'.heap.get? b=some o:=λb o y e=>by
     cases q:H b with
     |none=>exact un.keep b o e q (by intro z;exact absurd (show b∈([]:List Addr)from z) (by simp)) (by simp)
     |some u =>
      rcases hO b with z|z|⟨ob,xs,z⟩
      .rw[q]at z;cases z
      .exact absurd z y
      .have z2:=un.frzs b ob _ z;have(J,_):=O b _ z;have(e2,_):=E b _ z2;rw[e]at J;cases J;exact e2
    refine#[rfl,#[λb o e=>?_,λb o e=>?_],os,T]
    .by_cases y:b=Pt
     .subst y;rw[hPt]at e;cases e;have(more,et):=M;exact .inr (.inl #[(hC.tab hPt).isCodeTable,rfl,#[],more,rfl,et])
     .exact .inl (keep b o y e)
    .by_cases y:b=Pt
     .subst y;have(more,et):=M;exact#[_,et]
     .exact#[o,keep b o y e]
 cases hk:K.lookup a with
 |some o =>
  have e:=KX a o hk;rw[ha]at e
  cases e
  refine core (λb=>if b=Pt then some (.tbl #[])else none) (λb=>?_) (if_pos rfl) (.inr #[_,I.toArray,_,hk,rfl,rfl,rfl,by rw[sE,N];exact hl,by simpa using rv]) (λb u z=>?_) (λb z=>?_) λz=>absurd (if_neg aP) z
  .by_cases l:b=Pt
   .exact .inr (.inl l)
   .exact .inl (if_neg l)
  .by_cases l:b=Pt
   .have C:=(if_pos l).symm.trans z
    cases C
    subst l;exact hPt
   .have C:=(if_neg l).symm.trans z
    cases C
  .by_cases l:b=Pt
   .exact .inr l
   .exact absurd (if_neg l) z
 |none =>
  refine core (λb=>if b=Pt then some (.tbl #[])else if b=a then some (.frz {cls:=.type "list",data:=.seq I.toArray} (.lst (ns.map V.int)))else none) (λb=>?_) (if_pos rfl) (.inl (.inr #[{cls:=.type "list",data:=.seq I.toArray},?_])) (λb u z=>?_) (λb z=>?_) λ_=>hk
  .by_cases l:b=Pt
   .exact .inr (.inl l)
   .by_cases p:b=a
    .exact .inr (.inr #[_,_,(if_neg l).trans (if_pos p)])
    .exact .inl ((if_neg l).trans (if_neg p))
  .exact(if_neg aP).trans (if_pos rfl)
  .by_cases l:b=Pt
   .have C:=(if_pos l).symm.trans z
    cases C
    subst l;exact hPt
   .by_cases p:b=a
    .have C:=((if_neg l).trans (if_pos p)).symm.trans z
     cases C
     subst p;exact#[ha,by rw[bC];exact hl,I,_,rv,ha]
    .have C:=((if_neg l).trans (if_neg p)).symm.trans z
     cases C
  .by_cases l:b=Pt
   .exact .inr l
   .by_cases p:b=a
    .exact .inl p
    .exact absurd ((if_neg l).trans (if_neg p)) z
theorem Dy {l:RJ}{K:Params->bA}{sp:bA->Sp}(hn:l.most=some n)(hn2:n<=mC)(hdf:d.params.defaults=[])(hr:fB k Uc)(hY:∀(w:FT) (h:Heap),J w h->(K w.params).In h)(ht1:(recsOf q).find? (λe=>e.name == tn)=some S)(ht2:∀w:FT,U8 (K w.params) tn=some (c,Pt))(ht3:∀w:FT,(K w.params).lookup Pt=none)(F:∀(w:FT) (mg:Str->Option cB) (y:Addr) (h:Heap),(K w.params).In h->h.Ns ML mg->mg d.name=some (.ref y) ->
   ∃B:rE,(∀(s:eT) (u:cB),UH s B #[[u],[]] [(x,u)]) /\
    ∀j:Heap,(K w.params).In j->j.Ns ML mg->OI j c Pt->uq j mg->bH l.prog w (K w.params) mg j eZ k y B [x] (sp (K w.params)))(hsp:∀(K:bA) (H:Hp) (a:Addr) (ns:List Int),ns.length<=n->Dw Pt H->H Pt=some (.tbl #[])->bu K H a (ns.map V.int)->sp K [.ref a] H (λv _=>v=.bl true) λ_ _ _=>False):
  Vo q p X J l.row.toRowW d [] (λf D=>Vl f D):=by
 refine Att.xw hn hdf λw I E mg mb y o Z cd U a D ns G Y ho hd M z t r m L=>?_;have C:=hY w _ Y;have(B,N,Q):=F w mg y _ C G.T.g z;have(R,A):=PySem.W.tab_of G.T C ht1 (ht2 w);exact BK C G.T.g G.T.b G.T.builtins G.T.nolimit L t r (FA m hn2) hr R A (ht3 w) ⟨G.T.bmain⟩ Q N (λH P A O=>hsp _ H a ns m P A O)
end L2
namespace G34
open PySem L2
structure JK(P:sC) (w:FT) (K:bA) (mg:Str->Option cB) (base:Heap) (k:Nat) (ps:List Str) (sp:Sp) (f:Addr) (fd:rE):Prop where
 ok:bH P w K mg base eZ k f fd ps sp
 fa:UR f base
 bd:Binds K fd ps []
noncomputable def Gw(d:Int->Option Tm):Hd->List Tm->Tm
 |.gap n,ks=>(d n).getD (.mk (.gap n) ks)
 |h,ks=>.mk h ks
mutual
noncomputable def nI(d:Int->Option Tm):Tm->Tm
 |.mk h ks=>Gw d h (yo d ks)
noncomputable def yo(d:Int->Option Tm):List Tm->List Tm
 | []=>[]
 |k::r=>nI d k::yo d r
end
theorem vj (d:Int->Option Tm):∀ks,yo d ks=ks.map (nI d)
 | []=>by rw[yo];rfl
 |k::r=>by rw[yo,vj d r];rfl
theorem AU (d:Int->Option Tm)(h:Hd)(ks:List Tm):nI d (.mk h ks)=Gw d h (ks.map (nI d)):=by rw[nI,vj]
noncomputable def zM(K:bA)(c:Addr)(q:Str)(d:Addr)(o:Int->Option Tm):Sp:=λp H Q _=>∃(v:V) (l:Addr) (hd:Hd) (ks e:List Tm) (m:List V),p=[v,.ref l]/\Rp K H (enc (.mk hd ks)) v/\fg hd ks.length=true/\H l=some (.lst m)/\bN K H (e.map enc) m/\e.length=ks.length/\ks.length<=900/\nA K enc H d o/\H c=some (mR c q) /\
 ∀j g,aF H g->Rp K g (enc (Gw o hd e)) j->Q j g
noncomputable def wj(K:bA)(p o c:Addr)(q:Str)(d:Addr)(l:Int->Option Tm):Sp:=λm H Q _=>∃(v:V) (e:Tm),m=[v,.ref p,.ref o]/\Rp K H (enc e) v/\Wf e/\e.size<=400/\nA K enc H d l/\H c=some (mR c q) /\
 ∀j g,aF H g->Rp K g (enc (nI l e)) j->Q j g
noncomputable def Fin(g:Int->Option Tm)(d:Tm):List (Tm×Bool)->List Tm->Prop
 | [],ts=>ts=[nI g d]
 |(t,false)::ws,ts=>Fin g d ws (ts++[nI g t])
 |(t,true)::ws,ts=>∃j e,ts=j++e/\e.length=t.ks.length/\Fin g d ws (j++[Gw g t.hd e])
theorem Fin.many :∀{ks:List Tm}{ts:List Tm},Fin e d g (ts++ks.map (nI e))->Fin e d (ks.map (λk=>(k,false))++g) ts
 | [],ts,h=>by simpa using h
 |k::r,ts,h=>Fin.many (ks:=r) (ts:=ts++[nI e k]) (by simpa using h)
noncomputable def wt:Tm×Bool->Nat
 |(t,false)=>2*t.size
 |(_,true)=>1
noncomputable def wm(l:List (Tm×Bool)):Nat:=(l.map wt).sum
noncomputable def yp(K:bA)(H:Hp):List (Tm×Bool)->List V->Prop
 | [],us=>us=[]
 |(t,b)::ws,us=>∃d a v,us=d++[.ref a]/\bQ K H a [v,.bl b]/\Rp K H (enc t) v/\yp K H ws d
theorem yp.kt (k:Kt H g):∀{d:List (Tm×Bool)}{us:List V},yp K H d us->yp K g d us
 | [],_,h=>h
 |_::_,_,⟨us',a,v,e,q,r,h⟩=>#[us',a,v,e,q.kt k,r.kt k,yp.kt k h]
theorem yp.app (g:yp K H B us):∀{A:List (Tm×Bool)}{d:List V},yp K H A d->yp K H (A++B) (us++d)
 | [],d,h=>by obtain rfl:d=[]:=h;simpa using g
 |_::_,_,⟨l',a,v,e,q,r,h⟩=>#[us++l',a,v,by rw[e,M6],q,r,yp.app g h]
theorem yp.len :∀{d:List (Tm×Bool)}{us:List V},yp K H d us->us.length=d.length
 | [],_,h=>by rw[show _=[]from h];rfl
 |_::_,_,⟨us',a,v,e,q,r,h⟩=>by rw[e,j3,yp.len h];rfl
theorem wq :∀d:List (Tm×Bool),d.length<=wm d
 | []=>mu _
 |(t,b)::d=>by
  have:=wq d
  have:1<=wt (t,b):=by
   cases b
   .show 1<=2*t.size;have:=Tm.size_pos t;omega
   .exact mu _
  unfold wm at *;simp only[MW,M0,Uq];omega
theorem Tm.ny :∀{ks:List Tm},k∈ks->k.size<=Tm.sizes ks
 |a::r,h=>by
  rw[Tm.b7];rcases vy.mp h with rfl|h
  .omega
  .have:=Tm.ny h;omega
theorem tM :∀(ks:List Tm) (d:List (Tm×Bool)),wm (ks.map (λk=>(k,false))++d)=2*Tm.sizes ks+wm d
 | [],d=>by simp[Tm.sizes]
 |k::r,d=>by
  have:=tM r d;rw[Tm.b7];unfold wm at *;simp only[M0,Qi,Uq,wt]at *;omega
structure BI(K:bA) (H:Hp) (pf:Int->Option Tm) (root:Tm) (lt lw:Addr) (m:Nat) (ws:List (Tm×Bool)) (ts:List Tm) (us vs:List V) (H':Hp):Prop where
 s:aF H H'
 ht:H' lt=some (.lst us)
 rt:bN K H' (ts.map enc) us
 hw:H' lw=some (.lst vs)
 wa:yp K H' ws vs
 wf:∀p∈ws,Wf p.1/\p.1.size<=root.size
 fin:Fin pf root ws ts
 mm:wm ws=m
 bd:ts.length+m<=2*root.size
noncomputable def BW(K:bA)(H:Hp)(q:Int->Option Tm)(d:Tm)(v:V)(z y lt e:Addr)(m:Nat)(g:St)(A:Hp):Prop:=∃w u t r j p o l,g=[some v,some (.ref z),some (.ref y),some (.ref lt),some (.ref e),w,u,t,r]/\BI K H q d lt e m j p o l A
structure BN(K:bA) (H:Hp) (pf:Int->Option Tm) (root:Tm) (v:V) (fI fM lt lw:Addr) (m:Nat) (σ:St) (H':Hp):Prop where
 x:∃m',m' < m/\BW K H pf root v fI fM lt lw m' σ H'
theorem aO :Nm VS (ak fU):=by decide
theorem eW :Lm VS (ak fU):=by decide
theorem dW :aK VS Wt (ak fU):=#[rfl,rfl,rfl,by decide,rfl,by decide,by decide]
theorem Dz (F:ic K "from_below" "from_below" fU f fd)(IN:dH P w K mg base "inner_terms" 2 Wi (rP K) fI ifd)(a3:JK P w K mg base 2 W0 (zM K c q d pf) fM mfd)(z_len:mg "len"=none):bH P w K mg base eZ 4 f fd Wt (wj K fI fM c q d pf):=by
 refine F.ok dW (λvs H Q E h=>?_) (λcy A bs s H vs Q E hr h=>?_)
 .have(_,_,rfl,_):=h;rfl
 have(v,l,rfl,rv,wf,hz,pa,hc,k):=h;refine#[_,(Z5 (sa dW.nd eW 3 (bh ao)) (Z5 (Z2 dW.nd eW 4 (@bh _ _ _ _ (Z1 (Zg (cZ (va aO 0) (Za wY))) ao))) (Z5 (@pJ _ _ _ _ _ _ RD (pL (va aO 4) (λ_=>rfl)) (Z5 (Zp (CJ OL OQ P4 CL (va aO 4)) (Zb (Zi (ga dW.nd eW 5) (aJ (ga dW.nd eW 6) aX)))) (Z5 (Z2 dW.nd eW 7 (@tu _ (λf sp=>f=fI/\sp=rP K) _ _ _ _ _ _ _ (λf sp h=>by have(rfl,rfl):=h;exact#[2,_,_,IN.ok,hr.mono (),IN.kp,IN.bd]) (va aO 1) (Za (va aO 5)) (by rfl) (by rfl))) (Ze (@kI _ _ _ _ _ _ _ _ (PW.pt (@uH _ _ _ _ _ _ _ (pL (va aO 6) (λ_=>rfl)) (@sr _ _ _ _ (@Cr _ _ _ _ (pL (va aO 7) (λ_=>rfl)))))) (Z5 (Z2 dW.nd eW 8 (Zm bK (Z4 (Za (va aO 3))) (Z4 (Za (va aO 7))))) (Ze (Zp (@bh _ _ _ _ (Z1 (Dt a3.ok (hr.mono ()) a3.fa a3.bd (va aO 2) (Z1 (va aO 5) (Z1 (@bZ _ _ _ _ _ _ _ _ _ _ iC (va aO 3) (bL (va aO 8)) cW) ao))) ao)) (HY (va aO 3) (bL (va aO 8)))))) (Z5 (@cC _ _ _ _ (Z8 MN MO cQ (va aO 4) (Z1 (Zg (cZ (va aO 5) (Za wY))) ao)) (by rfl)) (Ze (@cC _ _ _ _ (Z8 Oc Od jF (va aO 4) (Z1 (Zc (ak fU) VS ["part"] [] (@cJ _ _ _ _ (@uW _ _ _ _ _ _ _ _ _ _ _ (va aO 7) cW cW (bL (qM mX aq)))) (λ_ _ _ _=>(Z3 (i:=0) (show(["part"]:List Str).Nodup by decide))) (λ_ _ _ _=>(Zg (cZ (va (show Nm ["part"] _ by left) 0) (Za wY))))) ao)) (by rfl))))))))) (Ze (Zo (Z9 aN (va aO 3))))))),?_]
 right
 right
 refine pZ ?_;intro N1 N2 N3 c1 c2 c3;ext;intro lt bj;have s1:=ae bj (.lst []);have h1:upd H lt (.lst []) lt=some (.lst []):=af;generalize upd H lt (.lst [])=H1 at s1 h1|-;ext;intro a2 b7;have s2:=ae b7 (.tup [v,.bl false]);have h2:bQ K (upd H1 a2 (.tup [v,.bl false])) a2 [v,.bl false]:=bQ.of af;generalize upd H1 a2 (.tup [v,.bl false])=H2 at s2 h2|-;ext;intro o az;have s3:=ae az (.lst [.ref a2]);have h3:upd H2 o (.lst [.ref a2]) o=some (.lst [.ref a2]):=af;generalize upd H2 o (.lst [.ref a2])=H3 at s3 h3|-;have aa:=s1.free (s2.free az);have ad:lt≠o:=au (s2 _ _ h1) az;ext;refine#[BW K H pf l v fI fM lt o,#[2*l.size,_,_,_,_,[(l,false)],[],[],[.ref a2],rfl,#[s1.trans (s2.trans s3),s3 _ _ (s2 _ _ h1),.nil,h3,#[[],a2,v,rfl,h2.same s3,rv.same (s1.trans (s2.trans s3)),rfl],λp hp=>by rw[pD.mp hp];exact#[wf,mu _],rfl,by simp[wm,wt],by simp]],?_];rintro m σ H4 ⟨_,_,_,_,I,ts,us,vs,rfl,b⟩;have cr:l.size<=400:=hz;have bw:=b.rt.length;rw[bC]at bw;have br:=b.bd;refine#[_,rfl,_,.inl #[vs,bu.of b.hw,rfl],?_]
 cases I with
 |nil =>
  obtain rfl:vs=[]:=b.wa;obtain rfl:ts=[nI pf l]:=b.fin;have(u,_,rfl,ru,r0):=b.rt.inv;obtain rfl:=r0.iE;have ht:=b.ht;refine oU rfl ?_;ext;exact k _ _ b.s ru
 |cons p I =>
 have(t,bb):=p;have(g,a,vt,rfl,a6,a8,wa):=b.wa;have(am,ap):=b.wf _ (.head _);have bv:=wq I;have co:=wa.len;have bf:=wq ((t,bb)::I);rw[b.mm,MW]at bf;refine xX (by simp) ?_;refine#[BN K H pf l v fI fM lt o m,λ_ _ z=>z.x,?_];have hw:=b.hw;have b3:(g++[V.ref a])[(g++[V.ref a]).length-1]?=some (.ref a):=by simp
 have k5:Kt H4 (upd H4 o (.lst (g++[V.ref a]).dropLast)):=Kt.lst hw _;have s5:aF H (upd H4 o (.lst (g++[V.ref a]).dropLast)):=b.s.tw aa _;have ah:upd H4 o (.lst (g++[V.ref a]).dropLast) o=some (.lst g):=by rw[TY];exact af
 have ai:upd H4 o (.lst (g++[V.ref a]).dropLast) lt=some (.lst us):=by rw[ay ad];exact b.ht
 have cj:t.size<=900:=by have:t.size<=l.size:=ap;omega
 have ck:t.ks.length<=900:=by have:=yf t;omega
 have aj:=a6.kt k5;have W:=a8.kt k5;have ax:=b.rt.kt k5;have an:=wa.kt k5;refine sW ?_;intro M1 M2 d1 d2;ext;generalize upd H4 o (.lst (g++[V.ref a]).dropLast)=H5 at k5 s5 ah ai aj W ax an|-;intro l6 H6 j s6 bk h6 r6;have bp:=s6 _ _ ah;have a0:=s6 _ _ ai;have cn:lt≠l6:=au ai bk;have bt:o≠l6:=au ah bk;have aw:=ax.same s6;have a5:=an.kt (Kt.same s6);have al:=W.same s6;have av:=s5.trans s6;have Y:=r6.length;rw[bC]at Y;have hk:t.ks.length<t.size:=yf t;clear k5 s5 ah ai aj W ax an a6 a8 wa hw b3;refine d2 _ _ ?_;refine AE (bb=true\/t.ks=[]) (λC hA hB=>?_) (λhy=>?_) (λhn=>?_)
 .refine#[_,rfl,bb,rfl,?_]
  cases bb with
  |true=>exact hA (.inl rfl)
  |false =>
   refine#[_,rfl,_,.inl #[j,bu.of h6,rfl],?_]
   by_cases e:t.ks=[]
   .have:j.length=0:=by rw[Y,e];rfl
    obtain rfl:=NH.mp this;exact hA (.inr e)
   .obtain⟨x,r,rfl⟩:∃x r,j=x::r:=by
     cases j with
     |nil=>exact absurd (NH.mp Y.symm) e
     |cons x r=>exact#[x,r,rfl]
    exact hB (λz=>z.elim FG e)
 .obtain⟨t0,D,cc,b6,cb,bz⟩:∃t0 D,ts=t0++D/\D.length=t.ks.length/\Fin pf l I (t0++[Gw pf t.hd D])/\wm I<m:=by
   have hm:wm ((t,bb)::I)=m:=b.mm;have S:=b.fin;have cl:=Tm.size_pos t
   cases bb with
   |true =>
    have(t0,D,e1,e2,e3):=S;exact#[t0,D,e1,e2,e3,by rw[<-hm];simp[wm,wt]]
   |false =>
    have e:t.ks=[]:=hy.resolve_left FG;refine#[ts,[],by simp,by rw[e],?_,by rw[<-hm];simp[wm,wt];omega]
    have e2:nI pf t=Gw pf t.hd []:=by
     have(h,ks):=t;obtain rfl:ks=[]:=e;exact AU pf h []
    rw[<-e2];exact S
  subst cc;rw[m3]at aw;have(R,J,rfl,ba,a9):=aw.split;have l0:=ba.length;have bx:=a9.length;rw[bC]at l0 bx;have(th,tk):=t;have ch:D.length=tk.length:=b6;have cg:j.length=tk.length:=Y;have ar:fg th tk.length=true:=by cases am with|mk ar _=>exact ar
  have e7:iW (R++J) (some (((R++J).length:Int) - (j.length:Int))) none=J:=by
   rw[show((R++J).length:Int) - (j.length:Int)=((R.length:Nat):Int) by rw[j3];omega,qG,List.drop_left]
  ext;intro l7 b5;rw[e7];have L:=ae b5 (.lst J);have h7:upd H6 l7 (.lst J) l7=some (.lst J):=af;generalize upd H6 l7 (.lst J)=H7 at L h7|-;have a7:=av.trans L;have cm:=pa.same a7;have cv:=a7 _ _ hc;have ce:=al.same L;have cf:=a9.same L;have ci:tk.length<=900:=by have:tk.length<(Tm.mk th tk).size:=hk;omega
  ext;intro v8 H8 s8 r8;have as:=L.trans s8;ext;intro p9 bi;have s9:=ae bi (.lst [v8]);have h9:upd H8 p9 (.lst [v8]) p9=some (.lst [v8]):=af;have bm:=s9 _ _ (as _ _ a0);have n9:lt≠p9:=au (as _ _ a0) bi;generalize upd H8 p9 (.lst [v8])=H9 at s9 h9 bm|-;have ac:=as.trans s9;have b2:(R++J).length+[v8].length<=mC:=small (by rw[j3];simp at br|-;omega);have cx:(0:Int)<=((R++J).length:Int) - (j.length:Int):=by rw[j3];omega
  have cw:((R++J).length:Int) - (j.length:Int)<=((R++J).length:Int):=()
  have cd:(R++J).take (((R++J).length:Int) - (j.length:Int)).toNat=R:=by
   rw[show(((R++J).length:Int) - (j.length:Int)).toNat=R.length by rw[j3];omega,List.take_left]
  have O:∀ys,Kt H9 (upd H9 lt (.lst ys)):=λys=>Kt.lst bm _;ext;rw[cd];refine#[wm I,bz,_,_,_,_,I,t0++[Gw pf th D],R++[v8],g,rfl,#[(av.trans ac).tw bj _,af,?_,?_,?_,?_,cb,rfl,?_]]
  .rw[m3];exact((ba.same ac).kt (O _)).append (.one ((r8.same s9).kt (O _)))
  .rw[ay ad.symm];exact ac _ _ bp
  .exact(a5.kt (Kt.same ac)).kt (O _)
  .exact λp hp=>b.wf p (.tail _ hp)
  .simp at br|-;omega
 .have eb:bb=false:=by cases bb with|true=>exact absurd (.inl rfl) hn|false=>rfl
  subst eb;have hm:wm ((t,false)::I)=m:=b.mm;have cq:Tm.sizes t.ks+1=t.size:=by have(h,ks):=t;rw[Tm.size,Tm.ks,Nat.add_comm]
  have ct:2*t.size+wm I=m:=by rw[<-hm];simp[wm,wt]
  ext;intro N b0;have L:=ae b0 (.tup [vt,.bl true]);have h7:bQ K (upd H6 N (.tup [vt,.bl true])) N [vt,.bl true]:=bQ.of af;generalize upd H6 N (.tup [vt,.bl true])=H7 at L h7|-;have b9:=L _ _ bp;have cp:g.length<mC:=bD ();have k8:Kt H7 (upd H7 o (.lst (g++[.ref N]))):=Kt.lst b9 _;have s8:aF H (upd H7 o (.lst (g++[.ref N]))):=(av.trans L).tw aa _;have bn:upd H7 o (.lst (g++[.ref N])) o=some (.lst (g++[.ref N])):=af;have bo:upd H7 o (.lst (g++[.ref N])) lt=some (.lst us):=by rw[ay ad];exact L _ _ a0
  have b8:upd H7 o (.lst (g++[.ref N])) l6=some (.lst j):=by rw[ay bt.symm];exact L _ _ h6
  have a4:yp K (upd H7 o (.lst (g++[.ref N]))) ((t,true)::I) (g++[.ref N]):=#[g,N,vt,rfl,h7.kt k8,(al.same L).kt k8,(a5.kt (Kt.same L)).kt k8];have bc:=(aw.same L).kt k8;have be:=(r6.same L).kt k8;have cs:(sR j none none (some (-1))).length<=mC:=by rw[pW,NP];exact small ()
  ext;generalize upd H7 o (.lst (g++[.ref N]))=H8 at k8 s8 bn bo b8 a4 bc be|-;intro l9 b4;rw[pW];have s9:=ae b4 (.lst j.reverse);have h9:upd H8 l9 (.lst j.reverse) l9=some (.lst j.reverse):=af;generalize upd H8 l9 (.lst j.reverse)=H9 at s9 h9|-;have r9:=(be.same s9).reverse;rw[<-Q9]at r9;ext;refine fS (K:=K) (xs:=j.reverse) (λi σ U G=>(∃y,σ=[y])/\aF H9 G/\U.length=i/\yp K G (((t.ks.reverse.take i).reverse).map λk=>(k,false)) U) #[#[_,rfl],aF.refl _,rfl,rfl] ?_ (small (by rw[NP];omega)) ?_ ?_ ?_
  .exact λi σ U G _ ⟨_,_,e,_⟩=>Tt e
  .exact λi σ U G _ ⟨_,T,_⟩=>bu.of (T _ _ h9)
  .rintro i xv σ U G hx ⟨⟨_,rfl⟩,T,a1,ab⟩;have(tt,bg,rx):=r9.get' hx;rw[rj]at bg;have(kk,ag,rfl):=ur.mp bg;ext;intro X Z;have M:=ae Z (.tup [xv,.bl false]);refine#[#[_,rfl],T.trans M,by rw[j3,a1];rfl,?_];rw[fZ ag,Qs];exact#[U,X,xv,rfl,bQ.of af,rx.same (T.trans M),ab.kt (Kt.same M)]
  .rintro σ U G ⟨_,T,a1,ab⟩ X Z;rw[NP,Y,<-NP,MS,TZ]at ab;rw[NP]at a1;have M:=ae Z (.lst U);have ca:upd G X (.lst U) X=some (.lst U):=af;generalize upd G X (.lst U)=H11 at M ca|-;have B:=(s9.trans T).trans M;have bq:=B _ _ bn;have b2:(g++[V.ref N]).length+U.length<=mC:=small (by rw[j3];simp;omega);have cu:wm ((t,true)::I)=1+wm I:=by simp[wm,wt]
   have b1:2*Tm.sizes t.ks+wm ((t,true)::I)<m:=()
   ext;have O:Kt H11 (upd H11 o (.lst ((g++[V.ref N])++U))):=Kt.lst bq _;refine#[_,?_,_,_,_,_,t.ks.map (λk=>(k,false))++(t,true)::I,ts,us,_,rfl,#[(s8.trans B).tw aa _,?_,(bc.same B).kt O,af,?_,?_,?_,rfl,?_]]
   .rw[tM];exact b1
   .rw[ay ad];exact B _ _ bo
   .exact yp.app ((a4.kt (Kt.same B)).kt O) ((ab.kt (Kt.same M)).kt O)
   .intro p hp;rcases MH.mp hp with h|h
    .have(kk,ag,rfl):=NV.mp h;refine#[by cases am with|mk _ wk=>exact wk kk ag,?_]
     have:=Tm.ny ag;show kk.size<=l.size;have:t.size<=l.size:=ap;omega
    .rcases vy.mp h with rfl|h
     .exact⟨am,ap⟩
     .exact b.wf p (.tail _ h)
   .refine Fin.many #[ts,t.ks.map (nI pf),rfl,by rw[bC],?_];have S:=b.fin;have(th,tk):=t;rw[Tm.hd,Tm.ks,<-AU];exact S
   .rw[tM];omega
end G34
namespace G34
open PySem L2
noncomputable abbrev aC:Stmt:=(bM bU).getD 0 (.Pass #[0,0,0,0])
theorem Fp {kV:cB}(lk:l.get? f=some #[G,od,.func (QK name e j m d r z kV q y B u ct),v])(S:qg N ps D d)(C:yn l r D p)(len:∀o H Q E,sp o H Q E->o.length=ps.length)(hcd:∀o H Q E (h:Heap),sp o H Q E->mU P w H h->h.CodeRec u e)(hbody:∀(A:MM) (g:List Env) (s:eT) (H:Hp) (o:List V) (Q:VK) (E:XK),fB k (A.deeper (Pj e d s.heap.objs.size f u r))->sp o H Q E ->
   ∃t,qy (qS eZ P w K mg l N e d f u r A g s H E).yU m t/\t {nx:=λ_ I=>Q .gq I,rt:=Q} (nH N o p) H):
  bH P w K mg l eZ (k+1) f (QK name e j m d r z kV q y B u ct) ps sp :=
 HZ lk S C len hcd λA g s H o Q E hr h=>let⟨t,h1,h2⟩:=hbody A g s H o Q E hr h;#[t,h1.yU,h2]
theorem JL :(qS o P w K mg j N g d f m l A e s H E).yU.K=K:=rfl
theorem Ib :(qS o P w K mg j N g d f m l A e s H E).K=K:=rfl
theorem JM {m:Type}{p:m->Prop}{sp:m->Sp}(h:∀a,p a->bH P w K mg d r k f o ps (sp a)):bH P w K mg d r k f o ps (λg H Q E=>∃a,p a/\sp a g H Q E) :=
 #[λg H Q E ⟨a,l,q⟩=>(h a l).len g H Q E q,λA e s H j t g Q E hr v y u ⟨a,l,q⟩=>(h a l).run A e s H j t g Q E hr v y u q]
theorem mh (l:jD H Pt d q)(g:rA Pt H j):Kt H j:=λa m r=>by
 have ne:a≠Pt:=λz=>by
  rcases l with t|⟨c,t,_⟩<;>rcases r with e|⟨o,e⟩<;>(rw[z,t]at e;cases e)
 rcases r with e|⟨o,e⟩
 .exact .inl (g _ _ ne e)
 .exact .inr #[o,g _ _ ne e]
noncomputable def om:Pos:=match aC with
 |.FunctionDef _ _ _ _ _ _ _ _ _ p=>p
 |_=>#[0,0,0,0]
noncomputable abbrev iK:Str:="with_gaps_put.<locals>.make"
noncomputable def BL(i:Nat):Pos:=match(bM bU).getD 1 (.Pass #[0,0,0,0])with
 |.Return (some (.Call (.Name _ a) [.Name _ b,.Name _ c,.Name _ d] [] e)) g=>[a,b,c,d,e,g].getD i a
 |_=>#[0,0,0,0]
theorem BO :bM bU=[.FunctionDef "make" (fj aC) (bM aC) [] none [] (ak aC) none "make" om,.Return (some (.Call (.Name "from_below" (BL 0)) [.Name "term" (BL 1),.Name "inner_terms" (BL 2),.Name "make" (BL 3)] [] (BL 4))) (BL 5)]:=by kernel_rfl
def DA(K:bA)(Pt:Addr):Sp:=λm H Q _=>∃(v:V) (d:Addr) (e:Tm) (l:Int->Option Tm),m=[v,.ref d]/\Rp K H (enc e) v/\Wf e/\e.size<=400/\nA K enc H d l/\jD H Pt om iK/\Pt≠d /\
 ∀j g,rA Pt H g->jD g Pt om iK->Rp K g (enc (nI l e)) j->Q j g
theorem Ic (h:∀n,hd≠.gap n)(d:Int->Option Tm)(ks:List Tm):Gw d hd ks=.mk hd ks:=by
 cases hd<;>first|rfl|exact absurd rfl (h _)
theorem BP (r:Rp K H (enc (.mk hd ks)) v):∃a l d,v=.ref a/\bQ K H a (V.str l::d)/\((∃n,hd=.gap n/\l="gap"/\d=[.int n])\/((∀n,hd≠.gap n)/\l≠"gap")):=by
 rw[cY]at r
 cases hd<;>unfold oS at r<;>have(a,q,rfl,m,j):=r.bq<;>have(u,d,rfl,p,g):=j.inv<;>obtain rfl:=p.bj
 case gap n =>
  have(t,_,rfl,o,e):=g.inv;obtain rfl:=e.iE;obtain rfl:=o.di;exact#[a,_,_,rfl,m,.inl #[n,rfl,rfl,rfl]]
 all_goals exact#[a,_,_,rfl,m,.inr #[nofun,by decide]]
theorem cf :Nm ["here","inner","puts"] (ak aC):=by decide
theorem mT :qg ["here","inner","puts"] W0 ["puts"] (ak aC):=#[rfl,rfl,rfl,by decide,rfl,rfl,by decide,by decide,by decide,by decide,by decide]
theorem Fq {kV:cB}(X:dH P w K mg base "with_inner" 1 WZ (zI K) gW wfd)(lk:base.get? f=some #[N,od,.func (QK "make" e (fj aC) (bM aC) (ak aC) r .none kV g y D (.ref c) ct),p])(C:yn base r ["puts"] [.ref d]):
  bH P w K mg base eZ 2 f (QK "make" e (fj aC) (bM aC) (ak aC) r .none kV g y D (.ref c) ct) W0 (zM K c e d pf):=by
 refine Fp lk mT C (λt H Q E h=>?_) (λt H Q E h9 h q=>?_) (λA m s H t Q E hr h=>?_)
 .have(_,_,_,_,_,_,rfl,_):=h;rfl
 .have(_,_,_,_,_,_,_,_,_,_,_,_,_,_,B,_):=h;exact BJ q B
 have(v,l,hd,ks,O,Z,rfl,u,U,hl,rs,S,hz,M,B,k):=h;refine#[_,(Ze (Zo (@wZ _ _ _ _ _ _ _ _ (Zj bR (Z9 aZ (va cf 0)) aB) (@xO _ _ _ _ _ _ _ _ _ (mK hr) (va cf 2) (Z9 aZ (va cf 0)) (va cf 0) #[rfl,rfl,rfl,rfl]) (Z0 X (Z1 (va cf 0) (Za (va cf 1))))))),?_]
 right
 try dsimp only[JL,Ib]
 have(a,T,L,rfl,sq,z):=BP u;have a0:=Bw (V.str T) L;rcases z with⟨n,rfl,rfl,rfl⟩|⟨hn,hf⟩
 .obtain rfl:ks=[]:=by simpa[fg]using U
  obtain rfl:=NH.mp S;have(R,o,z,I):=M.get n (y0:=.mk (.gap n) []) u;have a1:jZ [V.str "gap",V.int n] 1=some (.int n):=bz (j:=1) rfl;ext;exact k _ _ (aF.refl _) I
 .ext;refine oU (Bx hf) ?_;ext;intro Y H1 G J;exact k _ _ G (by rw[Ic hn];exact J)
theorem lE :Nm WA (ak bU):=by decide
theorem lH :aK WA ["term","puts"] (ak bU):=#[rfl,rfl,rfl,by decide,rfl,by decide,by decide]
theorem K8 :∀x∈(ak aC).names,x.2=.free->(ak bU).names.lookup x.1=some .cell:=by decide
theorem K9 :∀j∈[1],(ak bU).names.lookup ((WA:List Str).getD j MY)=some .cell/\(ak aC).names.lookup ((WA:List Str).getD j MY)=some .free:=by decide
theorem Ft (F:zL K "with_gaps_put" "with_gaps_put" bU f X cd)(hC:OI base cd Pt)(B:uq base mg)(mF:mg "from_below"=some (.ref gF))(kF:NF K (.ref gF)=true)(bF:Binds K ffd Wt [])(mI:mg "inner_terms"=some (.ref gI))(WI:∀j,dH P w K mg j "with_inner" 1 WZ (zI K) gW wfd)(FB:∀(j:Heap) (Y c:Addr) (L:rE) (q:Str) (d:Addr) (pf:Int->Option Tm),JK P w K mg j 2 W0 (zM K c q d pf) Y L->bH P w K mg j eZ 4 gF ffd Wt (wj K gI Y c q d pf)):
  bH P w K mg base eZ 6 f X ["term","puts"] (DA K Pt):=by
 refine F.ok lH (λD H Q E h=>?_) (λA m s H D Q E hr h=>?_)
 .have(_,_,_,_,rfl,_):=h;rfl
 have(v,d,tm,pf,rfl,rv,wf,hz,pa,U,J,k):=h
 refine#[_,by
  rw[BO]
  exact zK (P:=Pt) (c:=cd) (g:=gF) (i:=2) (fr:=[1]) (k:=4) (fdg:=ffd) (psg:=Wt) (sp:=λf c t=>λD H Q E=>∃a:Addr×(Int->Option Tm),t=[.ref a.1]/\wj K gI f c iK a.1 a.2 D H Q E)
   rfl hC B (λ_=>rfl) lH.nd rfl (by kernel_rfl) K8 K9 (by
    intro j R z S T t lk C;refine JM λa e=>?_;subst e;have p:j.get? R=some #[.type "function",none,.func (QK "make" iK (fj aC) (bM aC) (ak aC) (cS (m6 eZ P w K mg base WA "with_gaps_put" (ak bU) f (.ref cd) A m s H E).yU.env (ak aC).names []) .none .none S ((mg "__name__").getD .none) none (.ref z) T),#[]]:=lk;exact FB j R z _ iK a.1 a.2 #[Fq (WI j) p C,#[_,_,_,_,p],.all λus hl=>match us,hl with|[_,_],_=>rfl]) (hr.mono ()) (by left) mF kF bF (cZ (va lE 0) (cZ (dh (v:=.ref gI) (by left) mI rfl) (Za (va lE 2)))),?_]
 right
 refine#[U,[.ref d],rfl,λR z Z l O=>?_]
 right
 have r:Kt H Z:=mh U O;have(M,N,V):=pa.x;have I:nA K enc Z d pf:=#[M,O _ _ J.symm N,λn=>#[λy e=>by have(u,e1,e2):=(V n).1 y e;exact#[u,e1,e2.kt r],(V n).2]];refine#[_,rfl,_,rfl,(d,pf),rfl,v,tm,rfl,rv.kt r,wf,hz,I,l.2,λv' H' G r'=>?_];exact k v' H' (λb o hb e=>G _ _ (O _ _ hb e)) (.inr #[z,G _ _ l.1,G _ _ l.2]) r'
end G34
namespace L2
open PySem PySem.Spec PyProof.Rows
open PySem.AutoSeq1 (wpAny_loadPart')
theorem DB (r:A.handled=none)(it l:Addr)(m:l≠it)(items:Array cB):
  Draws prog w A it [it,l] items.size (λi v=>items[i]?=some v) (λi h=>lN b h it l i/\nC b h l items) where
 live:=λ_ _ d=>d.1.got
 frame:=λ_ _ _ d p=>#[d.1.at λo e=>p it (by simp) o e,d.2.at λo e=>p l (by simp) o e]
 item:=λi s Q E q d t=>by
  refine jT d.1 d.2 (x:=items[i]) (by simp[q]) λy j g=>?_;exact t _ y s.toks (by simp[q]) #[j,d.2.extBut g.extBut m] g
 done:=λs Q E d u=>qe r d.1 d.2 (by simp) u
set_option maxRecDepth 100000 in
theorem Fv (b:Bool)(l:Addr)(items:Array cB):
  Meets (Px.«enumerate.__new__» #[[.type "enumerate",.ref l],[]]) (λ_ R s=>nC b s.heap l items /\
   R (.ok (.ret (.ref (s.heap.push (nF b l)).objs.size)))
    {s with heap:=(s.heap.push (nF b l)).push {cls:=.type "enumerate",data:=.fields #[.none,.bool false,.ref s.heap.objs.size,NK 0,.none,.none,]}}) :=
 .of_wp λp w A R s h=>by
  have(y,g,d,r,u):=s;have(e,h):=h;have q:=sub_enumerate;have m:nC b (Ve #[y,g,d,r,u]) l items:=e;have(o,j):=e.got;have(C,B,v,t):=o
  wp_walk using RI j
  refine wpAny_stack_any λz=>lj ?_
  split
  .rename_i c _ _ _ _ _
   cases(c == Value.type "enumerate")
   .wp_walk using RI j,yk m
    exact#[_,rfl,h]
   .wp_walk using RI j,yk m
    exact#[_,rfl,h]
  .wp_walk using RI j,yk m
   exact#[_,rfl,h]
end L2
namespace L2
open PySem PySem.Spec PyProof.Rows
theorem DC (j:nC b s.heap l items)(h:∀h',IsEnum h' (s.heap.objs.size+1) s.heap.objs.size 0 .none->lN b h' s.heap.objs.size l 0->h'.objs.size=s.heap.objs.size+2 ->
   (∀b o,s.heap.get? b=some o->h'.get? b=some o)->Q (.ref (s.heap.objs.size+1)) {s with heap:=h'}):
  u4 (L0 prog w) A (call (.type "enumerate") [.ref l]) Q E s:=by
 refine callType_new PySem.F.called_enumerate (by decide) (PySem.F.typeCall_enumerate_1 _) (PySem.F.newCall_enumerate_1 _) (λd=>PySem.F.args_object_init_2 d _) PySem.F.entry_enumerate_new (Fv b l items) #[j,?_];have g:(s.heap.push (nF b l)).objs.size=s.heap.objs.size+1:=Ob ..;have e:=zv (s.heap.push (nF b l)) (o:={cls:=.type "enumerate",data:=.fields #[.none,.bool false,.ref s.heap.objs.size,NK 0,.none,.none,]}) rfl;show _/\_;rw[g]at e|-;exact#[#[_,e,rfl],h _ e (Dj (lu _ (zv _ rfl))) (by rw[Ob,g]) λb o x=>lu _ (lu _ x)]
noncomputable def JN (K : bA) (b : Bool) (l : Addr) : It :=
  #[λi H => ∃ d x, oi K b H l d ∧ d[i]? = some x,
   λi H v e => ∃ p x, H p = none ∧ v = .ref p ∧ e = upd H p (.tup [.int i, x]) ∧ ∀ d, oi K b H l d -> d[i]? = some x,
   λi H => ∃ d, oi K b H l d ∧ d.length = i]
theorem BQ {K:bA}(e it l:Addr)(d1:e≠it)(d2:l≠it)(d3:l≠e):Turn P w K (.Tuple L x1 R) (JN K b l) [e,it] e
  (λi h=>(∃j,IsEnum h e it i j)/\lN b h it l i) where
 mem:=by simp
 obj:=λi h t c g=>by
  have((j,p),r):=t;simp only[vy,MK,or_false]at g;rcases g with rfl|rfl
  .exact#[_,p,λv z=>by cases z]
  .cases b with
   |false=>have(o,e,_,d):=(show h.IsListIter _ l i from r);exact#[o,e,λv z=>by rw[d]at z;cases z]
   |true=>have(o,e,_,d):=(show h.IsTupleIter _ l i from r);exact#[o,e,λv z=>by rw[d]at z;cases z]
 keep:=λi h h' t k=>by
  have((j,p),r):=t;exact#[#[j,k e (by simp) _ p],r.at λo q=>k it (by simp) o q]
 item:=by
  intro X hP V hK g i C s σ H E I O t hg;subst hP V hK;have(xs,x,N,hx):=hg;have((j,p),r):=t;have(m,Q,S,_):=jU I N;have(u,hu,ru):=Q.get hx
  have Z:i<m.toArray.size:=by
   have:=(ko.mp hu).1
   simpa using this
  refine wpAny_pyNext_enum_itemD (DB (A:=X.A.in1) (b:=b) (I.ok.hd g) it l d2 m.toArray) p #[r,S] Z d1 (by simp[d1,NW d3]) λy h' M hy ho Y hT ab hk=>?_
  have U:y=u:=by
   have D:m[i]?=some y:=by simpa using hy
   rw[hu]at D;exact(Nd D).symm
  subst U;refine#[.ref s.heap.objs.size,rfl,wpAny_letOwnedTupleGo_enum (s:={s with heap:=h',toks:=M+1}) ho λJ aa B=>?_]
  have ne:∀c∈[e,it],c≠s.heap.objs.size:=λc g z=>by
   obtain⟨o,e2⟩:∃o,s.heap.get? c=some o:=by
    simp only[vy,MK,or_false]at g;rcases g with rfl|rfl
    .exact#[_,p]
    .exact r.got
   have:=ri e2;rw[z]at this;exact Np _ this
  have kk:∀c o,c∉[e,it]->s.heap.get? c=some o->J.get? c=some o:=λc o g q=>by
   simp only[vy,MK,or_false,not_or]at g;exact(B.2 c g.1).trans (hk c o g.1 g.2 q)
  have G:J.get? s.heap.objs.size=some {cls:=.type "tuple",data:=.seq #[.int i M,y,]}:=(B.2 _ (ne e (by simp)).symm).trans hT
  refine#[.ref s.heap.objs.size,upd H s.heap.objs.size (.tup [.int i,x]),I.AO (t':=M+1) O kk (mu _) #[(by show 2<=mC;decide),_,.cons #[M,rfl] (.cons ru .nil),#[_,G,rfl,_,rfl],_,G,rfl],rfl,
   #[_,x,I.hok.fresh (mu _),rfl,rfl,λzs T=>by rw[oi.inj I T N];exact hx],?_,λc g=>?_]
  .exact#[#[_,by simpa using aa],Y.1.at λo q=>(B.2 it (NW d1)).trans q]
  .rw[ay (ne c g)];exact(O c g).1
 done:=by
  intro X hP V hK g i C s σ H E I O t hg;subst hP V hK;have(xs,N,hl):=hg;have((j,p),r):=t;have(m,Q,S,_):=jU I N;have e1:=Q.length;have ei:i=m.toArray.size:=by simp;omega
  rw[ei]at r;refine wpAny_pyNext_enum_endD (DB (A:=X.A.in1) (b:=b) (I.ok.hd g) it l d2 m.toArray) p #[r,S] λh' hk=>#[rfl,I.AN (t':=s.toks) O λc o g q=>?_];simp only[vy,MK,or_false,not_or]at g;exact hk c o g.2 q
 self:=λ_ _ _ _ _ t h=>let⟨_,p⟩:=t.1;wpAny_pyIter_enum p h
def JO(K:bA)(t:TA):TI:=λe H R=>t e H λj d=>∃b p g,j=[.ref p]/\oi K b d p g/\R (JN K b p) d
theorem Fw (K:bA)(Q:X.K=K)(O:Gl X "enumerate")(hm:X.mg "enumerate"=none)(P:PA X [a] t)(he:M3 [a] X.env=(false,eval a X.env)::M3 [] X.env:=by rfl)(hpl:(Qo r (M3 [] X.env)).any (·.1)=false:=by rfl):PI X (.Tuple m A q) (.Call (.Name "enumerate" D) [a] [] r) (JO K t):=by
 subst Q;intro j s z H R I h;refine Nf (lQ I O hm (u:=.type "enumerate") (by decide) ?_ (by decide) (by decide));refine Nl ?_ he hpl;refine dw (P r j s z H _ I h) λY d ⟨V,T,o,C,q1⟩=>?_;have(c,p,U,rfl,J,M):=q1;have(u,rfl,B):=vals1 C;obtain rfl:u=Value.ref p:=B;have(G,Z,v,_):=jU o J;have E:@LT.lt Nat _ p d.heap.objs.size:=by have(_,e):=v.got;exact ri e
 refine DC v λg w S L N=>?_;refine wpAny_pyIter_enum (s:={d with heap:=g}) w ?_;refine#[d.heap.objs.size+1,[d.heap.objs.size+1,d.heap.objs.size],_,_,T,rfl,o.kept (t':=d.toks) N,BQ _ _ p (by show @Ne Nat _ _;omega) (by show @Ne Nat _ _;omega) (by show @Ne Nat _ _;omega),#[#[_,w],S],λb y=>?_,M]
 have l:d.heap.objs.size<=b:=by
  simp only[vy,MK,or_false]at y;rcases y with rfl|rfl
  .exact Ol _ 1
  .exact mu _
 exact o.Ct l (o.hok.fresh l)
theorem DE {K:bA}{g:TG}{t:TS}{D:Ends}(j:Nat->St->Hp->Prop)(E:j 0 d H)(B:∀i d H,i<=xs.length->j i d H->oi K b H a xs)(hs:∀i x d H p,xs[i]?=some x->j i d H->H p=none->g (.ref p) d (upd H p (.tup [.int i,x])) λl r=>t {D with nx:=j (i+1),ct:=j (i+1),bk:=D.nx} l r)(hd:∀d H,j xs.length d H->D.nx d H):
  ∃W:Nat->Nat->St->Hp->Prop,(∃m,W 0 m d H)/\∀i m d H,W i m d H ->
   ((JN K b a).stop i H/\D.nx d H)\/((JN K b a).go i H/\∃N:St->Hp->Prop,(∀σ' o,N σ' o->∃u,u < m/\W (i+1) u σ' o)/\∀x o,(JN K b a).yld i H x o->g x d o λl r=>t {D with nx:=N,ct:=N,bk:=D.nx} l r):=by
 refine#[λi m d H=>m=xs.length-i/\i<=xs.length/\j i d H,#[xs.length,by simp,MP _,E],?_];rintro i m d H ⟨rfl,C,p⟩;have q1:=B i d H C p
 by_cases q:i<xs.length
 .refine .inr #[#[xs,xs[i],q1,by simp[q]],j (i+1),λσ' o z=>#[xs.length - (i+1),(),rfl,q,z],λx o y=>?_];have(w,v,A,rfl,rfl,G):=y;exact hs i v d H w (G xs q1) p A
 .have e:i=xs.length:=()
  subst e;exact .inl #[#[xs,q1,rfl],hd d H p]
theorem rB {os:OsState}(F:ExcBaseFacts B newId initId bmB)(T:OwnTail h bmB bm)(hC:h.get? C=some (Qe nm q C N bs bm hdct sn sub ab col dd k0 k1 k2 k3 k5 newId))(hn:h.Ns N G)(hi:G "__init__"=some (.ref z))(hfI:h.get? z=some D)(hfc:D.cls=.type "function")(hq:∀h' e,Heap.MadeExcOf h h' e (.ref C) rest->h.objs.size<=e ->
   u4 (L0 prog w) A (call (.ref z) (.ref e::rest)) (λr s'=>r=.none/\Q (.done (.ret (.ref e))) s') E #[h',g,d,t,os])(hrest:rest.length<=mC):
  u4 (L0 prog w) A (Px.«type.__call__» #[.ref C::rest,[]]) Q E #[h,g,d,t,os]:=by
 repeat (first|with_reducible refine ON hC ?_|with_reducible refine wpAny_madeBy_exc hC ?_|wp_step)
 refine codeAny_call_builtin_code (UC _ F.quiet) (wpAny_check_new_subT F T hC ?_);refine codeAny_exc_new_subT F T hC ?_ hrest;show u4 _ _ _ _ _ _;generalize ee:({cls:=.ref C,data:=.fields #[.ref h.objs.size,.none,.none,.none,.bool false,.none,]}:Obj)=oe;have kp:∀b o,h.get? b=some o->((h.push {cls:=.type "tuple",data:=.seq rest.toArray}).push oe).get? b=some o:=λb o e=>lu _ (lu _ e);have j:=kp _ _ hC;have l:=kp _ _ hfI;have p:=hn.keeps kp;have u:=T.keeps kp
 have m:((h.push {cls:=.type "tuple",data:=.seq rest.toArray}).push oe).get? (h.objs.size+1)=some oe:=by
  subst ee
  heap_get
 have v:oe.cls=.ref C:=by rw[<-ee]
 have y:(Value.ref C::bm).contains (.ref C)=true:=by simp
 unfold Tq
 repeat (first|(with_reducible refine ON m ?_;rw[v])|(with_reducible refine Qu j ?_;rw[y])|wp_step)
 show u4 _ _ (Pq (.ref C) _) _ _ _;refine wpAny_typeLookup_tail j p u F.mroIs F.init.lookup ?_;rw[hi];refine MZ (bB ?_);unfold bindSpecial;refine bB (Of (T:="function") #[_,l,hfc] ?_);rw[if_pos (by decide)];refine lj (bB (Nk (hq _ (h.objs.size+1) #[kp,Rk (PJ _),h.objs.size,by rw[m,<-ee],Rk (mu _),?_] (PJ _)) (λr s' hr=>?_) λ_ _ x=>x))
 .exact lu _ (US rfl rfl)
 .have(rfl,H):=hr
  wp_walk
  exact H
theorem zN {os:OsState}(F:ExcBaseFacts B newId initId bmB)(T:OwnTail h bmB bm)(hC:h.get? C=some (Qe nm q C N bs bm hdct sn sub ab col dd k0 k1 k2 k3 k5 newId))(hn:h.Ns N m)(hi:m "__init__"=some (.ref j))(hfI:h.get? j=some l)(hfc:l.cls=.type "function")(hq:∀h' e,Heap.MadeExcOf h h' e (.ref C) rest->h.objs.size<=e ->
   u4 (L0 prog w) (A.under (.builtin "type.__call__" #[.ref C::rest,[]])) (call (.ref j) (.ref e::rest)) (λr s'=>r=.none/\Q (.ref e) s') E #[h',g,d,t,os])(hrest:rest.length<=mC):
  u4 (L0 prog w) A (call (.ref C) rest) Q E #[h,g,d,t,os]:=by
 have y:=tc_lookup;have v:=tc_bind (.ref C);have u:(#[h,g,d,t,os]:eT).TypeIs (.ref C) "type":=#[_,hC,rfl];refine QC (codeAny_of_tree ?_);show u4 _ _ (callAny (.ref C) _) _ _ _
 repeat (any_goals (first|assumption|with_reducible refine ON hC ?_|wp_step))
 refine#[rfl,?_];exact codeAny_call_builtin_at (UC _ (by decide)) entry_typeCall (wpAny_check_type_call_sub hC (rB F T hC hn hi hfI hfc (λh' e p o=>hq h' e p o) hrest))
end L2
namespace L2
open PySem PySem.Spec PyProof.Rows PySem.W
noncomputable abbrev iG:List cB:=[.type "ValueError",.type "Exception",.type "BaseException",.type "object"]
noncomputable def cF:List cB->Bool
 |.ref _::r=>cF r
 |l=>l == iG
theorem qT :cF (.ref c::r)=cF r:=rfl
theorem tN (d:cB):∀{l:List cB},cF l=true->refuseLoop d "__setattr__" l=pure Unit.unit
 |.ref c::r,e=>by rw[refuseLoop_ref];exact tN d (by rw[qT]at e;exact e)
 | [],e=>by cases e
 |.type n::r,e=>by
  have g:(.type n::r:List cB)=iG:=by unfold cF at e;exact beq_iff_eq.mp e
  rw[g];exact PySem.F.store_ValueError.passes d
 |.none::r,e=>by unfold cF at e;cases e
 |.bool _::r,e=>by unfold cF at e;cases e
 |.int _ _::r,e=>by unfold cF at e;cases e
 |.str _ _::r,e=>by unfold cF at e;cases e
 |.bytes _ _::r,e=>by unfold cF at e;cases e
 |.float _ _::r,e=>by unfold cF at e;cases e
 |.builtin _::r,e=>by unfold cF at e;cases e
 |.ellipsis::r,e=>by unfold cF at e;cases e
end L2
namespace L2
open PySem PySem.Spec PyProof.Rows PySem.W Builtin Builtin.ObjectAttr
theorem qU :∀{l:List cB},cF l=true->l.contains (.type "object")=true/\l.isEmpty=false
 |.ref c::r,e=>by rw[qT]at e;rw[OY,(qU e).1,RU];exact#[rfl,rfl]
 | [],e=>by cases e
 |.type n::r,e=>by
  have d:(.type n::r:List cB)=iG:=by unfold cF at e;exact beq_iff_eq.mp e
  rw[d];exact#[by decide,rfl]
 |.none::r,e=>by unfold cF at e;cases e
 |.bool _::r,e=>by unfold cF at e;cases e
 |.int _ _::r,e=>by unfold cF at e;cases e
 |.str _ _::r,e=>by unfold cF at e;cases e
 |.bytes _ _::r,e=>by unfold cF at e;cases e
 |.float _ _::r,e=>by unfold cF at e;cases e
 |.builtin _::r,e=>by unfold cF at e;cases e
 |.ellipsis::r,e=>by unfold cF at e;cases e
noncomputable def rR(K:Frag)(C:Addr):Bool:=(clsIn K C).any λd=>cF d.mro&&d.hasDict
noncomputable def gJ(w:FT)(name:Str)(tk:Tok)(v:cB):Obj:=Obj.putName name (Si w.params name) (.str name tk) v {cls:=.type "dict",data:=.dict #[]}
theorem qV (w:FT)(name:Str)(tk:Tok)(v:cB):∃n,(gJ w name tk v).data=.dict #[#[Si w.params name,.str name tk,v],] n/\(gJ w name tk v).cls=.type "dict"/\(gJ w name tk v).dict=none:=by
 refine#[1,?_,?_,?_]<;>rfl
theorem Fx {K:Frag}(X:K.In s.heap)(I:InstAt s.heap x ox C none)(hp:rR K C=true)(ht:takerIn K C name=some none)(go:∀h',h'.get? x=some {ox with dict:=some s.heap.objs.size}->h'.get? s.heap.objs.size=some (gJ w name s.toks v)->(∀b o,b≠x->s.heap.get? b=some o->h'.get? b=some o) ->
   s.heap.objs.size<h'.objs.size->R (.ok (.ret .none)) {s with heap:=h',toks:=s.toks+1}):
  Qg (L0 prog w) A (.call (.builtin "object.__setattr__") #[[.ref x,.str name tk,v],[]]) R s:=by
 have(j,g,d,t,V):=s;dsimp only at X I go;have B:=PySem.F.store_object;have(cd,P,M):=any_some hp;have(W,O):=Bool.and_eq_true_iff.mp M;have q:=qU W
 have L:Looks (L0 prog w) j (Tq (.ref x) (.type "object")) true :=
  I.type.andThen (looks_mroIn X (by unfold mroIn;rw[P,OG,if_neg (by rw[q.2];decide),q.1]))
 have E:=@check_slot (L0 prog w) A.in1 (λe p=>R (.error e) p) #[j,g,d,t,V] "object.__setattr__" "object" "__setattr__" (.ref x) [.str name tk,v] [];refine Qc B.slot.plain B.entry (E B.kind B.split L (B.args (.ref x) (.str name tk) v) ?_);clear E;have(m,ha,hr):=Option.bind_eq_some_iff.mp ht;have hm:Looks (L0 prog w) j (mroOf (.ref C)) cd.mro:=(looks_clsIn X P).andThen .now
 have H:Looks (L0 prog w) j (storeTaker? m) none:=by
  match m,hr with
  |none,_=>exact .now
  |some a,hr =>
   have(b,Q,e):=ur.mp hr;refine(looks_takesIn X Q).andThen ?_
   cases b
   .exact .now
   .cases e
 rw[osa_eq,refuse_eq];refine bB (bB (I.type.here (bB (hm.here ?_))));rw[tN _ W];refine lj (bB (I.type.here (bB ((UT X ha).here (bB (H.here ?_))))));have(G,D,Y,z):=I;have(oc,J,r,aa):=ox;dsimp only at D z;subst D
 cases J with
 |some _=>exact z.elim
 |none =>
 refine bB (lj (bB (bB (T9 G (bB ((looks_clsIn X P).here ?_))))));rw[O];have nc:∀c,r≠.cls c:=by intro c e;rw[e]at Y;cases Y
 generalize eD:({cls:=.type "dict",data:=.dict #[]}:Obj)=oD;have U:=lu oD G;have T:x≠j.objs.size:=MQ (ri G)
 have u:u4 (L0 prog w) A.in1 (alloc oD>>=λZ=>(update x λo=>{o with dict:=some Z})>>=λ_=>pure (some Z)) (λod y =>
   u4 (L0 prog w) A.in1 (match od with|some d=>storeInDict d (.str name tk) name v|none=>noDictFor (.ref x) (.ref C) name m.isSome)
    (λu p=>match u with|.done f=>R (.ok f) p|.again c'=>c'.quiet=true/\Qg (L0 prog w) A c' R p) (λe p=>R (.error e) p) y) (λe p=>R (.error e) p) #[j,g,d,t,V]:=by
  refine bB (wpAny_alloc' ?_);refine bB (wpAny_update' U ?_);refine lj ?_
  have l:((j.push oD).update x λo=>{o with dict:=some j.objs.size}).get? j.objs.size=some oD :=
   (Qv _ _ _ _ T.symm).trans (US rfl (by rw[<-eD];rfl))
  show u4 _ _ (storeInDict j.objs.size (.str name tk) name v) _ _ _;refine bB (lj (bB ?_));unfold nsSet;refine bB (bB (wpAny_askSetting (lj (bB (RQ (bB (T9 l ?_)))))));rw[<-eD]at l|-;dsimp only;rw[aRefKeyMayBeTheName_at];rw[if_neg (by simp)];refine wpAny_updatePart' l ?_;generalize eU:((j.push {cls:=.type "dict",data:=.dict #[]}).update x λo=>{o with dict:=some j.objs.size})=h2;rw[eU]at l;have hf:(gJ w name t v).isFreed=false:=rfl;have S:(h2.update j.objs.size (Obj.putName name (Si w.params name) (.str name t) v)).get? j.objs.size=some (gJ w name t v):=Nc _ l hf;obtain⟨n,q1,-,-⟩:=qV w name t v;refine bB (wpAny_lookBehind S (by rw[q1];exact pastItsLine_dict (by rw[Rl];exact Nat.le_add_left 1 _)) ?_);refine lj (go _ ?_ S ?_ ?_)
  .refine(Qv _ _ _ _ T).trans ?_;rw[<-eU,eD];refine Nc _ U ?_;have N:=(Heap.get?_some_iff.mp G).2
   cases r<;>first|rfl|exact N
  .intro b o Q e;refine(Qv _ _ _ _ (MQ (ri e))).trans ?_;rw[<-eU,eD];exact(Qv _ _ _ _ Q).trans (lu _ e)
  .exact ri S
 cases r with
 |cls c=>exact absurd rfl (nc c)
 |_=>exact u
theorem Fy {K:Frag}(X:K.In s.heap)(I:InstAt s.heap x ox C none)(d:rR K C=true)(ht:takerIn K C name=some none)(hs:Rc K (.ref C) "__setattr__"=some (some (.builtin "object.__setattr__")))(go:∀h',h'.get? x=some {ox with dict:=some s.heap.objs.size}->h'.get? s.heap.objs.size=some (gJ w name (s.toks+1) v)->(∀b o,b≠x->s.heap.get? b=some o->h'.get? b=some o) ->
   s.heap.objs.size<h'.objs.size->Q Unit.unit {s with heap:=h',toks:=s.toks+1+1}):
  u4 (L0 prog w) A (setAttr (.ref x) name v) Q E s :=
 set_plain X I hs (Fx (s:={s with toks:=s.toks+1}) X I d ht go)
end L2
namespace L2
open PySem PySem.Spec PyProof.Rows PySem.W
noncomputable def tO(C d:Addr)(od:Option Addr):Obj:={cls:=.ref C,dict:=od,data:=.fields #[.ref d,.none,.none,.none,.bool false,.none,]}
def gw(x C:Addr)(od:Option Addr):Heap->Prop:=λh=>∃d,h.get? x=some (tO C d od)
theorem DF (e:gw x C od h):dO P w H h x (.ext (gw x C od)) :=
 #[e,e.elim λ_ q=>#[_,q],λ_ _ ⟨d,q⟩ k=>#[d,k _ q]]
structure Fz(K:Frag) (C f:Addr):Prop where
 cls:∀h,K.In h->∃nm q N bs bm hdct sn sub ab col dd k0 k1 k2 k3 k5 mN oI,h.get? C=some (Qe nm q C N bs bm hdct sn sub ab col dd k0 k1 k2 k3 k5 "ValueError.__new__") /\
  h.Ns N mN/\mN "__init__"=some (.ref f)/\OwnTail h iG bm/\h.get? f=some oI/\oI.cls=.type "function"
 kp:NF K (.ref C)=true
structure zO(K:Frag) (C:Addr) (n:Str):Prop where
 over:rR K C=true
 sa:Rc K (.ref C) "__setattr__"=some (some (.builtin "object.__setattr__"))
 no:takerIn K C n=some none
def La(K:Frag)(l j:TE)(f:Str):TS:=λD e H=>j e H λy m=>l e m λx g=>∃a C,x=.ref a/\g a=some (.ext (gw a C none))/\zO K C f /\
 ∀d,g d=none->d≠a->D.nx e (upd (upd g d (.xd [(f,y)])) a (.ext (gw a C (some d))))
theorem Ie {h:Heap}(e:h.get? d=some (gJ w n tk v)):h.Ns1 d λy=>if y=n then some v else none:=by
 obtain⟨c,q1,-,-⟩:=qV w n tk v;refine#[_,_,c,e,q1,?_,?_,?_]
 .intro a j;have z:a=#[Si w.params n,.str n tk,v]:=by simpa using j
  rw[z];exact#[n,tk,rfl]
 .exact SV _ _
 .intro y;show _=if y=n then some v else none
  by_cases q:y=n
  .subst q;rw[if_pos rfl];simp[Vn,findBy,Value.isStr]
  .rw[if_neg q];have g:(n == y)=false:=beq_false_of_ne λz=>q z.symm;simp[Vn,findBy,Value.isStr,g]
theorem BR (I:Inv X d l H s)(e:H a=some (.ext (gw a C none)))(c:zO X.K C n)(v:RelV y u)(go:∀g s',H g=none->g≠a->Inv X d l (upd (upd H g (.xd [(n,y)])) a (.ext (gw a C (some g)))) s'->Q Unit.unit s'):u4 (L0 X.prog X.w) A (setAttr (.ref a) n u) Q E s:=by
 obtain⟨⟨ta,j⟩,-,-⟩:=I.hok a _ e;refine Fy (ox:=tO C ta none) I.tZ #[j,rfl,rfl,trivial] c.over c.no c.sa λh' r hd D L=>go s.heap.objs.size _ (I.hok.fresh (mu _)) (Oo (ri j)) ?_;have fr:=zv s.heap (o:=gJ X.w n (s.toks+1) u) rfl
 have J:=I.laid (a:=s.heap.objs.size) (o:=.xd [(n,y)]) (t':=s.toks) (h':=s.heap.push (gJ X.w n (s.toks+1) u)) (λb o q=>lu _ q) (mu _) #[_,Ie fr,λz=>by
  by_cases q:z=n
  .subst q;rw[if_pos rfl,M4,beq_self_eq_true];exact v
  .rw[if_neg q,M4,beq_false_of_ne q];exact True.intro]
 have B:a≠s.heap.objs.size:=MQ (ri j);refine J.write (x:=a) (e:=a) (t':=s.toks+1+1) (by rw[ay B,e];exact True.intro) (.inl rfl) (λb o G q=>?_) #[_,r] (DF #[ta,r]);rcases Heap.get?_push_cases q with⟨rfl,rfl⟩|q
 .exact hd
 .exact D b o G q
theorem DG (M:PE X o ta)(J:PE X d v)(hs:RV d (some (.Attribute o n g)) pos.line X.env=pure false:=by rfl):PS X (.Assign [.Attribute o n g] d pos) (La X.K ta v n):=by
 intro j s l H D I h;refine plainObj_wpAny_Assign_Attribute (dw (J j s l H _ I h) λu w ⟨y,S,R,z,q⟩=>dw (M j w l S _ R q) λG U ⟨x,V,Q,A,a,C,ex,N,c,B⟩=>?_) hs;subst ex;obtain rfl:G=Value.ref a:=A;exact BR Q N c z λO T L r P=>#[l,_,P,B O L r]
end L2
namespace L2
open PySem PySem.Spec PyProof.Rows PySem.W Builtin Builtin.ObjectAttr
structure zP(K:Frag) (C:Addr):Prop where
 ga:Rc K (.ref C) "__getattribute__"=some (some (.builtin "BaseException.__getattribute__"))
 gn:Rc K (.ref C) "__getattr__"=some none
 mro:mroIn K C (.type "BaseException")=some true
theorem BS {K:Frag}(X:K.In s.heap)(I:InstAt s.heap x ox C od)(G:zP K C)(l:Q Unit.unit s):u4 M A (checkBuiltinCall "BaseException.__getattribute__" #[[.ref x,d],[]]) Q E s:=by
 have m:builtinKind "BaseException.__getattribute__"=some .slot:=by decide
 have e:splitId "BaseException.__getattribute__"=some ("BaseException","__getattribute__"):=by decide
 have g:Looks M s.heap (Tq (.ref x) (.type "BaseException")) true:=I.type.andThen (looks_mroIn X G.mro);have o:=PySem.F.args_bexc_ga (.ref x) d;have j:=@check_slot M A E s "BaseException.__getattribute__" "BaseException" "__getattribute__" (.ref x) [d] [] Q;exact j m e g o l
theorem DH {K:Frag}{fill:Bool}(X:K.In s.heap)(I:InstAt s.heap x ox C od)(G:zP K C)(h:u4 (L0 prog w) A.in1 (Px.«object.__getattribute__» #[[.ref x,.str name tk],[]]) (λj s'=>match j with
   |.done (.ret v)=>u4 (L0 prog w) A (handedOut v) Q E s'
   |.again c=>c.quiet=true/\Qg (L0 prog w) A c (λr l=>match r with|.ok (.ret v)=>u4 (L0 prog w) A (handedOut v) Q E l|_=>False) s'
   |_=>False) (λ_ _=>False) s):u4 (L0 prog w) A (U4 (.ref x) (.str name tk) fill expr) Q E s:=by
 have u:=I.type (M:=L0 prog w);have L1:=UT (M:=L0 prog w) X G.ga;have L2:=UT (M:=L0 prog w) X G.gn;have p:=Td.ga.bind (.ref x);have o:(expr&&onTheHeap (Value.builtin "BaseException.__getattribute__"))=false:=by cases expr<;>rfl
 have m:(Value.builtin "BaseException.__getattribute__" == Value.builtin "object.__getattribute__")=false:=by decide
 have(B,g,d,t,y):=s;unfold U4;refine MZ (bB (u.at (bB (L1.at ?_))));dsimp only;rw[m,Bool.and_false,if_neg (by decide)];unfold Tw hookBefore;refine bB ?_;rw[show onTheHeap (Value.ref C)=true from rfl,if_pos rfl];refine L2.at (bB (Om (MZ ?_)));unfold SY;rw[o,if_neg (by decide)];unfold T4;refine bB (wpAny_of_eq p ?_);refine QC (Qc Td.ga.plain PySem.F.entry_bexc_ga (BS X I G ?_));refine Nk h (λj s' z=>?_) λ_ _ z=>z.elim;rcases j with(_|_|_|_)|c
 case again=>
  refine#[z.1,PM z.2 λr l q=>?_];rcases r with e|(_|_|_|_)<;>first|exact q|exact q.elim
 all_goals first|exact z|exact z.elim
theorem BU {K:Frag}(X:K.In s.heap)(I:InstAt s.heap x ox C od)(G:zP K C)(l:findObj K C od name=some (.value v))(j:handedIn v=true)(h:Q v {s with toks:=s.toks+1}):
  u4 (L0 prog w) A (getAttr (.ref x) name expr) Q E s:=by
 unfold getAttr;refine bB (RQ ?_);refine DH (s:={s with toks:=s.toks+1}) X I G ?_;have(e,g,d,t,o):=s;have m:=I.type (M:=L0 prog w);have L1:=looks_find (M:=L0 prog w) X I l;refine bB (lj (bB (lj (bB (m.at (bB (L1.at ?_)))))));refine lj ?_;show u4 _ _ (handedOut v) _ _ _;rw[handedOut_of j];exact lj h
theorem BV {K:Frag}(X:K.In s.heap)(I:InstAt s.heap x ox C od)(G:zP K C)(l:findObj K C od "__class__"=some (.bind (.builtin "getset_descriptor.__get__") (.builtin "object.__class__")))(hm:mroIn K C (.type "object")=some true)(h:Q (some (.ref C)) {s with toks:=s.toks+1}):u4 (L0 prog w) A (T3 (.ref x) "__class__") Q E s:=by
 unfold T3 getAttrBy?;refine bB (RQ (bB (Om ?_)));refine DH (s:={s with toks:=s.toks+1}) X I G ?_;have(e,g,d,t,j):=s;have o:InstAt (#[e,g,d,t+1,j]:eT).heap x ox C od:=I;have m:=I.type (M:=L0 prog w);have L1:=looks_find (M:=L0 prog w) X I l;refine bB (lj (bB (lj (bB (m.at (bB (L1.at ?_)))))));show u4 _ _ (RN [_] (call (.builtin "getset_descriptor.__get__") [.builtin "object.__class__",.ref x,.ref C])>>=ret) _ _ _;refine bB (MZ (QC (class_get (s:=#[e,g,d,t+1,j]) X o hm ?_)));refine lj ?_;refine handed_on rfl ?_;exact lj h
end L2
namespace L2
open PySem PySem.Spec PyProof.Rows PySem.W PySem.Calls
structure DI(K:Frag) (C:Addr):Prop where
 hg:zP K C
 hd:U9 K C=true
 ha:Rc K (.ref C) "__class__"=some (some (.builtin "object.__class__"))
 hn:specialIn K (.builtin "object.__class__") "__get__"=some (some (.builtin "getset_descriptor.__get__"))
 tk:takesIn K (.builtin "object.__class__")=some true
 hm:mroIn K C (.type "object")=some true
def Gx(x C:Addr)(h:Heap):Prop:=∃d e,InstAt h x d C e
theorem AV {K:Frag}(G:DI K C):KitX K (.ref x) (.ref C) (Gx x C) where
 ty:=λ_ _ _ ⟨_,_,I⟩=>I.type
 it:=λ_ _ X _=>by
  obtain⟨m,d,-⟩:=any_some G.hd;unfold clsIn at d
  split at d
  .rename_i t r l e j
   intro D z B v k q;unfold isType loadHead;exact bB (T9 (k _ _ (X _ _ j)) (lj q))
  .cases d
 ne:=λh tp y o n u X g=>by
  obtain⟨m,d,-⟩:=any_some G.hd;refine Bool.eq_false_iff.mpr λq=>?_;obtain rfl:C=tp:=Value.ref.inj (beq_iff_eq.mp q);unfold clsIn at d
  split at d
  .rename_i t r l e j
   cases(X _ _ j).symm.trans g
  .cases d
 ca:=λ{prog w A E Q s} X ⟨ox,od,I⟩ go=>by
  have p:findObj K C od "__class__"=some (.bind (.builtin "getset_descriptor.__get__") (.builtin "object.__class__")):=by
   obtain⟨m,d,-⟩:=any_some G.hd;unfold findObj;rw[d,OG,G.ha,OG];dsimp only;rw[G.hn,OG];dsimp only;rw[G.tk,OG]
  exact BV X I G.hg p G.hm go
theorem vm :∀{e:List Addr}{us:List cB},Vals (e.map V.ref) us->us=e.map Value.ref
 | [],us,r=>by cases r;rfl
 |d::e,us,r=>by
  cases r with
  |cons a b =>
   have z:=vm b;subst z;exact congrArg (·::_) a
structure Ig(K:Frag) (C:Addr) (n:Str):Prop where
 hg:zP K C
 hd:U9 K C=true
 no:∃attr,Rc K (.ref C) n=some attr/\noGet K attr=true
end L2
namespace L2
open PySem PySem.Spec PyProof.Rows
theorem BX (o:Obj)(g):(o.mapFields g).dict=o.dict:=by
 have(c,d,e,j):=o
 cases e<;>rfl
structure Fl(H:Hp) (h:Heap) (n:Nat) (x C:Addr) (od:Option Addr) (fl:cB):Prop where
 ob:∃oe vs,h.get? x=some oe/\oe.cls=.ref C/\oe.dict=od/\oe.data=.fields vs/\1<vs.size /\
  ((vs[1]?=some .none/\fl=.none)\/∃T oT ts,vs[1]?=some (.ref T)/\T≠x/\n<=T/\H T=none/\h.get? T=some oT/\oT.data=.fields ts/\ts[3]?=some fl)
 nx:n<=x
 hx:H x=none
structure Rest(fs ch:List Addr) (h h':Heap):Prop where
 keep:∀b o,b∉ch->b∉fs->h.get? b=some o->h'.get? b=some o
 slot:∀b o,b∉ch->h.get? b=some o->∃sl,h'.get? b=some {o with slots:=sl}
 sz:h.objs.size<=h'.objs.size
theorem Rest.trans (a:Rest fs ch h l)(b:Rest fs ch l j):Rest fs ch h j :=
 #[λc o d g e=>b.keep c o d g (a.keep c o d g e),λc o d e=>by
  have(r,q):=a.slot c o d e;have(m,p):=b.slot c _ d q;exact#[m,p],FA a.sz b.sz]
theorem Rest.more (a:Rest fs ch h j)(k:∀b∈ch,b∈d):Rest fs d h j :=
 #[λc o g l e=>a.keep c o (λz=>g (k c z)) l e,λc o g e=>a.slot c o (λz=>g (k c z)) e,a.sz]
theorem tP :Rest fs [a] h (h.update a g):=by
 have k:∀b o,b∉([a]:List Addr)->h.get? b=some o->(h.update a g).get? b=some o:=λb o n e=>by
  rw[M9 _ _ (λz=>n (by rw[z];exact pD.mpr rfl))];exact e
 refine#[λb o n _ e=>k b o n e,λb o n e=>#[o.slots,k b o n e],?_];rw[Heap.size_update];exact mu _
theorem vn {A:MM}(hfr:A.frames=some (env::d))(hl:s.heap.FunFrames t (env::d))(hf:env.frame=some L)(hxf:x∉frs (env::d))(he:s.heap.get? x=some m)(hd:m.data=.fields v)(hsz:1<v.size)(go:∀(h':Heap) (T:Addr) (l g:Obj) (ts:Array cB),Rest (frs (env::d)) [x] s.heap h'->s.heap.objs.size<=T->h'.get? x=some l->l.cls=m.cls->l.dict=m.dict->l.data=.fields (v.setIfInBounds 1 (.ref T)) ->
   h'.get? T=some g->g.data=.fields ts->ts[3]?=some (NK L)->Q Unit.unit {s with heap:=h'}):
  u4 M A (do let a ←frameOf env;let u ←entryPlaceOf L C;let b ←Ui head a .none (NK L) .none u;setField (.ref x) 1 b) Q E s:=by
 refine bB (wpAny_frameOf_fun hfr hl hf λj r=>?_);refine bB (wpAny_entryPlaceOf λu z=>?_);unfold Ui newFields;refine bB (NX ?_ (z.sizeOk5 _ _ _ _ _));generalize hO:({cls:=.type "traceback",dict:=none,data:=.fields ([head,.ref L,.none,NK L,.none]++(if u.isEmpty then MU 6 Value.none else u)).toArray}:Obj)=g
 have G:∃ts,g.data=.fields ts/\ts[3]?=some (NK L):=by
  subst hO;exact#[_,rfl,by simp]
 have D:g.isFreed=false:=by subst hO;rfl
 have(ts,B,y):=G;have p:j.get? x=some m:=(r.2.1 x hxf).trans he;have Kf:(j.push g).get? x=some m:=lu g p;refine QW Kf hd hsz ?_;have w:j.objs.size≠x:=Oo (ri p);have H:=QH hd (·.setIfInBounds 1 (Value.ref j.objs.size));have P:=Nc (Pu (·.setIfInBounds 1 (Value.ref j.objs.size))) Kf (Q6 H)
 have O:((j.push g).update x (Pu (·.setIfInBounds 1 (Value.ref j.objs.size)))).get? j.objs.size=some g:=by
  rw[M9 _ _ (NW w)];exact zv j D
 have J:Rest (frs (env::d)) [x] s.heap (j.push g):=by
  refine#[λb o _ N e=>lu g ((r.2.1 b N).trans e),λb o _ e=>?_,?_]
  .have(I,q):=r.2.2 b o e;exact#[I,lu g q]
  .rw[Ob,r.1];exact PJ _
 exact go _ _ _ _ ts (J.trans tP) (Tt r.1.symm) P (UQ _ _) (BX _ _) H O B y
theorem Inv.rest (I:Inv X pins σ H s)(r:Rest (frs X.stack) ch s.heap h')(g:∀b∈ch,H b=none/\X.s₀.heap.objs.size<=b/\b≠X.env.locals/\(∀x c,X.env.cells.lookup x=some c->c≠b)/\∀p∈X.pn++pins,p.1≠b):Inv X pins σ H {s with heap:=h'}:=by
 have j:∀b u,H b=some u->b∉ch/\b∉frs X.stack:=λb u e=>#[λz=>by(rw[(g b z).1]at e;cases e),λz=>by(rw[I.rG b z]at e;cases e)]
 have u:Un (frs X.stack) ch H H s.heap h':={
  keep:=λb o e _ t d=>r.keep b o d t e
  slot:=λb o e _ _ d=>r.slot b o d e
  free:=λ_ _ _ n _=>n
  there:=λb o e d=>(r.slot b o d e).elim λ_ q=>#[_,q]
  tups:=λ_ _ e=>e
  frzs:=λ_ _ _ e=>e
  tbls:=λ_ A e=>#[#[],by rw[e];simp]}
 have m:mU X.prog X.w H h':=λb u e=>by
  refine(I.hok b u e).stay (λc v y q=>?_) (λ_ q=>q) λ_ _ q=>q;rcases y with z|z
  .rw[z]at q|-;exact r.keep _ _ (j b u e).1 (j b u e).2 q
  .exact r.keep _ _ (j c _ z).1 (j c _ z).2 q
 exact I.call (g':=s.gens) (t':=s.toks) (d':=s.drawn) (ch:=ch) u m I.bare λb l=>#[.inr (g b l).2.1,(g b l).2.2.1,(g b l).2.2.2.1,(g b l).2.2.2.2]
theorem Inv.wu (I:Inv X pins σ H s)(e:s.heap.get? a=some o)(d:o.data=.fields j):a≠X.env.locals/\(∀x c,X.env.cells.lookup x=some c->c≠a)/\a∉frs X.stack:=by
 refine#[λz=>?_,λx c q z=>?_,λz=>?_]
 .have(m,(l,r,t,g,hd,_),_):=I.loc;rw[<-z,e]at g
  cases g
  rw[d]at hd
  cases hd
 .have(v,l,g,hd):=I.cell x c q;rw[z,e]at g
  cases g
  rw[d]at hd
  cases hd
 .have(_,l,g,p):=I.stack.mem z;rw[e]at g
  cases g
  exact p j d
theorem wA (I:Inv X [] σ H s)(S:X.pn=[])(e:X.stack=X.env::X.outer)(V:X.env.frame=some X.env.locals)(F:Fl H s.heap X.s₀.heap.objs.size x C od Y)(go:∀s',s'.os=s.os->Inv X [] σ H s'->Fl H s'.heap X.s₀.heap.objs.size x C od (NK X.env.locals)->Q Unit.unit s'):u4 (L0 X.prog X.w) X.A (U3 (.ref x) X.env) Q E s:=by
 have((z,vs,u,J,G,hd,j,hh),P,R):=F;have D:X.A.frames=some (X.env::X.outer):=by rw[<-e];exact I.ok.frames
 have B:∀(a:Addr),∀p∈X.pn++[],p.1≠a:=λa p hp=>by rw[S]at hp;cases hp
 have(n1,n2,n3):=I.wu u hd
 have Z:∀b∈[x],H b=none/\X.s₀.heap.objs.size<=b/\b≠X.env.locals/\(∀y c,X.env.cells.lookup y=some c->c≠b)/\∀p∈X.pn++[],p.1≠b:=λb W=>by
  rw[pD.mp W];exact#[R,P,n1,n2,B x]
 have L:∀(t:eT),t.os=s.os->Inv X [] σ H t->∀(l:Heap) (T:Addr) (d o:Obj) (m:Array cB),Rest (frs (X.env::X.outer)) [x] t.heap l->t.heap.objs.size<=T->l.get? x=some d->d.cls=z.cls->d.dict=z.dict->d.data=.fields (vs.setIfInBounds 1 (.ref T)) ->
   t.heap.get? x=some z->l.get? T=some o->o.data=.fields m->m[3]?=some (NK X.env.locals)->Q Unit.unit {t with heap:=l}:=λt U v l T d o m r q e1 e2 e3 e4 ex e5 e6 e7=>by
  rw[<-e]at r;refine go _ U (v.rest r Z) #[#[d,_,e1,e2.trans J,e3.trans G,e4,?_,.inr #[T,o,m,?_,?_,?_,v.hok.fresh q,e5,e6,e7]],P,R]
  .rw[Array.size_setIfInBounds];exact j
  .rw[P6 j]
  .exact Oo (zo (ri ex) q)
  .exact FA v.sz q
 unfold U3;simp only[V];rcases hh with⟨h1,rfl⟩|⟨T,o,m,h1,hTx,hTn,hTH,q,hdT,h3⟩
 .refine bB (MX u hd h1 ?_);rw[if_neg (by decide)];exact vn D (by rw[<-e];exact I.stack) V (by rw[<-e];exact n3) u hd j λl T d o m r a1 a2 a3 a4 a5 a6 a7 a8=>L s rfl I l T d o m r a1 a2 a3 a4 a5 u a6 a7 a8
 .refine bB (MX u hd h1 ?_);rw[if_pos (show(Value.ref T != Value.none)=true from by simp)];refine bB (MX q hdT h3 ?_);have(t1,t2,t3):=I.wu q hdT
  by_cases c:(Y == NK X.env.locals)=true
  .rw[if_pos c];have ef:Y=NK X.env.locals:=Oa c;subst ef;exact lj (go s rfl I #[#[z,vs,u,J,G,hd,j,.inr #[T,o,m,h1,hTx,hTn,hTH,q,hdT,h3]],P,R])
  .rw[if_neg c];refine bB (QW q hdT (Sj.mp h3).1 ?_)
   have v:=I.rest (tP (fs:=frs X.stack) (a:=T) (g:=Pu (·.setIfInBounds 3 Value.none))) λb W=>by
    rw[pD.mp W];exact#[hTH,hTn,t1,t2,B T]
   have M:(s.heap.update T (Pu (·.setIfInBounds 3 Value.none))).get? x=some z:=by rw[M9 _ _ hTx];exact u
   exact vn D (by rw[<-e];exact v.stack) V (by rw[<-e];exact n3) M hd j λl T2 d O N r a1 a2 a3 a4 a5 a6 a7 a8=>L {s with heap:=s.heap.update T (Pu (·.setIfInBounds 3 Value.none))} rfl v l T2 d O N r a1 a2 a3 a4 a5 M a6 a7 a8
theorem nW (I:Inv X [] σ H s)(o:X.pn=[])(F:Fl H s.heap X.s₀.heap.objs.size x C od J)(go:∀s' q,s'.os=s.os->Inv X [] σ H s'->Fl H s'.heap X.s₀.heap.objs.size x C od q->Q Unit.unit s'):u4 (L0 X.prog X.w) X.A (setFlight (.ref x) fr) Q E s:=by
 have((m,t,l,j,e,hd,d,D),u,v):=F;unfold setFlight;rcases D with⟨h1,rfl⟩|⟨T,oT,ts,h1,hTx,hTn,hTH,hT,hdT,h3⟩
 .refine bB (MX l hd h1 ?_);rw[if_neg (by decide)];exact lj (go s .none rfl I #[#[m,t,l,j,e,hd,d,.inl #[h1,rfl]],u,v])
 .refine bB (MX l hd h1 ?_);rw[if_pos (show(Value.ref T != Value.none)=true from by simp)];have(B,t2,t3):=I.wu hT hdT;have l3:=(Sj.mp h3).1;refine QW hT hdT l3 ?_;generalize fr.elim Value.none (λf=>NK f)=w
  have M:=I.rest (tP (fs:=frs X.stack) (a:=T) (g:=Pu (·.setIfInBounds 3 w))) λb G=>by
   rw[pD.mp G];exact#[hTH,hTn,B,t2,λp y=>by(rw[o]at y;cases y)]
  have z:=QH hdT (·.setIfInBounds 3 w);have r:(s.heap.update T (Pu (·.setIfInBounds 3 w))).get? x=some m:=by rw[M9 _ _ hTx];exact l
  have L:=Nc (Pu (·.setIfInBounds 3 w)) hT (Q6 z);exact go _ w rfl M #[#[m,t,r,j,e,hd,d,.inr #[T,_,_,h1,hTx,hTn,hTH,L,z,by rw[P6 l3]]],u,v]
def Eu(P:sC)(w:FT):uJ:=λd H s E e g=>∃(x C:Addr) (l:Option Addr) (m:cB) (j:Hp),e=.ref x/\g.os=s.os/\RM g.gens/\Un (frs d) [] H j s.heap g.heap/\mU P w j g.heap/\Fl j g.heap s.heap.objs.size x C l m/\E (.ref C) l j
def Gy(X:Cx)(E:XK):cB->eT->Prop:=λe g=>∃(x C:Addr) (j:Option Addr) (m:cB) (l:St) (d:Hp),e=.ref x/\Inv X [] l d g/\Fl d g.heap X.s₀.heap.objs.size x C j m/\E (.ref C) j d
theorem Fl.young (f:Fl H h n x C od j)(hm:m<=n):Fl H h m x C od j:=by
 have((o,l,t,g,e,hd,d,r),p,q):=f;refine#[#[o,l,t,g,e,hd,d,?_],FA hm p,q];rcases r with h|⟨T,oT,ts,h1,h2,h3,h4⟩
 .exact .inl h
 .exact .inr #[T,oT,ts,h1,h2,FA hm h3,h4]
theorem qy.Ih {X:Cx}{st:List Stmt}(k:∀e s,W e s->m e s)(h:qy (X.jf W) st t):qy (X.jf m) st t:=λl s o H D I p =>
 Nk (h l s o H D (I.dY.jf _) p) (λf w q=>by
  cases f with
  |next=>have(d,j,g,q):=q;exact#[d,j,g.dY.jf _,q]
  |brk=>have(d,j,g,q):=q;exact#[d,j,g.dY.jf _,q]
  |cont=>have(d,j,g,q):=q;exact#[d,j,g.dY.jf _,q]
  |ret u=>have(v,d,j,g,r,q):=q;exact#[v,d,j,g.dY.jf _,r,q]) k
theorem DJ {X:Cx}:Passes (Eu X.prog X.w) (X.jf (Gy X E)) E:=by
 intro r o H s e v I h;have(x,C,A,G,J,rfl,y,j,un,m,F,q):=h;have u:Inv X [] o H s:=I.dY.iy λp B=>nomatch B
 have(D,g,d,t,l):=v;obtain rfl:l=s.os:=y;exact#[x,C,A,G,o,J,rfl,u.call (h':=D) (g':=g) (d':=d) (t':=t) (ch:=[]) un m j (λb z=>nomatch z),F.young u.sz,q]
theorem nJ (d:X.pn=[])(g:X.stack=X.env::X.outer)(t:X.env.frame=some X.env.locals):PassesOwn (L0 X.prog X.w) X.A X.env (Gy X E):=by
 intro e N h;have(x,C,o,R,m,G,rfl,I,F,q):=h;show u4 _ _ (U3 _ _) _ _ _;refine wA I d g t F λM Q D l=>?_;show u4 _ _ _ _ _ _;have(O,J,u,y,v,hd,p,r):=id l.ob;rcases r with⟨h1,z⟩|⟨T,oT,ts,h1,_⟩
 .exact absurd z (by unfold NK;intro z;cases z)
 .refine bB (MX u hd h1 ?_);rw[if_neg (by simp)];exact nW D d l λL j P B H=>#[x,C,o,j,m,G,rfl,B,H,q]
theorem Ii {K:bA}(h:Gy (m6 (Eu P w) P w K mg base N j d f o A g s H E) E e s'):(m6 (Eu P w) P w K mg base N j d f o A g s H E).xe e s':=by
 have(x,C,p,J,y,t,rfl,I,F,q):=h;show u4 _ _ (leaving _ _) _ _ _;unfold leaving;refine bB (wA I rfl rfl rfl F λB G r v=>?_);refine nW r rfl v λz m D l u=>?_;exact#[x,C,p,m,t,rfl,l.os,l.bare,l.base,l.hok,u,q]
end L2
namespace L2
open PySem PySem.Spec PyProof.Rows PySem.W
noncomputable def Co(x:Addr)(H:Hp):Hp:=λb=>if b=x then none else H b
theorem yq :Co x H x=none:=by unfold Co;rw[if_pos rfl]
theorem nK (n:b≠x):Co x H b=H b:=by unfold Co;rw[if_neg n]
theorem qh (e:H b=none):Co x H b=none:=by
 unfold Co
 split
 .rfl
 .exact e
theorem Inv.Co (I:Inv X pins σ H s)(r:H x=some (.ext φ))(hn:X.s₀.heap.objs.size<=x):Inv X pins σ (L2.Co x H) s:=by
 have ne:∀b u,H b=some u->(∀g,u≠.ext g)->b≠x:=λb u e n z=>by
  rw[z,r]at e
  cases e
  exact n φ rfl
 have l:∀b o,X.s₀.heap.get? b=some o->b≠x:=λb o e z=>Np _ (zo (ri e) (by rw[z];exact hn));refine#[I.ok,I.os,I.bare,#[I.base.keep,I.base.slot,λb o e n v=>?_,I.base.there,λb d e=>?_,λb o u e=>?_,λb j e=>?_],I.loc,I.cell,qh I.free,λy c h=>qh (I.freeC y c h),λp t=>?_,λb u e=>?_,I.len]
 .exact qh (I.base.free b o e n v)
 .have q:=I.base.tups b d e;rw[nK (ne b _ q (λ_ z=>nomatch z))]
  exact q
 .have q:=I.base.frzs b o u e;rw[nK (ne b _ q (λ_ z=>nomatch z))]
  exact q
 .have(m,q):=I.base.tbls b j e;exact#[m,by rw[nK (ne b _ q (λ_ z=>nomatch z))];exact q]
 .have(C,B,A):=I.pin p t;exact#[C,qh B,A]
 .have w:b≠x:=λz=>by(rw[z,yq]at e;cases e)
  rw[nK w]at e;exact(I.hok b u e).stay (λ_ _ _ q=>q) (λc q=>by rw[nK (ne c _ q (λ_ z=>nomatch z))];exact q) λc d q=>by rw[nK (ne c _ q (λ_ z=>nomatch z))];exact q
structure zQ(K:Frag) (C:Addr):Prop where
 cls:∀h,K.In h->∃nm q N bs bm hdct sn sub ab col dd k0 k1 k2 k3 k5 nw,h.get? C=some (Qe nm q C N bs bm hdct sn sub ab col dd k0 k1 k2 k3 k5 nw)/\bm.contains (.type "BaseException")=true
theorem BY (H:A.handled=none)(go:u4 M A y (λv e=>∃x C l od p q N bs j d m sub G g dd k0 w u t r o,v=.ref x/\e.heap.get? C=some (Qe p q C N bs j d m sub G g dd k0 w u t r o)/\j.contains (.type "BaseException")=true/\e.heap.get? x=some (tO C l od)/\E (.ref x) e) E s):
  u4 M A (raiseStmt env (some y) none) Q E s:=by
 unfold raiseStmt;refine bB (Nk go (λv e q1=>?_) λ_ _ z=>z);have(x,C,l,od,p,q,N,bs,j,d,m,sub,G,g,dd,k0,w,u,t,r,o,rfl,D,I,B,J):=q1;have L:(Value.ref C::j).contains (.type "BaseException")=true:=by rw[OY,I,RU]
 have(R,S,T,O,P):=e;unfold tO at B
 repeat (first|(with_reducible refine ON B ?_)|(with_reducible refine ON D ?_)|(with_reducible refine Qu D ?_;rw[L])|wp_step)
 exact wpAny_raiseNew_none H J
def Ij(K:Frag)(n:Nat)(j:TE)(E:XK):TS:=λ_ g H=>j g H λv e=>∃x C d,v=.ref x/\n<=x/\e x=some (.ext (gw x C d))/\zQ K C/\E (.ref C) d (Co x e)
theorem tQ {X:Cx}{E:XK}{j:Expr}{G:TE}{o:Pos}(hc:X.calm=true)(he:PE (X.jf (Gy X E)) j G):PS (X.jf (Gy X E)) (.Raise (some j) none o) (Ij X.K X.s₀.heap.objs.size G E):=by
 intro d s m H D I h;have hh:(X.jf (Gy X E)).A.handled=none:=I.ok.hd hc;rw[arm_exec_Raise];refine bB (PZ (BY hh ?_));refine bB (Nk (he d s m H _ I h) (λv L q=>bB (PZ (lj ?_))) λ_ _ z=>z);have(u,B,I1,Q,x,C,l,rfl,O,M,r,q):=q
 cases Q
 have y:Inv X [] m B L:=I1.dY.iy λp hp=>nomatch hp
 have(T,R,N,bs,bm,g,P,sub,ab,t,dd,Z,Y,W,V,U,S,hC,hb):=r.cls _ y.tZ;have((J,e),_):=(show dO X.prog X.w B L.heap x (.ext (gw x C l))from y.hok x _ M);exact#[x,C,J,l,T,R,N,bs,bm,g,P,sub,ab,t,dd,Z,Y,W,V,U,S,rfl,hC,hb,e,#[x,C,l,.none,m,L2.Co x B,rfl,y.Co M O,#[#[tO C J l,_,e,rfl,rfl,rfl,(by show 1<6;decide),.inl #[rfl,rfl]],O,yq],q]]
def JP(n:Nat)(C:Addr)(sp:Sp)(dvs:List V)(E:XK)(t:TA):TE:=λg H Q=>t g H λd e=>d.length<=1000/\∀x,n<=x->e x=none ->
 sp (.ref x::(d++dvs)) (upd e x (.ext (gw x C none))) (λv j=>v=.gq/\Q (.ref x) j) E
theorem DK (M:Fz X.K C f)(F:bH X.prog X.w X.K X.mg X.base CX k f fd ps sp)(hr:fB (k+1) X.A)(hb:Binds X.K fd ps ds)(hd:Vals dvs ds)(hx:Passes CX X E)(I:Inv X j y H s)(r:Vals B us)(hl:B.length<=1000)(go:∀x,X.s₀.heap.objs.size<=x->H x=none->sp (.ref x::(B++dvs)) (upd H x (.ext (gw x C none))) (λv H2=>v=.gq/\Q (.ref x) H2) E):
  u4 (L0 X.prog X.w) X.A (call (.ref C) us) (EP X j y Q) X.xe s:=by
 have(nm,q,N,bs,bm,W,sn,sub,ab,aa,dd,k0,k1,k2,k3,k5,mN,oI,hC,hn,hi,T,S,R):=M.cls _ I.tZ;have O:us.length<=mC:=by rw[<-r.length];exact Ny (bD hl)
 have P:=I.sz;have(hh,g,d,U,os):=s;refine zN PySem.F.excBase_ValueError T hC hn hi S R (λh' x l L=>?_) O;obtain⟨kp,-,tup,ex,-,-⟩:=l;have D:Inv X j y (upd H x (.ext (gw x C none))) #[h',g,d,U,os]:=I.laid (a:=x) (o:=.ext (gw x C none)) (t':=U) kp L (DF #[tup,ex]);have q1:=go x (FA P L) (I.hok.fresh L);have r2:Vals (V.ref x::(B++dvs)) (Value.ref x::(us++ds)):=.cons rfl (r.append hd)
 have len:(Value.ref x::us++ds).length=ps.length:=by
  have z:=r2.length;rw[F.len _ _ _ _ q1]at z;exact z.symm
 have G:=F.run _ X.stack _ _ #[Value.ref x::us,[]] (Value.ref x::(us++ds)) _ _ E (hr.make C us []) (D.Jl.make C us []) (hb _ (Value.ref x::us) D.tZ len) r2 q1;refine QC (PM G λJ Y back=>?_)
 match J,back with
 |.error e,back=>exact hx j y _ _ e Y D back
 |.ok (.ret u),back =>
  have(v,H',I3,Z,rfl,q3):=D.after back;exact#[Z,#[V.ref x,H',I3,rfl,q3]]
 |.ok .next,back=>exact Nx back
 |.ok .brk,back=>exact Nx back
 |.ok .cont,back=>exact Nx back
theorem wB {CX:uJ}{k:Nat}{f C:Addr}{fd:rE}{ps:List Str}{sp:Sp}{dvs:List V}{ds:List cB}{E:XK}{x:Str}{p pos:Pos}{e:Expr}{es:List Expr}{t:TA}(M:Fz X.K C f)(F:bH X.prog X.w X.K X.mg X.base CX k f fd ps sp)(hr:fB (k+1) X.A)(v:Gl X x)(hm:X.mg x=some (.ref C))(y:Binds X.K fd ps ds)(hd:Vals dvs ds)(l:Passes CX X E)(ha:PA X (e::es) t)(hdb:(x == ("__debug__":Str))=false:=by decide)(he:M3 (e::es) X.env=(false,eval e X.env)::M3 es X.env:=by rfl)(hpl:(Qo pos (M3 es X.env)).any (·.1)=false:=by rfl):
  PE X (.Call (.Name x p) (e::es) [] pos) (JP X.s₀.heap.objs.size C sp dvs E t):=by
 intro d s j H Q I h;refine Nf (pH I v hm ?_ hdb);exact callWith_K (h₀:=X.base) I.ok.mod.kin M.kp (dw (ha pos d s j H _ I h) λB D ⟨z,G,g,r,u,q⟩=>#[g.tZ,DK M F hr y hd l g r u q]) he hpl
theorem Inv.names (I:Inv X pins σ H s)(hs:Pc X.env.locals s.heap h')(r:h'.Ns X.env.locals l)(E:σ'.length=σ.length)(k:∀(i:Nat) (x:Str) (v:V),X.N[i]?=some x->σ'[i]?=some (some v)->IU X.env.scope x->∃u,RelV v u/\Look X.env h' l x u):Inv X pins σ' H {s with heap:=h',toks:=t'}:=by
 have young:∀b o,X.s₀.heap.get? b=some o->b≠X.env.locals:=λb o e=>MQ (zo (ri e) I.ok.above)
 have Et:∀x c,X.env.cells.lookup x=some c->c≠X.env.locals:=λx c G z=>by
  have(m,(O,P,Q,D,hd,_),_):=I.loc;have(v,w,g,j):=I.cell x c G;rw[z,D]at g
  cases g
  rw[hd]at j
  cases j
 refine#[I.ok,I.os,I.bare,#[λb o e n t d=>?_,λb o e n t d=>?_,I.base.free,λb o e d=>?_,I.base.tups,I.base.frzs,I.base.tbls],#[l,r,k],λy c e=>?_,I.free,I.freeC,λp C=>?_,λb u e=>?_,E.trans I.len]
 .rw[hs.2 b (young b o e)];exact I.base.keep b o e n t d
 .rw[hs.2 b (young b o e)];exact I.base.slot b o e n t d
 .rw[hs.2 b (young b o e)];exact I.base.there b o e d
 .have(v,w,g,j):=I.cell y c e;exact#[v,w,(hs.2 c (Et y c e)).trans g,j]
 .have(M,L,A,J):=I.pin p C;exact#[(hs.2 _ A).trans M,L,A,J]
 .refine(I.hok b u e).stay (λc v B q=>(hs.2 c ?_).trans q) (λ_ q=>q) λ_ _ q=>q;rintro rfl;rcases B with z|z
  .rw[<-z,I.free]at e
   cases e
  .rw[I.free]at z
   cases z
theorem FE (I:Inv X pins σ H s)(G:X.N.Nodup)(hi:X.N[i]?=some n)(l:X.env.scope.names.lookup n=some .local)(go:∀s',Inv X pins (σ.set i none) H s'->Q Unit.unit s'):u4 M A (do TN X.env n .none;Rt X.env n p) Q E s:=by
 have R:(X.env.scope.kind == .class||(X.env.scope.kind == .module&&X.env.locals != X.env.globals))=false:=by rw[I.ok.kind];rfl
 have g:X.env.kindOf n=some .local:=l;refine bB (TQ (iV I G hi (.inl l) (show RelV .gq Value.none from rfl) (λO C=>?_) (.inr l)));have(m,T,D):=id C.loc;unfold Rt;refine Ri ?_;unfold unbindName;refine bB (wpAny_point (bB ?_));unfold deleteName;simp only[g,R];rw[if_neg (by decide)];refine bB (wpAny_nsDel_keeps T λZ L t e=>?_)
 have U:(m n).isSome=true:=by
  have(u,r,q):=D i n .gq hi (by rw[PK (by rw[I.len];exact(ko.mp hi).1)]) (.inl l);rcases q with⟨_,q⟩|⟨q,_⟩
  .rw[q];rfl
  .rw[g]at q;rcases q with q|q<;>cases q
 simp only[U,Bool.not_true,NC,if_false];refine lj (wpAny_point (go _ ?_));refine C.names (σ':=σ.set i none) (t':=O.toks) e t (by simp) λj y v J o V=>?_
 have w:j≠i:=λz=>by
  subst z;rw[PK (by rw[I.len];exact(ko.mp hi).1)]at o
  cases o
 rw[Pd (NW w)]at o;have(u,r,q):=D j y v J (by rw[Pd (NW w)];exact o) V;refine#[u,r,?_];rcases q with⟨q1,q2⟩|⟨q1,c,q2,q3⟩
 .refine .inl #[q1,?_];have:y≠n:=λz=>w (sf G (by rw[J,z]) hi);show(if y=n then L else m y)=some u;rw[if_neg this];exact q2
 .have(P,d,B):=q3;refine .inr #[q1,c,q2,P,(e.2 c ?_).trans d,B];intro z;have(Y,(W,es,ep,S,hd,_),_):=C.loc;rw[z,S]at d
  cases d
  rw[hd]at B
  cases B
def uu(x C:Addr)(od:Option Addr):Heap->Prop:=λh=>∃d e,h.get? x=some d/\d.cls=.ref C/\d.dict=od/\d.data=.fields e
theorem FF (e:uu x C od h):dO P w H h x (.ext (uu x C od)) :=
 #[e,e.elim λ_ q=>q.elim λ_ q=>#[_,q.1],λ_ _ ⟨g,d,q,r⟩ k=>#[g,d,k _ q,r]]
structure wC(K:Frag) (C G:Addr):Prop where
 cls:∀h,K.In h->∃nm q N bs bm hdct sn sub ab col dd k0 k1 k2 k3 k5 nw,h.get? C=some (Qe nm q C N bs bm hdct sn sub ab col dd k0 k1 k2 k3 k5 nw)/\(Value.ref C::bm).contains (.ref G)=true
 top:zQ K G
theorem BZ {K:Frag}(p:K.In s.heap)(S:wC K C G)(I:s.heap.get? x=some m)(g:m.cls=.ref C)(go:Q true s):u4 M A (excMatches (.ref x) (.ref G)) Q E s:=by
 have(nm,q,N,bs,bm,o,W,sub,ab,R,dd,k0,k1,k2,k3,k5,Z,L,d):=S.cls _ p;have(w,X,N',T,j,e,u,l,U,t,P,H,D,B,z,y,v,r,J):=S.top.cls _ p;have O:(Value.ref G::j).contains (.type "BaseException")=true:=by rw[OY,J,RU]
 have f:=tc_notTuple;have(h9,g9,d9,V,Y):=s;unfold excMatches
 repeat (first|(with_reducible refine ON I ?_;rw[g])|(with_reducible refine ON r ?_)|(with_reducible refine Qu r ?_;rw[O])|(with_reducible refine Qu L ?_;rw[d])|wp_step)
 exact go
noncomputable def Cx.Cp(X:Cx)(x:Addr):Cx:={X with A:=X.A.mark (some (.ref x)),calm:=false,xe:=λ_ _=>False}
theorem Inv.Cp (I:Inv X pins σ H s)(x:Addr):Inv (X.Cp x) pins σ H s :=
 #[#[I.ok.mod,I.ok.kind,I.ok.glob,I.ok.blt,I.ok.above,I.ok.inj,I.ok.has,I.ok.cab,nofun,I.ok.frames,I.ok.stk,I.ok.exf,I.ok.bs,I.ok.bsz,I.ok.noex,I.ok.exfs,I.ok.oM,I.ok.frf],I.os,I.bare,I.base,I.loc,I.cell,I.free,I.freeC,I.pin,I.hok,I.len]
theorem Inv.Lb (I:Inv (X.Cp x) pins σ H s)(ok:X.Ok):Inv X pins σ H s:=#[ok,I.os,I.bare,I.base,I.loc,I.cell,I.free,I.freeC,I.pin,I.hok,I.len]
theorem Inv.JQ (I:Inv X [] σ H s)(g:X.pn=[])(F:Fl H s.heap X.s₀.heap.objs.size x C od O):Inv X [] σ (upd H x (.ext (uu x C od))) s:=by
 have((D,A,v,l,j,hd,M,Q),E,L):=F;have(J,G,P):=I.wu v hd;have ne:∀b u,H b=some u->b≠x:=λb u e z=>by(rw[z,L]at e;cases e)
 have d:∀b o,X.s₀.heap.get? b=some o->b≠x:=λb o e z=>Np _ (zo (ri e) (by rw[z];exact E));refine#[I.ok,I.os,I.bare,#[I.base.keep,I.base.slot,λb o e n N=>?_,I.base.there,λb r e=>?_,λb o u e=>?_,λb B e=>?_],I.loc,I.cell,?_,λy c h=>?_,λp t=>?_,λb u e=>?_,I.len]
 .rw[ay (d b o e)];exact I.base.free b o e n N
 .have q:=I.base.tups b r e;rw[ay (ne b _ q)];exact q
 .have q:=I.base.frzs b o u e;rw[ay (ne b _ q)];exact q
 .have(m,q):=I.base.tbls b B e;exact#[m,by rw[ay (ne b _ q)];exact q]
 .rw[ay (NW J)];exact I.free
 .rw[ay (G y c h)];exact I.freeC y c h
 .rw[g]at t
  cases t
 .by_cases w:b=x
  .subst w;rw[af]at e
   cases e
   exact FF #[D,A,v,l,j,hd]
  .rw[ay w]at e;exact(I.hok b u e).stay (λ_ _ _ q=>q) (λc q=>by rw[ay (ne c _ q)];exact q) λc r q=>by rw[ay (ne c _ q)];exact q
def Lc(X:Cx)(st:Stmt)(t:TS):Prop :=
 ∀(s:eT) (d:St) (H:Hp) (D:Ends),Inv X [] d H s->t D d H->u4 (L0 X.prog X.w) X.A (exec st X.env) (SP X [] D) X.xe s
def yr(X:Cx)(st:List Stmt)(t:TS):Prop :=
 ∀(s:eT) (d:St) (H:Hp) (D:Ends),Inv X [] d H s->t D d H->u4 (L0 X.prog X.w) X.A (execs st X.env) (SP X [] D) X.xe s
theorem qy.top {st:List Stmt}(h:qy X st t):yr X st t:=λs d H D I q=>h [] s d H D I q
theorem PS.top {st:Stmt}(h:PS X st t):Lc X st t:=λs d H D I q=>h [] s d H D I q
noncomputable def behind(i:Nat)(D:Ends):Ends:={nx:=λd H=>D.nx (d.set i none) H,rt:=D.rt,bk:=λd H=>D.bk (d.set i none) H,ct:=λd H=>D.ct (d.set i none) H}
def Ld(K:Frag)(G:Addr)(nl i:Nat)(E':XK)(m:TS)(l:TS):TS:=λD j H=>m D j H/\∀d g e,E' d g e->∃C,d=.ref C/\wC K C G/\∀x,e x=none->l (behind i D) ((MU nl none).set i (some (.ref x))) (upd e x (.ext (uu x C g)))
theorem Ik {T:TS}{V:Pos}(p:X.pn=[])(O:X.stack=X.env::X.outer)(hf:X.env.frame=some X.env.locals)(hb:qy (X.jf (Gy X E')) B T)(hg:Gl X g)(hm:X.mg g=some (.ref G))(hN:X.N.Nodup)(hi:X.N[i]?=some n)(hk:X.env.scope.names.lookup n=some .local)(hs:∀x,qy (X.Cp x) (W::l) R)(hdb:(g == ("__debug__":Str))=false:=by decide):
  Lc X (.Try B [.ExceptHandler (some (.Name g gp)) (some n) (W::l) V] [] [] M) (Ld X.K G X.N.length i E' T R):=by
 intro s σ H D I h;have(h1,h2):=h;refine wpAny_Try_except (Nk (hb [] s σ H D (I.jf _) h1) (λf s1 q=>?_) λe s1 q=>?_)
 .cases f with
  |next=>exact lj q.dY
  |brk=>exact q.dY
  |cont=>exact q.dY
  |ret u=>exact q.dY
 .have(x,C,od,fl,aa,H1,rfl,I1,F1,q1):=q;have(C',ec,S,q2):=h2 _ _ _ q1
  cases ec
  have q3:=q2 x F1.hx;refine wA I1 p O hf F1 λs2 o2 I2 F2=>?_;refine nW I2 p F2 λs3 ac o3 I3 Z=>?_;refine wpAny_handleBy_cons (codeAny_handlers_test ?_) (by intro z;cases z);have Q:=I3.Cp x;refine pH Q hg hm ?_ hdb;have(oe,vs,he,P,_):=Z.ob;refine BZ Q.tZ S he P ?_;refine codeAny_handlers_suite_as ?_;refine nW (X:=X.Cp x) Q p Z λs4 ab o4 J4 F4=>?_;have Y:=Inv.JQ J4 p F4
  have J6:Inv (X.Cp x) [] (MU X.N.length none) (upd H1 x (.ext (uu x C od))) s4:=Y.weak (by rw[O0];exact Y.len.symm) λj v e=>by
   rw[Py]at e
   split at e<;>cases e
  refine iV (X:=X.Cp x) J6 hN hi (.inl hk) (show RelV (.ref x) (Value.ref x)from rfl) (λs5 J7=>?_) (.inr hk);refine Nk (hs x [] s5 _ _ _ J7 q3) (λf U E=>?_) λ_ _ z=>z.elim
  have t:∀{d:St}{m:Hp}{L:Flow->eT->Prop},Inv (X.Cp x) [] d m U->(∀o,Inv X [] (d.set i none) m o->L f o)->u4 (L0 X.prog X.w) X.A (do TN X.env n .none;Rt X.env n V) (λ_ o=>L f o) X.xe U:=λ{d m L} J go =>
   FE (J.Lb I.ok) hN hi hk λo y=>go o y
  cases f with
  |next =>
   have(d,m,J,q):=E;exact t J λo y=>#[_,m,y,q]
  |brk =>
   have(d,m,J,q):=E;exact t J λo y=>#[_,m,y,q]
  |cont =>
   have(d,m,J,q):=E;exact t J λo y=>#[_,m,y,q]
  |ret u =>
   have(v,d,m,J,r,q):=E;exact t J λo y=>#[v,_,m,y,r,q]
def mj(H:Hp)(x C:Addr)(fs:List (Str×V)):Prop:=(fs=[]/\H x=some (.ext (uu x C none)))\/∃d,H x=some (.ext (uu x C (some d)))/\H d=some (.xd fs)
theorem mj.Cp (e:mj H x C fs)(ok:mU P w H h):Gx x C h:=by
 rcases e with⟨-,e⟩|⟨dx,e,ed⟩
 .obtain⟨⟨j,p,m,l,g,d⟩,-,-⟩:=ok x _ e;exact#[j,none,m,l,by(unfold notCls;rw[d]),by(rw[g];trivial)]
 .obtain⟨⟨j,p,m,l,g,d⟩,-,-⟩:=ok x _ e;obtain⟨r,⟨o,t,u,q,-⟩,-⟩:=ok dx _ ed;exact#[j,some o,m,l,by(unfold notCls;rw[d]),by(rw[g];exact q)]
theorem qW :j4 X (.builtin "isinstance") (λxs H Q=>∃x C fs D r,xs=[.ref x,.ref D]/\mj H x C fs/\DI X.K C/\Sk X.K (.ref C) (.ref D)=some r/\Q (.bl r) H):=by
 intro d s l H xs m Q I r h;have(x,C,fs,D,b,rfl,e,G,k,q):=h;have(u,g,rfl,j,r2):=vals2 r;obtain rfl:u=Value.ref x:=j;obtain rfl:g=Value.ref D:=r2;exact kia_one (AV G) I.tZ (e.Cp I.hok) k nofun λo=>#[.bl b,H,I.tok _,rfl,q]
theorem wD :j4 X (.builtin "isinstance") (λxs H Q=>∃x C fs d,∃g:List Addr,∃r,xs=[.ref x,.ref d]/\mj H x C fs/\DI X.K C/\bQ X.K H d (g.map V.ref)/\kitAny X.K (.ref C) (g.map Value.ref)=some r/\Q (.bl r) H):=by
 intro j s D H xs E Q I r h;have(x,C,fs,d,g,b,rfl,e,G,m,k,q):=h;have(u,l,rfl,p,r2):=vals2 r;obtain rfl:u=Value.ref x:=p;obtain rfl:l=Value.ref d:=r2;obtain⟨y,o,A,-⟩:=I.tuple m;have z:=vm o;subst z;have((L,v,w,t),B,rfl,n,rfl):=A;exact kia_tup (AV G) I.tZ (e.Cp I.hok) B k nofun λJ=>#[.bl b,H,I.tok _,rfl,q]
def Il(K:Frag)(g:TE)(n:Str):TE:=λe H Q=>g e H λx d=>∃a C fs v,x=.ref a/\mj d a C fs/\Ig K C n/\fs.lookup n=some v/\Q v d
theorem yt (S:PE X e y)(T:Rf e n X.env (eval e X.env)=eval e X.env:=by rfl):PE X (.Attribute e n m) (Il X.K y n):=by
 intro d s D H Q I h;refine ED T (dw (S d s D H _ I h) λu s1 ⟨x,Z,g,E,a,C,fs,v,ex,w,R,l,q⟩=>?_);subst ex;obtain rfl:u=Value.ref a:=E;rcases w with⟨rfl,-⟩|⟨dx,w,ed⟩
 .cases l
 obtain⟨⟨J,vs,Y,W,t,p⟩,-,-⟩:=g.hok a _ w;have(N,(o,es,ep,V,r,sk,uk,M),j):=g.hok dx _ ed;have(u,P,A):=mS.some_of (v:=v) (o:=N n) (by rw[<-l];exact j n);have(B,U,L):=R.no
 have O:lookIn n o=some (some u):=by
  have z:=M n;rw[P]at z;unfold Vn findBy at z;have(en,q1,G):=ur.mp z;unfold lookIn;rw[r];dsimp only;rw[<-Array.find?_toList]at q1;rw[q1];exact congrArg (λz=>some (some z)) G
 exact BU (ox:=J) (od:=some o) g.tZ #[Y,W,by(unfold notCls;rw[p]),by(rw[t];exact V)] R.hg (findObj_own R.hd U L O) (Bh A) #[v,Z,g.tok _,A,q]
theorem vo {st:Stmt}(l:Lc X st t)(j:yr X rest u):yr X (st::rest) (aL t u):=by
 intro s e H D I h;refine Qf (dw (l s e H {D with nx:=u D} I h) λf g q=>?_)
 cases f with
 |next =>
  have(d,o,m,q):=q;exact j g d o D m q
 |ret v=>exact q
 |brk=>exact q
 |cont=>exact q
theorem ic.JR {K:bA}{st:Stmt}(F:ic K x g st f p)(S:aK N ps (ak st))(len:∀l H Q E,sp l H Q E->l.length=ps.length)(hbody:∀(j:cB) (A:MM) (d:List Env) (s:eT) (H:Hp) (l:List V) (Q:VK) (E:XK),fB k (A.deeper (Rz g (ak st) s.heap.objs.size f j))->sp l H Q E ->
   ∃t,qy ((m6 (Eu P w) P w K mg base N g (ak st) f j A d s H E).jf (Gy (m6 (Eu P w) P w K mg base N g (ak st) f j A d s H E) E)) (bM st) t/\t {nx:=λ_ y=>Q .gq y,rt:=Q} (start N l) H):bH P w K mg base (Eu P w) (k+1) f p ps sp:=by
 have(G,D,kV,v,C,J,j,I,r,rfl,u,o):=F.ex;refine CB u o S len λA d s H l Q E hr m=>?_;have(t,h,q):=hbody j A d s H l Q E hr m;exact#[t,qy.Ih (λe B z=>Ii z) h,q]
end L2
namespace L2
open PySem PySem.Spec PyProof.Rows
theorem yr.yU {st:List Stmt}(h:yr X.yU st t):yr X st t:=λs d H D I e =>
 Nk (h s d H D (I.jf _) e) (λ_ _ q=>q.dY) λ_ _ z=>Nx z
theorem Im {K:bA}{kV T:cB}(lk:K.lookup f=some #[oc,od,.func (Pg name j m z d dV kV T pm an l ct),osl])(hcd:Qq K l j=true)(S:aK N ps d)(len:∀C H Q E,sp C H Q E->C.length=ps.length)(hbody:∀(A:MM) (g:List Env) (s:eT) (H:Hp) (C:List V) (Q:VK) (E:XK),fB k (A.deeper (Rz j d s.heap.objs.size f l))->sp C H Q E ->
   ∃t,yr (m6 U P w K mg p N j d f l A g s H E) z t/\t {nx:=λ_ D=>Q .gq D,rt:=Q} (start N C) H):
  bH P w K mg p U (k+1) f (Pg name j m z d dV kV T pm an l ct) ps sp:=by
 refine#[len,λA g s H aa us C Q E hr R hb r M=>?_];have hl:=len _ _ _ _ M;have KX:K.In s.heap:=R.mod.kin.keeps λb o e=>(R.bs b o e).1;have Z:s.heap.NoLimit:=R.mod.nolimit.keeps λb o e=>(R.bs b o e).1
 have G:∀y∈ps.zip us,d.names.lookup y.1=some .local\/(d.names.lookup y.1=some .cell/\((UZ (s.heap.objs.size+1) d.names []).lookup y.1).isSome=true):=λ⟨n,v⟩ hy=>by
  rcases S.par n (PN hy).1 with q|q
  .exact .inl q
  .exact .inr #[q,QO _ _ _ (.inl q)]
 refine Q2 hr.depth (KX _ _ lk) rfl S.co S.gen rfl (Ux KX hcd) (hb _ _ _ _ ?_);refine R4 S.kind G λab he s1 x=>?_;subst he;refine#[Z.keeps x.toInCall.keep,UJ ?_];have(t,ht,hq):=hbody A g s H C Q E (hr.deeper _) M;have I:Inv (m6 U P w K mg p N j d f l A g s H E) [] (start N C) H s1:=uO S hr.hd R hl r x;refine Nk (ht s1 (start N C) H _ I hq) (λfl X L=>?_) λe X L=>L
 have O:∀{B:St}{D:Hp}{v:V}{u:cB},Inv (m6 U P w K mg p N j d f l A g s H E) [] B D X->RelV v u->Q v D->CE g P w H s Q u X :=
  λ{B D v u} J Y q=>#[v,D,J.os,J.bare,J.base,J.hok,Y,q]
 cases fl with
 |ret u =>
  have(v,B,D,J,Y,q):=L;exact O J Y q
 |next =>
  have(B,D,J,q):=L;exact O (v:=V.gq) (u:=Value.none) J rfl q
 |brk =>
  have(_,_,_,q):=L;exact Nx q
 |cont =>
  have(_,_,_,q):=L;exact Nx q
theorem ic.Le {K:bA}{st:Stmt}(F:ic K x e st f o)(S:aK N ps (ak st))(len:∀j H Q E,sp j H Q E->j.length=ps.length)(hbody:∀(g:cB) (A:MM) (d:List Env) (s:eT) (H:Hp) (j:List V) (Q:VK) (E:XK),fB k (A.deeper (Rz e (ak st) s.heap.objs.size f g))->sp j H Q E ->
   ∃t,yr (m6 eZ P w K mg base N e (ak st) f g A d s H E).yU (bM st) t/\t {nx:=λ_ v=>Q .gq v,rt:=Q} (start N j) H):bH P w K mg base eZ (k+1) f o ps sp:=by
 have(B,z,kV,u,y,D,g,C,p,rfl,r,m):=F.ex;refine Im r m S len λA d s H j Q E hr l=>?_;have(t,h,q):=hbody g A d s H j Q E hr l;exact#[t,h.yU,q]
end L2
namespace L2
open PySem PySem.Spec PyProof.Rows PySem.W
def AW(C:Addr)(n:Str):Sp:=λe H Q _=>∃(x:Addr) (y:V),e=[.ref x,y]/\H x=some (.ext (gw x C none))/\∀d,H d=none->d≠x->Q .gq (upd (upd H d (.xd [(n,y)])) x (.ext (gw x C (some d))))
structure FH(P:sC) (w:FT) (K:Frag) (mg:Str->Option cB) (base:Heap) (x:Str) (k:Nat) (ps:List Str) (sp:Sp) (f:Addr) (fd:rE):Prop where
 ok:bH P w K mg base (Eu P w) k f fd ps sp
 at':mg x=some (.ref f)
 kp:NF K (.ref f)=true
 bd:Binds K fd ps []
structure Kq(P:sC) (w:FT) (K:Frag) (mg:Str->Option cB) (base:Heap) (x:Str) (n:Str) (C f:Addr) (fd:rE):Prop where
 k:Fz K C f
 ok:bH P w K mg base eZ 1 f fd ["self",n] (AW C n)
 m:mg x=some (.ref C)
 bd:Binds K fd ["self",n] []
 c:zQ K C
def Told(E:XK)(H:Hp)(C:Addr)(n:Str)(y:V):Prop:=∀(d:Addr) (e:Hp),aF H e->H d=none->e d=some (.xd [(n,y)])->E (.ref C) (some d) e
theorem Told.same (t:Told E H C n y)(s:aF H d):Told E d C n y:=λl m e j g=>t l m (s.trans e) (s.free j) g
theorem tR {K:Frag}(c:zQ K C)(h:Told E H C n y):∀x,m<=x->H x=none->AW C n (.ref x::([y]++[])) (upd H x (.ext (gw x C none))) (λv l=>v=.gq/\∃d j od,V.ref x=.ref d/\m<=d/\l d=some (.ext (gw d j od))/\zQ K j/\E (.ref j) od (Co d l)) E0:=by
 intro x r p;refine#[x,y,rfl,af,λg hd ne=>#[rfl,x,C,some g,rfl,r,af,c,h g _ (λb u q=>?_) ?_ ?_]]
 .have e:b≠x:=au q p
  have o:b≠g:=by
   intro z;subst z;rw[ay e]at hd;rw[hd]at q
   cases q
  rw[nK e,ay e,ay o,ay e];exact q
 .rw[ay ne]at hd;exact hd
 .rw[nK ne,ay ne];exact af
end L2
namespace G34
open PySem L2
theorem iH {ns:List Int}:rK (.int n) (ns.map V.int)=decide (n∈ns):=by
 unfold rK
 by_cases h:n∈ns
 .rw[decide_eq_true h,Va];exact#[.int n,Ni h,show(n == n)=true from beq_self_eq_true n]
 .rw[decide_eq_false h,Sz];intro y g e;have(z,d,rfl):=NV.mp g;have:z=n:=Oa (show(z == n)=true from e);exact h (this▸d)
theorem DL {xs:List Str}:rK (.str x) (xs.map V.str)=decide (x∈xs):=by
 unfold rK
 by_cases h:x∈xs
 .rw[decide_eq_true h,Va];exact#[.str x,Ni h,show(x == x)=true from beq_self_eq_true x]
 .rw[decide_eq_false h,Sz];intro y g e;have(z,d,rfl):=NV.mp g;have:z=x:=Oa (show(z == x)=true from e);exact h (this▸d)
theorem gb (ns:List Int):(ns.map V.int).all mJ=true:=by
 rw[Oz];intro y d;have(z,_,rfl):=NV.mp d;rfl
noncomputable def kH{d:Type}(tr:d->T)(p:Int×d):T:=.t [.i p.1,tr p.2]
structure Lf{α:Type}(gf:α->List Int) (okA:α->Prop) (there:List Int) (fl:List (Int×α)):Prop where
 len:fl.length<=8
 tl:there.length<=900
 ok:∀p∈fl,okA p.2/\(gf p.2).length<=50
 at_:∀p∈fl,p.1∈there
 nd:(fl.map (·.1)).Nodup
 gs:((there.filter λn=>!decide (n∈fl.map (·.1)))++fl.flatMap λp=>gf p.2).Nodup
theorem AX (ns:List Int):∀l:List Int,(l.flatMap λn=>if n∈ns then []else [T.i n])=(l.filter λn=>!decide (n∈ns)).map T.i
 | []=>rfl
 |n::r=>by
  rw[NJ,AX ns r]
  by_cases h:n∈ns
  .rw[if_pos h,List.filter_cons_of_neg (by simp[h])];rfl
  .rw[if_neg h,List.filter_cons_of_pos (by simp[h])];rfl
theorem mq {d:Type}{xs:List d}{x:d}(h:xs[i]?=some x):xs.drop i=x::xs.drop (i+1):=by
 rw[List.drop_eq_getElem_cons (ko.mp h).1,(ko.mp h).2]
def Gz(t:Tm):Prop:=Wf t/\t.size<=900
noncomputable def tS(k:Kk):List Int:=k.qw.toList
structure B0{α:Type}(gf:α->List Int) (g0 gs:List Int) (fl:List (Int×α)):Prop where
 at_:∀p∈fl,p.1∈g0
 gp:∀p∈fl,∀g∈gf p.2,g=p.1\/(g∉g0/\g∈gs)
 gn:(fl.flatMap λp=>gf p.2).Nodup
theorem B0.nil {gf:d->List Int}:B0 gf g0 e []:=#[λ_ h=>(nomatch h),λ_ h=>(nomatch h),Ua]
theorem B0.snoc {gf:t->List Int}{w:List (Int×t)}{a:t}(h:B0 gf g0 r w)(hn:n∈g0)(nn:n∉w.map (·.1))(sub:∀x∈g0,x∈r)(B:(r++u).Nodup)(hg:(gf a).Sublist u\/gf a=[n]):B0 gf g0 (r++u) (w++[(n,a)]):=by
 have(_,C,A):=NZ.mp B;refine#[λp d=>?_,λp d g l=>?_,?_]
 .rcases MH.mp d with z|z
  .exact h.at_ p z
  .rw[pD.mp z];exact hn
 .rcases MH.mp d with z|z
  .rcases h.gp p z g l with e|⟨e1,e2⟩
   .exact .inl e
   .exact .inr #[e1,M8 _ e2]
  .obtain rfl:=pD.mp z;rcases hg with hg|hg
   .have m:=hg.subset l;exact .inr #[λq=>A g (sub g q) g m rfl,I0 _ m]
   .have j:g∈gf a:=l;rw[hg]at j;exact .inl (pD.mp j)
 .rw[Nv,show([(n,a)].flatMap λp=>gf p.2)=gf a by simp];refine NZ.mpr #[h.gn,?_,λx o y v e=>?_]
  .rcases hg with hg|hg
   .exact hg.nodup C
   .rw[hg];exact O9.mpr #[λz=>(nomatch z),Ua]
  .subst e;have(p,d,o):=PD.mp o;rcases hg with hg|hg
   .have m:=hg.subset v;rcases h.gp p d x o with e|⟨_,e2⟩
    .exact A x (sub x (e▸h.at_ p d)) x m rfl
    .exact A x e2 x m rfl
   .rw[hg]at v;obtain rfl:=pD.mp v;rcases h.gp p d x o with e|⟨e1,_⟩
    .exact nn (e▸Ni d)
    .exact e1 hn
structure Lg{α:Type}(gf:α->List Int) (g0:List Int) (fl:List (Int×α)):Prop where
 at_:∀p∈fl,p.1∈g0
 nd:(fl.map (·.1)).Nodup
 gp:∀p∈fl,∀g∈gf p.2,g∈fl.map (·.1)\/g∉g0
 gn:(fl.flatMap λp=>gf p.2).Nodup
theorem B0.fi {gf:j->List Int}{d:List (Int×j)}(h:B0 gf g0 q d)(m:(d.map (·.1)).Nodup):Lg gf g0 d:=#[h.at_,m,λp l g o=>(h.gp p l g o).elim (λe=>.inl (e▸Ni l)) (λe=>.inr e.1),h.gn]
theorem Lg.ok {gf:g->List Int}{okA:g->Prop}{d:List (Int×g)}(h:Lg gf g0 d)(m:g0.Nodup)(len:d.length<=8)(l:g0.length<=900)(ok:∀p∈d,okA p.2/\(gf p.2).length<=50):Lf gf okA g0 d:=by
 refine#[len,l,ok,h.at_,h.nd,NZ.mpr #[Ur.sublist List.filter_sublist m,h.gn,λx r y q e=>?_]];subst e;have(o,j):=Rw.mp r;have(p,t,u):=PD.mp q;rcases h.gp p t x u with z|z
 .rw[decide_eq_true z]at j;cases j
 .exact z o
theorem DM {d:Type}{L:List d}{n:d}(h:L[k]?=some n):L.Perm (n::L.eraseIdx k):=by
 have g:=(ko.mp h);rw[NR];have e:L=L.take k++n::L.drop (k+1):=by rw[<-mq h,List.take_append_drop]
 conv=>lhs;rw[e]
 exact List.perm_middle
theorem DN {d e:Type}{f:d->e}{L:List d}{M:List e}{n:d}(h:L[k]?=some n)(l:(L.map f++M).Nodup):((L.eraseIdx k).map f++(M++[f n])).Nodup:=by
 have j:=((DM h).map f).append_right M
 have g:(f n::((L.eraseIdx k).map f++M)).Perm ((L.eraseIdx k).map f++(M++[f n])):=by
  rw[<-M6];exact(List.perm_append_singleton _ _).symm
 exact(j.trans g).nodup l
def Un(xs:List Str):Prop:=∀(i j:Nat) (x:Str),xs[i]?=some x->xs[j]?=some x->i=j
noncomputable def lets:List Nat:=(MI "abcdefghijklmnopqrstuvwxyz").cps.toList
theorem FJ :∀i<26,∀j<26,lets[i]?=lets[j]?->i=j:=by decide
theorem DO :lets.length=26:=by decide
def tY(e:List Nat)(d:Int)(i:Nat)(x:Str):Prop:=∃c r,jZ lets ((d+7*(i:Int)) % 26)=some c/\x.cps.toList=e++c::r
theorem tY.un (hi:i<26)(w:j<26)(a:tY g d i x)(b:tY g d j x):i=j:=by
 have(c,r,p,t):=a;have(z,v,o,m):=b;rw[t]at m;have e:=List.append_cancel_left m;injection e with e _;subst e
 have f:∀n:Int,0<=n->n<26->jZ lets n=lets[n.toNat]?:=λn y h=>by
  have l:n.toNat<lets.length:=by rw[DO];omega
  have u:n=((n.toNat:Nat):Int):=()
  have q:jZ lets ((n.toNat:Nat):Int)=some lets[n.toNat]:=bz (my l);rw[<-u]at q;rw[q,my l]
 rw[f _ () ()]at p o;have:=FJ _ () _ () (p.trans o.symm);omega
theorem tY.snoc (a:tY e d i x)(y:Str):tY e d i (x++y):=by
 have(c,r,j,g):=a;refine#[c,r++y.cps.toList,j,?_];show(x.cps++y.cps).toList=_;rw[RK,g];simp
theorem tY.Mz (m:xs.length<=26)(h:∀j x,xs[j]?=some x->tY e d j x):Un xs:=λi j x l g=>by
 have:=(ko.mp l).1;have:=(ko.mp g).1;exact tY.un () () (h i x l) (h j x g)
theorem tY.last (C:(xs++[x2,r]).length<=26)(G:0<y.length)(h:∀j x,(xs++[x2,r])[j]?=some x->tY g d j x):Un (xs++[x2,x2++y]):=by
 have B:xs.length+2<=26:=by simpa using C
 have E:tY g d xs.length x2:=h xs.length x2 (by simp);have t:tY g d xs.length (x2++y):=E.snoc y
 have ne:x2++y≠x2:=λz=>by
  have:=congrArg R8 z;rw[Rj]at this;omega
 have l:∀j x,j<xs.length+1->(xs++[x2,x2++y])[j]?=some x->tY g d j x:=λj x H e=>by
  refine h j x ?_
  by_cases c:j<xs.length
  .rw[Ng c]at e|-;exact e
  .have:j=xs.length:=()
   subst this;simp at e|-;exact e
 intro i j x o m;have A:=(ko.mp o).1;have w:=(ko.mp m).1;have v:(xs++[x2,x2++y]).length=xs.length+2:=by simp
 rw[v]at A w
 have lst:∀k x,k=xs.length+1->(xs++[x2,x2++y])[k]?=some x->x=x2++y:=λk x D e=>by
  subst D;rw[M7 ()]at e;simp at e;exact e.symm
 by_cases u:i<xs.length+1
 .by_cases q:j<xs.length+1
  .exact tY.un () () (l i x u o) (l j x q m)
  .have p:=lst j x () m;subst p;have:=tY.un () () (l i _ u o) t;subst this;exact absurd (by simpa using o) ne.symm
 .by_cases q:j<xs.length+1
  .have p:=lst i x () o;subst p;have:=tY.un () () (l j _ q m) t;subst this;exact absurd (by simpa using m) ne.symm
  .omega
def Lo(x:Str):Prop:=∀c∈x.cps.toList,c<1000
theorem Lo.append (a:Lo x)(b:Lo y):Lo (x++y):=λc h=>by
 have d:c∈(x.cps++y.cps).toList:=h;rw[RK]at d;rcases MH.mp d with h|h
 .exact a c h
 .exact b c h
theorem Lo.slice (a:Lo x)(l u:Option Int):Lo (OC x l u):=λc h=>by
 unfold OC at h
 split at h
 .exact a c h
 .rw[List.toList_toArray]at h;have(i,_,e):=R1.mp h;refine a c ?_;rw[Ub];exact Array.mem_of_getElem? e
theorem AY :∀c∈lets,c<1000:=by decide
theorem Lo.one (h:c∈lets):Lo ⟨#[c]⟩:=λd hd=>by
 have:d=c:=by simpa using hd
 rw[this];exact AY c h
theorem Lo.q (b:Bool):Lo (Sy "q" (if b then 1 else 0)):=by
 have h:∀b:Bool,((Sy "q" (if b then 1 else 0)).cps.toList.all (· < 1000))=true:=by decide
 intro c d;have:=Oz.mp (h b) c d
 simpa using this
theorem Lo.q1 :Lo (MI "q"):=by
 have h:((MI "q").cps.toList.all (· < 1000))=true:=by decide
 intro c d;have:=Oz.mp h c d
 simpa using this
def AZ:Sp:=λg H Q _=>∃(f:Addr) (m:Nat),g=[.ref f,.int m]/\1<=m/\m<=26/\cg H f /\
 ∀(r:Addr) (e:Hp) (d:List Str),Ext f H e->H r=none->e r=some (.lst (d.map V.str))->d.length=m->(∀x∈d,x.length<=20/\Lo x)->Un d->Q (.ref r) e
theorem Ext.free (e:Ext f H d)(h:d l=none):H l=none:=by
 cases q:H l with
 |none=>rfl
 |some o =>
  by_cases n:l=f
  .subst n;have(a,b,z):=e.2;rw[h]at z;cases z
  .rw[e.1 l o n q]at h;cases h
theorem qH :∀xs:List Str,(xs.map V.str).all mJ=true
 | []=>rfl
 |y::r=>by rw[M0,Rg,qH r];rfl
theorem rS {xs:List Str}(d:cg H f)(h:H l=some (.lst (xs.map V.str))):l≠f:=λz=>by
 have(p,q,e):=d;rw[<-z,h]at e;injection e with e;injection e with e
 cases xs with
 |nil=>cases e
 |cons y ys=>rw[M0]at e;injection e with e;cases e
theorem b9 (d:cg H f)(h:H l=none):l≠f:=λz=>by
 have(p,q,e):=d;rw[<-z,h]at e
 cases e
def ik(K:bA)(n:Nat):Sp:=λj H Q _=>∃(f l:Addr) (d:Int) (e:List Str),j=[.ref f,.ref l,.int d]/\cg H f/\H l=some (.lst (e.map V.str))/\e.length<=100/\0<=d/\d<n /\
 ∀(v:V) (g:Hp) (k:Kk),Ext f H g->Rp K g (cu k) v->k.ok e->k.dep<=d.toNat->Q v g
theorem cy :Nm Wj (ak fW):=by decide
theorem uv :Lm Wj (ak fW):=by decide
theorem oJ :aK Wj VF (ak fW):=#[rfl,rfl,rfl,by decide,rfl,by decide,by decide]
theorem yu (hj:1<=j)(F:ic K "_law_any_kind" "_law_any_kind" fW f N)(O:dH P w K mg base "_law_take" 1 Vy eK gT tfd)(AK:dH P w K mg base "_law_any_kind" j VF (ik K n) gA afd)(z_len:mg "len"=none):bH P w K mg base eZ (j+1) f N VF (ik K (n+1)):=by
 refine F.ok oJ (λT H Q E h=>?_) (λad A v s H T Q E hr h=>?_)
 .have(_,_,_,_,rfl,_):=h;rfl
 have(M,l,d,xs,rfl,hf,J,hx,aa,hd,k):=h;refine#[_,(Z5 (Z2 oJ.nd uv 3 (Z0 O (cZ (va cy 0) (Za aq)))) (Z5 (Zd (PW.pt (@iL _ _ _ _ _ _ _ (Zq bR (va cy 3) aq) (@iz _ _ _ _ (Zq mH (va cy 2) aq)))) (Ze (Zo (Zg (Z1 aB (Z1 (Z0 AK (Z1 (va cy 0) (Z1 (va cy 1) (Z1 (aS bK (va cy 2) aq) ao)))) ao)))))) (Z5 (Zd (PW.pt (@iL _ _ _ _ _ _ _ (Zq mH (va cy 3) aq) (@iz _ _ _ _ (Zj mH (Z4 (Za (va cy 1))) aq)))) (Ze (Zo (Zg (Z1 aB (Z1 (Zl aN (va cy 1) (Z0 O (Z1 (va cy 0) (Z1 (Z4 (Za (va cy 1))) ao)))) ao)))))) (bW (cH aB))))),?_]
 right
 right
 refine pZ ?_;intro N1 N2 N3 c1 m C;ext;intro L R ac ab o;have p:=o.1 _ _ (rS hf J) J;have B:=o.2
 have e:N3 [some (.ref M),some (.ref l),some (.int d),some (.int L)] R:=by
  ext;exact k _ _ .num o .s True.intro (MP _)
 have rest:N2 [some (.ref M),some (.ref l),some (.int d),some (.int L)] R:=by
  clear C;ext;refine cM (λc=>?_) (λc=>?_)
  .ext;refine cM (λm=>?_) (λm=>?_)
   .have ag:(0:Int)<((xs.map V.str).length:Int):=of_decide_eq_true m;have Y:((xs.map V.str).length:Int)<1073741824:=by rw[bC];omega
    ext;intro r5 H5 u r G;have h5:=G.1 _ _ (rS B p) p;have(v5,Z,z):=nq (xs:=xs.map V.str) u r;have(D,y,rfl):=NV.mp z;ext;intro W g;have q:=ae g (.tup [.str "kind",.str D]);exact k _ _ (.kd D) (o.trans (G.same q)) (Rp.t (bQ.of af) (.cons .s (.one .s))) y (MP _)
   .ext;exact e
  .ext;exact e
 clear C m;ext;refine cM (λc=>?_) (λc=>?_)
 .ext;refine cM (λm=>?_) (λm=>?_)
  .have C:(0:Int)<d:=of_decide_eq_true m;ext;intro U H3 I S r3 X d3;ext;intro W g;have q:=ae g (.tup [.str "row",U]);exact k _ _ (.row I) (o.trans (S.same q)) (Rp.new (K:=K) g (.cons .s (.one r3))) X (by show I.dep+1<=_;omega)
  .ext;exact rest
 .ext;exact rest
noncomputable def qi(t:Str×List Kk):T:=.t [.s t.1,.t (t.2.map cu)]
noncomputable def FL(k:Str×List (Str×List Kk)):T:=.t [.s k.1,.t (k.2.map qi)]
noncomputable def nL(d:List (Str×List (Str×List Kk))):T:=.t (d.map FL)
noncomputable def uw(d:List (Str×List (Str×List Kk))):List Str:=d.flatMap λk=>k.2.map (·.1)
def JS(xs:List Str)(t:Str×List Kk):Prop:=t.2.length<=2/\∀c∈t.2,c.ok xs/\c.dep<=2
structure DP(xs ts:List Str) (kl:List (Str×List (Str×List Kk))):Prop where
 nm:kl.map (·.1)=xs.take kl.length
 tg:uw kl=ts.take (uw kl).length
 pt:∀i k,kl[i]?=some k->1<=k.2.length/\k.2.length<=3/\∀t∈k.2,JS (xs.take i) t
def A0(K:bA):Sp:=λm H Q _=>∃(f l lt:Addr) (d e:List Str),m=[.ref f,.ref l,.ref lt]/\cg H f/\H l=some (.lst (d.map V.str))/\H lt=some (.lst (e.map V.str))/\d.length=3/\e.length=9 /\
 ∀(v:V) (j:Hp) (g:List (Str×List (Str×List Kk))),Ext f H j->DP d e g->g.length<=3->Rp K j (nL g) v->Q v j
structure KO(K:bA) (f lf:Addr) (xs ts:List Str) (H:Hp) (i:Nat) (at_:Int) (H':Hp):Prop where
 x:∃(kl:List (Str×List (Str×List Kk))) (vs:List V),bS [] f H H'/\H' lf=some (.lst vs)/\bN K H' (kl.map FL) vs/\kl.length=i/\DP xs ts kl/\at_=(uw kl).length/\(uw kl).length<=3*i
structure KJ(K:bA) (f lo:Addr) (xs ts:List Str) (H:Hp) (i Bw j:Nat) (at_:Int) (H':Hp):Prop where
 x:∃(own:List (Str×List Kk)) (us:List V),bS [lo] f H H'/\H' lo=some (.lst us)/\bN K H' (own.map qi) us/\own.length=j/\own.map (·.1)=(ts.drop Bw).take j/\(∀t∈own,JS (xs.take i) t)/\at_=Bw+j
structure KP(K:bA) (f:Addr) (xs:List Str) (H:Hp) (i:Nat) (us:List V) (H':Hp):Prop where
 x:∃(ps:List Kk),bS [] f H H'/\bN K H' (ps.map cu) us/\ps.length=i/\∀c∈ps,c.ok xs/\c.dep<=2
theorem cV :Nm VE (ak jG):=by decide
theorem gX :Lm VE (ak jG):=by decide
theorem fH :aK VE Wr (ak jG):=#[rfl,rfl,rfl,by decide,rfl,by decide,by decide]
theorem DQ (hj:1<=j)(F:ic K "_law_kinds" "_law_kinds" jG f fd)(TK:dH P w K mg base "_law_take" 1 Vy eK gT tfd)(AK:dH P w K mg base "_law_any_kind" j VF (ik K 3) gA afd)(z_range:mg "range"=none)(o:mg "tuple"=none):bH P w K mg base eZ (j+1) f fd Wr (A0 K):=by
 refine F.ok fH (λvs H Q E h=>?_) (λbq A as s H vs Q E hr h=>?_)
 .have(_,_,_,_,_,rfl,_):=h;rfl
 have(Z,ln,lt,xs,M,rfl,hf,hn,ht,hx,bl,k):=h;refine#[_,(Z5 (sa fH.nd gX 3 (bh ao)) (Z5 (sa fH.nd gX 4 aq) (Z5 (Zk (Zn (Z1 (Z0 TK (cZ (va cV 0) (Za aq))) ao)) (ga fH.nd gX 5) (Z5 (sa fH.nd gX 6 (bh ao)) (Z5 (Zk (Zn (Z1 (Zm cK aq (Z0 TK (cZ (va cV 0) (Za aq)))) ao)) (ga fH.nd gX 7) (Z5 (Zf (ak jG) VE ["_law_i"] [0,1,5] (Zn (Z1 (Z0 TK (cZ (va cV 0) (Za aq))) ao)) (λ_ _ _ _=>(Z3 (i:=0) (show(V4:List Str).Nodup by decide))) (λ_ _ _ _=>eN) (λ_ _ _ _=>(Z0 AK (Z1 (va (show Nm V4 _ by left) 1) (Z1 (@bZ _ _ _ _ _ _ _ _ _ _ (CV K rfl) (va (show Nm V4 _ by left) 2) cW (bL (va (show Nm V4 _ by left) 3))) (Za aq))))) (ga fH.nd gX 8)) (Z5 (@cC _ _ _ _ (Z8 MN MO cQ (va cV 6) (Z1 (Zg (Z1 (gm aN (va cV 2) (va cV 4) (λ_ _=>rfl)) (Z1 (Z6 aU o MJ (Za (va cV 8))) ao))) ao)) (by rfl)) (Ze (Z2 fH.nd gX 4 (aS cK (va cV 4) aq)))))) (Ze (@cC _ _ _ _ (Z8 MN MO cQ (va cV 3) (Z1 (Zg (Z1 (gm aN (va cV 1) (va cV 5) (λ_ _=>rfl)) (Z1 (Z6 aU o MJ (Za (va cV 6))) ao))) ao)) (by rfl)))))) (Ze (Zo (Z6 aU o MJ (Za (va cV 3)))))))),?_]
 right
 right
 ext;intro lf Y;have s1:=ae Y (.lst []);have h1:upd H lf (.lst []) lf=some (.lst []):=af;generalize upd H lf (.lst [])=H1 at s1 h1|-;have f1:bS [] Z H H1:=(bS.refl hf).same s1;have bp:=f1.ff;ext;intro m H2 m0 m1 x2;have f2:=f1.ext x2;have h2:=x2.1 _ _ (b9 hf Y) h1;have ah:=b9 hf Y;have q:=rS hf hn;have O:=rS hf ht;ext;refine eO (n:=m.toNat) (λi L H3=>(∃(at_:Int) (y5 y6 y7 y8:Option V),L=[some (.ref Z),some (.ref ln),some (.ref lt),some (.ref lf),some (.int at_),y5,y6,y7,y8]/\KO K Z lf xs M H i at_ H3)) #[0,_,_,_,_,rfl,#[[],[],f2,h2,.nil,rfl,#[rfl,rfl,λi k h=>by cases h],rfl,MP _]] ?_ ?_
 .rintro i L H3 hi ⟨at_,_,_,_,_,rfl,⟨kl,vs,T,h3,r3,lk,ok,ha,a5⟩⟩;have a2:=T.ff;ext;intro X J;have s4:=ae J (.lst []);have h4:upd H3 X (.lst []) X=some (.lst []):=af;generalize upd H3 X (.lst [])=H4 at s4 h4|-;have f4:=T.same s4;have a1:=f4.ff;ext;intro m5 H5 bg bf x5;have f5:=f4.ext x5;have W:=b9 a2 J;have ag:lf≠X:=au h3 J;have h5:=x5.1 _ _ W h4;have a7:=x5.1 _ _ ah (s4 _ _ h3);have r5:=(r3.same s4).kt (x5.kt a1);ext;refine eO (n:=(1+m5).toNat) (λj L H6=>(∃(at_:Int) (y7 y8:Option V),L=[some (.ref Z),some (.ref ln),some (.ref lt),some (.ref lf),some (.int at_),some (.int (0+(i:Int))),some (.ref X),y7,y8]/\KJ K Z X xs M H5 i (uw kl).length j at_ H6)) #[at_,_,_,rfl,#[[],[],bS.refl f5.ff,h5,.nil,rfl,rfl,λt h=>(nomatch h),()]] ?_ ?_
  .rintro j L H6 hj ⟨d,_,_,rfl,⟨own,U,f6,h6,r6,aj,ac,ad,a4⟩⟩;have a0:=f6.ff;ext;intro m7 H7 be bc x7;have f7:=f6.ext x7;ext;refine lV (n:=m7.toNat) (λi7 L U H8=>(∃y,L=[y,some (.ref Z),some (.ref ln),some (.int (0+(i:Int)))])/\KP K Z (xs.take i) H7 i7 U H8) #[#[_,rfl],#[[],bS.refl x7.2,.nil,rfl,λc h=>by cases h]] ?_ (small ()) ?_ ?_
   .rintro i7 L U H8 h ⟨_,⟨ps,_,r,e,_⟩⟩;rw[r.length,bC,e];exact mu _
   .rintro i7 L us7 H8 hi7 ⟨⟨_,rfl⟩,⟨ps,f8,r8,l8,o8⟩⟩;have bm:H8 ln=some (.lst (xs.map V.str)):=f8.tJ q (f7.gu (au (T.tJ q hn) J) q (x5.1 _ _ q (s4 _ _ (T.tJ q hn))));have bo:=f8.ff;have e0:iW (xs.map V.str) none (some (0+(i:Int)))=(xs.take i).map V.str:=by rw[Qk,fY,NS]
    ext;intro l9 ax;rw[e0];have s9:=ae ax (.lst ((xs.take i).map V.str));have h9:upd H8 l9 (.lst ((xs.take i).map V.str)) l9=some (.lst ((xs.take i).map V.str)):=af;generalize upd H8 l9 (.lst ((xs.take i).map V.str))=H9 at s9 h9|-;have f9:=f8.same s9;have az:=f9.ff;have bi:(xs.take i).length<=100:=by rw[we];omega
    ext;intro bb ab aw al D av a9;ext;exact#[ps++[aw],f9.ext al,by rw[m3];exact((r8.same s9).kt (al.kt az)).snoc D,by rw[j3,l8];rfl,λc hc=>(MH.mp hc).elim (o8 c) (λh=>by rw[pD.mp h];exact#[av,a9])]
   .rintro L us7 H8 ⟨⟨_,rfl⟩,⟨ps,f8,r8,l8,o8⟩⟩ p9 hp9;have s9:=ae hp9 (.lst us7);have h9:upd H8 p9 (.lst us7) p9=some (.lst us7):=af;have r9:=r8.same s9;generalize upd H8 p9 (.lst us7)=H9 at s9 h9 r9|-;have f9:=f8.same s9;have am:H9 X=some (.lst U):=f9.tJ W (x7.1 _ _ W h6);have bk:U.length<mC:=bD (by rw[r6.length,bC];omega);have ba:H9 lt=some (.lst (M.map V.str)):=f9.tJ O (f7.gu (au (T.tJ O ht) J) O (x5.1 _ _ O (s4 _ _ (T.tJ O ht))));have a3:d.toNat<M.length:=()
    have ap:jZ (M.map V.str) d=some (.str M[d.toNat]):=by
     have:=bz (xs:=M.map V.str) (j:=d.toNat) (v:=.str M[d.toNat]) (by rw[rj,my a3];rfl);rw[show((d.toNat:Nat):Int)=d by omega]at this;exact this
    ext;refine .inl #[bu.of h9,λB g=>?_];have p:=ae g (.tup us7);have D:=Rp.new (K:=K) g r9;have R:=p _ _ am;generalize upd H9 B (.tup us7)=ab at p D R|-;ext;intro G C;have u:=ae C (.tup [.str M[d.toNat],.ref B]);have N:=Rp.new (K:=K) (xs:=[.s M[d.toNat],.t (ps.map cu)]) C (.cons .s (.one D));have I:=u _ _ R;generalize upd ab G (.tup [.str M[d.toNat],.ref B])=H11 at u N I|-;have aa:=(f9.same p).same u;have a8:bS [X] Z H5 H11:=f7.trans aa.more;have S:=Kt.lst (l:=X) I (.lst (U++[.ref G]));ext;refine#[own++[(M[d.toNat],ps)],U++[.ref G],a8.upd (pD.mpr rfl) W I,af,?_,by rw[j3,aj];rfl,?_,λt hm=>(MH.mp hm).elim (ad t) (λh=>by rw[pD.mp h];exact#[by show ps.length<=2;omega,o8]),()]
    .rw[m3];exact(((r6.kt (x7.kt a0)).kt aa.kt).kt S).snoc (N.kt S)
    .rw[m3,ac,EF (by rw[Oj];omega),List.getElem_drop];have ei:d.toNat=(uw kl).length+j:=()
     simp only[ei];rfl
  .rintro L H6 ⟨d,_,_,rfl,⟨own,U,f6,h6,r6,aj,ac,ad,a4⟩⟩;have a6:=f6.gu ag ah a7;have ar:=r5.kt f6.kt;have bn:H6 ln=some (.lst (xs.map V.str)):=f6.gu (au (T.tJ q hn) J) q (x5.1 _ _ q (s4 _ _ (T.tJ q hn)));have bj:vs.length<mC:=bD (by rw[r3.length,bC];omega);have an:i<xs.length:=()
   have ap:jZ (xs.map V.str) (0+(i:Int))=some (.str xs[i]):=by
    rw[Qk];exact bz (by rw[rj,my an];rfl)
   ext;refine .inl #[bu.of h6,λB g=>?_];have p:=ae g (.tup U);have D:=Rp.new (K:=K) g r6;have R:=p _ _ a6;generalize upd H6 B (.tup U)=ab at p D R|-;ext;intro G C;have u:=ae C (.tup [.str xs[i],.ref B]);have N:=Rp.new (K:=K) (xs:=[.s xs[i],.t (own.map qi)]) C (.cons .s (.one D));have I:=u _ _ R;generalize upd ab G (.tup [.str xs[i],.ref B])=H11 at u N I|-;have aa:bS [] Z H H11:=((f5.more.trans f6).drop (T.free J nofun)).same (p.trans u)
   have S:=Kt.lst (l:=lf) I (.lst (vs++[.ref G]));ext
   have et:uw (kl++[(xs[i],own)])=uw kl++own.map (·.1):=by
    unfold uw;rw[Nv];simp
   have ai:(own.map (·.1)).length=own.length:=bC _;refine#[kl++[(xs[i],own)],vs++[.ref G],aa.BF Y ah I,af,?_,by rw[j3,lk];rfl,#[?_,?_,?_],?_,?_]
   .rw[m3];exact((ar.same (p.trans u)).kt S).snoc (N.kt S)
   .rw[m3,ok.nm,j3,lk,show [(xs[i],own)].length=1 from rfl,EF an];rfl
   .rw[et,j3,ai,ac,ok.tg,we,Pb ()]
    conv=>lhs;rw[aj.symm]
    rw[List.take_add]
   .intro i' k' e'
    by_cases c:i' < kl.length
    .rw[Ng c]at e';exact ok.pt i' k' e'
    .rw[M7 ()]at e'
     have:i'=i:=by
      have:=(ko.mp e').1;have:[(xs[i],own)].length=1:=rfl;omega
     subst this;rw[lk,UO]at e'
     cases e'
     exact#[by show 1<=own.length;omega,by show own.length<=3;omega,ad]
   .rw[et,j3,ai];omega
   .rw[et,j3,ai];omega
 .rintro L H3 ⟨at_,_,_,_,_,rfl,⟨kl,vs,T,h3,r3,lk,ok,ha,a5⟩⟩;ext;refine .inl #[bu.of h3,λB g=>?_];have p:=ae g (.tup vs);exact k _ _ kl (T.same p).ex ok () (Rp.new (K:=K) g r3)
abbrev Kl:=List (Str×List (Str×List Kk))
noncomputable def kn(d:Kl):List Str:=d.map (·.1)
structure fu where
 kd:Addr
 ld:Addr
 ln:Addr
 lg:Addr
 la:Addr
 lc:Addr
 lp:Addr
 mo:Int
 tn:Int
 x1:Addr
 x2:Addr
 ex:List (Key×V)
 kb:Nat
 pb:Nat
noncomputable def fu.nn(S:fu)(f:Addr):List Addr:=[f,S.lg,S.ld,S.x1,S.x2]
noncomputable def jc(S:fu):List (Key×V):=[(.inr "kinds",.ref S.kd),(.inr "defs",.ref S.ld),(.inr "names",.ref S.ln),(.inr "gaps",.ref S.lg),(.inr "most",.int S.mo),(.inr "asked",.ref S.la),(.inr "turn",.int S.tn),(.inr "called",.ref S.lc),(.inr "params",.ref S.lp)]++S.ex
noncomputable abbrev ky(x:Str):Key:=Sum.inr x
def B3(K:bA)(H:Hp)(nn:List Addr)(d:Str×List Kk×Kk)(v:V):Prop:=∃(a l:Addr) (g:V) (e:List V),v=.ref a/\bQ K H a [.str d.1,.ref l,g]/\H l=some (.lst e)/\bN K H (d.2.1.map cu) e/\Rp K H (cu d.2.2) g/\l∉nn
def dz(K:bA)(H:Hp)(nn:List Addr):List (Str×List Kk×Kk)->List V->Prop
 | [],vs=>vs=[]
 |d::r,vs=>∃v e,vs=v::e/\B3 K H nn d v/\dz K H nn r e
def Wd(x:Str):Prop:=x.length<=20/\Lo x
def zR(ns:List Str)(e:List (Str×List Kk×Kk)):Prop:=e.length<=8/\∀d∈e,d.2.1.length<=3/\(∀k∈d.2.1,k.ok ns/\k.dep<=2)/\d.2.2.ok ns/\d.2.2.dep<=2/\Wd d.1
noncomputable def uz(tn:Int)(k:Nat):Int:=if tn=0 then 7*(k:Int)+3 else 99 - (k:Int)
structure bx(K:bA) (H:Hp) (f d:Addr) (S:fu) (xs:List Str) (kl:Kl) (dl:List (Str×List Kk×Kk)) (gs:List Int):Prop where
 sd:H d=some (.dK (jc S))
 kd:Rp K H (nL kl) (.ref S.kd)
 ok:DP (xs.take 3) ((xs.drop 3).take 9) kl
 k3:kl.length<=3
 lx:xs.length=26
 un:Un xs/\∀x∈xs,Wd x
 ln:H S.ln=some (.lst (((xs.drop 12).take 6).map V.str))
 lc:H S.lc=some (.lst (((xs.drop 18).take 3).map V.str))
 lp:H S.lp=some (.lst (((xs.drop 21).take 3).map V.str))
 ld:∃vs,H S.ld=some (.lst vs)/\dz K H (S.nn f) dl vs
 dl:zR (kn kl) dl
 lg:H S.lg=some (.lst (gs.map V.int))
 la:∃kvs,H S.la=some (.dK kvs)/\kvs.length<=gs.length/\∀kv∈kvs,∃n∈gs,kv.1=Sum.inl n
 mm:(gs.length:Int)<=S.mo
 mo:S.mo<=14
 gn:∀(k:Nat) (n:Int),gs[k]?=some n->n=uz S.tn k
 tn:S.tn=0\/S.tn=1
 ff:cg H f
 nf:d≠f/\S.ln≠f/\S.lc≠f/\S.lp≠f/\S.ld≠f/\S.lg≠f/\S.la≠f
 ng:S.ln≠S.lg/\S.lc≠S.lg/\S.lp≠S.lg/\S.ld≠S.lg
 nd:S.ln≠S.ld/\S.lc≠S.ld/\S.lp≠S.ld
 na:d≠S.la
 bb:S.kb<=20/\S.pb<=40/\13<=S.kb
theorem mw (S:fu):eF (jc S) (ky "kinds")=some (.ref S.kd):=by kernel_rfl
theorem wF (S:fu):eF (jc S) (ky "defs")=some (.ref S.ld):=by kernel_rfl
theorem rT (S:fu):eF (jc S) (ky "names")=some (.ref S.ln):=by kernel_rfl
theorem tT (S:fu):eF (jc S) (ky "gaps")=some (.ref S.lg):=by kernel_rfl
theorem Io (S:fu):eF (jc S) (ky "most")=some (.int S.mo):=by kernel_rfl
theorem A1 (S:fu):eF (jc S) (ky "asked")=some (.ref S.la):=by kernel_rfl
theorem Ip (S:fu):eF (jc S) (ky "turn")=some (.int S.tn):=by kernel_rfl
theorem yw (S:fu):eF (jc S) (ky "called")=some (.ref S.lc):=by kernel_rfl
theorem DR (S:fu):eF (jc S) (ky "params")=some (.ref S.lp):=by kernel_rfl
theorem bx.get {dl:List (Str×List Kk×Kk)}(s:bx K H f d S xs kl dl gs)(e:eF (jc S) (ky y)=some v):ni H d (.str y) (some v):=by
 have h:=ni.k (k:=ky y) s.sd;rw[e]at h;exact h
theorem dz.go {K:bA}{H H':Hp}{nn:List Addr}(j:∀b m,b∉nn->H b=some (.lst m)->H' b=some (.lst m))(kt:Kt H H'):∀{dl:List (Str×List Kk×Kk)}{o:List V},dz K H nn dl o->dz K H' nn dl o
 | [],_,h=>h
 |_::_,_,⟨v,us,e,⟨a,l,g,m,e2,sq,hl,r,rg,n1⟩,h⟩=>#[v,us,e,#[a,l,g,m,e2,sq.kt kt,j _ _ n1 hl,r.kt kt,rg.kt kt,n1],dz.go j kt h]
theorem dz.nn {K:bA}{H:Hp}{nn n2:List Addr}(h:∀l j,l∉nn->H l=some (.lst j)->l∉n2):∀{dl:List (Str×List Kk×Kk)}{m:List V},dz K H nn dl m->dz K H n2 dl m
 | [],_,z=>z
 |_::_,_,⟨v,us,e,⟨a,l,g,j,e2,sq,hl,r,rg,n1⟩,z⟩=>#[v,us,e,#[a,l,g,j,e2,sq,hl,r,rg,h _ _ n1 hl],dz.nn h z]
theorem yx (h:uz tn i=uz tn j):i=j:=by
 unfold uz at h
 split at h<;>omega
theorem bx.Lh {dl:List (Str×List Kk×Kk)}(s:bx K H f d S xs kl dl gs):gs.Nodup:=by
 refine List.pairwise_iff_getElem.mpr λi j m g l e=>?_;have p:=s.gn i _ (my m);have o:=s.gn j _ (my g);exact absurd (yx (p.symm.trans (e.trans o))) ()
theorem iq {S:fu}(h:b∉S.nn f):b≠f/\b≠S.lg/\b≠S.ld/\b≠S.x1/\b≠S.x2:=by
 unfold fu.nn at h;simp only[vy,MK,or_false,not_or]at h;exact h
theorem bx.go {dl:List (Str×List Kk×Kk)}(s:bx K H f d S xs kl dl gs)(fr:bS [S.lg,S.la] f H H')(C:H' S.lg=some (.lst (gs'.map V.int)))(D:∃kvs,H' S.la=some (.dK kvs)/\kvs.length<=gs'.length/\∀kv∈kvs,∃n∈gs',kv.1=Sum.inl n)(v:(gs'.length:Int)<=S.mo)(G:∀(k:Nat) (n:Int),gs'[k]?=some n->n=uz S.tn k):bx K H' f d S xs kl dl gs':=by
 have(E,l,_):=s.la;have(o,hd,g):=s.ld;have(u,t,r,q,p,J,I):=s.nf;have(B,A,y,w):=s.ng;have e:∀{b:Addr}{m:List V},H b=some (.lst m)->b≠S.la:=λh=>cI h l nofun
 have j:d≠S.lg:=cI s.sd s.lg nofun
 exact#[fr.fq j s.na u s.sd,s.kd.kt fr.kt,s.ok,s.k3,s.lx,s.un,fr.fq B (e s.ln) t s.ln,fr.fq A (e s.lc) r s.lc,fr.fq y (e s.lp) q s.lp,#[o,fr.fq w (e hd) p hd,g.go (λb m z h=>fr.fq (iq z).2.1 (e h) (iq z).1 h) fr.kt],s.dl,C,D,v,s.mo,G,s.tn,fr.ff,s.nf,s.ng,s.nd,s.na,s.bb]
theorem bx.ext {dl:List (Str×List Kk×Kk)}(s:bx K H f d S xs kl dl gs)(e:Ext f H H'):bx K H' f d S xs kl dl gs:=by
 have(g,j,o):=s.la;have(u,t,r,q,p,m,l):=s.nf;exact s.go (Ext.uo s.ff e) (e.1 _ _ m s.lg) #[g,e.1 _ _ l j,o] s.mm s.gn
theorem bx.same {dl:List (Str×List Kk×Kk)}(s:bx K H f d S xs kl dl gs)(e:aF H H'):bx K H' f d S xs kl dl gs:=s.ext ((Ext.refl s.ff).same e)
theorem Kk.wG (h:∀x∈a,x∈b):∀{k:Kk},k.ok a->k.ok b
 |.num,_=>True.intro
 |.kd x,z=>h x z
 |.op _,z=>z
 |.row k,z=>Kk.wG (k:=k) h z
theorem DP.wH (h:DP xs ts kl)(hi:i<=kl.length):(kn kl).take i=xs.take i:=by
 unfold kn;rw[h.nm,List.take_take,Pb hi]
theorem bx.Li {dl:List (Str×List Kk×Kk)}(s:bx K H f d S xs kl dl gs):Un (kn kl):=by
 have e:=s.ok.nm;unfold kn;rw[e,List.take_take];intro i j x l g;refine s.un.1 i j x ?_ ?_
 .rw[Sl]at l;split at l
  .exact l
  .cases l
 .rw[Sl]at g;split at g
  .exact g
  .cases g
theorem bx.LH {dl:List (Str×List Kk×Kk)}(s:bx K H f d S xs kl dl gs)(h:x∈kn kl):Wd x:=by
 unfold kn at h;rw[s.ok.nm]at h;exact s.un.2 x (MT (MT h))
theorem bx.Lj {dl:List (Str×List Kk×Kk)}(s:bx K H f d S xs kl dl gs)(e:k∈kl)(ht:t∈k.2):Wd t.1:=by
 have h:t.1∈uw kl:=PD.mpr #[k,e,Ni ht];rw[s.ok.tg]at h;exact s.un.2 _ (Pk (MT (MT h)))
def lI(K:bA):Sp:=λm H Q _=>∃(f d:Addr) (j:V) (S:fu) (l:List Str) (e:Kl) (p:List (Str×List Kk×Kk)) (o:List Int) (x:Str),m=[.ref d,j]/\bx K H f d S l e p o/\Rp K H (cu (.kd x)) j/\x∈kn e /\
 ∀(v:V) (g:Hp) (k:Str×List (Str×List Kk)),aF H g->k∈e->k.1=x->Rp K g (.t (k.2.map qi)) v->Q v g
theorem wI :Nm VT (ak iZ):=by decide
theorem wJ :aK VT VT (ak iZ):=#[rfl,rfl,rfl,by decide,rfl,by decide,by decide]
theorem zS (F:ic K "_law_tags_of" "_law_tags_of" iZ f O):bH P w K mg base eZ 1 f O VT (lI K):=by
 refine F.ok wJ (λV H Q E h=>?_) (λab A u s H V Q E hr h=>?_)
 .have(_,_,_,_,_,_,_,_,_,rfl,_):=h;rfl
 have(fe,d,W,S,xs,C,dl,gs,x,rfl,o,rk,hx,k):=h;refine#[_,(Ze (Zo (Zl aN (@gy _ _ _ _ _ _ _ _ _ _ _ (ak iZ) VT VG [1] rfl rfl rfl (by decide) (@dZ _ _ _ _ (Zh (va wI 0))) (λ_ _ _ _=>(Zb (Zi (Z3 (i:=0) (show(Wc:List Str).Nodup by decide)) (aJ (Z3 (i:=1) (show(Wc:List Str).Nodup by decide)) aX)))) (λ_ _ _ _=>(@fE _ _ _ (Zj bR (va (show Nm Wc _ by left) 0) (Z9 (gM K rfl) (va (show Nm Wc _ by left) 2))))) (λ_ _ _ _=>(va (show Nm Wc _ by left) 1)) (by intro _;rfl)) aq))),?_]
 right
 right
 have hg:=o.get (mw S);have(ka,aa,ek,B,r):=o.kd.bq
 cases ek
 have(va,v1,v2,rfl,m,g1,g2):=(show Rp K H (.t [.s "kind",.s x]) W from rk).t2;obtain rfl:=g2.bj;have k3:=o.k3;ext;refine jH (e:=FL) (φ:=λk=>if k.1=x then [.t (k.2.map qi)]else []) (λR=>∃a b,R=[a,b,some (.ref va)]) B r () (λk=>by split<;>simp) #[_,_,rfl] ?_ ?_
 .rintro p hp y _ H6 N s6 ⟨_,_,rfl⟩ rx kN;have(xa,x1,x2,rfl,U,j,r2):=(show Rp K H6 (.t [.s p.1,.t (p.2.map qi)]) y from rx).t2;obtain rfl:=j.bj;have J:=m.same s6;ext;refine cM (λc=>?_) (λc=>?_)
  .ext;have e:p.1=x:=by injection(of_decide_eq_true c)
   exact kN _ _ _ #[#[_,_,rfl],aF.refl _,by rw[if_pos e];exact .one r2]
  .have e:¬p.1=x:=λz=>c (decide_eq_true (by rw[z]));exact kN _ _ _ #[#[_,_,rfl],aF.refl _,by rw[if_neg e];exact .nil]
 intro l H1 ws Y hl h1 j;have(L,I,e0):=NV.mp hx;have M:(T.t (L.2.map qi))∈C.flatMap λk=>if k.1=x then [T.t (k.2.map qi)]else []:=PD.mpr #[L,I,by rw[if_pos e0];exact .head _];generalize e9:(C.flatMap λk=>if k.1=x then [T.t (k.2.map qi)]else [])=ys at j M
 cases ys with
 |nil=>cases M
 |cons y q =>
  have hy:y∈C.flatMap λk=>if k.1=x then [T.t (k.2.map qi)]else []:=by rw[e9];exact .head _
  have(k1,G,g):=PD.mp hy;have(v,X,rfl,Z,_):=j.inv
  split at g
  .next e1 =>
   have D:=pD.mp g;subst D;have a0:=Bw v X;ext;exact k v H1 k1 Y G e1 Z
  .cases g
def qj(H:Hp)(a:Addr)(d:List Str):Prop:=H a=some (.lst (d.map V.str))/\1<=d.length/\d.length<=100
theorem qj.ne (h:qj H a d)(g:cg H f):a≠f:=λz=>by
 have(p,q,e):=g;subst z;rw[h.1]at e
 cases d with
 |nil=>have:=h.2.1;simp at this
 |cons x r=>injection e with e;injection e with e;rw[M0]at e;injection e with e;cases e
theorem qj.same (h:qj H a d)(e:aF H g):qj g a d:=#[e a _ h.1,h.2]
def qk:Sp:=λe H Q _=>∃f:Addr,e=[.ref f]/\cg H f/\∀(n:Int) (d:Hp),0<=n->n<1000000->Ext f H d->Q (.int n) d
theorem fK :Nm WN (ak jN):=by decide
theorem yy :Lm WN (ak jN):=by decide
theorem qX :aK WN WO (ak jN):=#[rfl,rfl,rfl,by decide,rfl,by decide,by decide]
theorem B4 (F:ic K "_law_number" "_law_number" jN f B)(d:dH P w K mg base "_law_take" 1 Vy eK gT tfd):bH P w K mg base eZ 2 f B WO qk:=by
 refine F.ok qX (λI H Q E h=>?_) (λO A p s H I Q E hr h=>?_)
 .have(v,rfl,_):=h;rfl
 have(r,rfl,M,k):=h
 refine#[_,(bY (sa qX.nd yy 1 (iA d.ok (hr.mono ()) (by left) d.at' d.kp d.bd .nil kL (aH (va fK 0) (aH aq ao))))
  (bY (kI (Zq mY (va fK 1) aq) (bW (cH (iA d.ok (hr.mono ()) (by left) d.at' d.kp d.bd .nil kL (aH (va fK 0) (aH (gm aN (bh (aH aq (aH aq (aH aq (aH aq (aH aq (aH aq ao))))))) (va fK 1) (λ_ _=>rfl)) ao))))) jq)
  (bW (cH (gm aN (bh (aH (iA d.ok (hr.mono ()) (by left) d.at' d.kp d.bd .nil kL (aH (va fK 0) (aH aq ao))) (aH (aS bK aq (iA d.ok (hr.mono ()) (by left) d.at' d.kp d.bd .nil kL (aH (va fK 0) (aH aq ao)))) ao))) (aS bK (va fK 1) aq) (λ_ _=>rfl)))))),?_]
 refine#[_,rfl,r,8,rfl,by decide,by decide,M,λq W J q1 m=>?_];refine#[_,rfl,_,_,rfl,rfl,_,rfl,cM (λc=>?_) (λc=>?_)]
 .have D:q<6:=of_decide_eq_true c;refine#[_,rfl,(by show 6<=mC;decide),λl g=>?_];have(v,t,e):=nq (xs:=[V.int 2,V.int 4,V.int 4,V.int 10,V.int 10,V.int 100]) J (by simpa using D)
  obtain⟨n,rfl,L,T⟩:∃n:Int,v=.int n/\0<n/\n<=100:=by
   simp only[vy,MK,or_false]at e;rcases e with rfl|rfl|rfl|rfl|rfl|rfl
   .exact#[2,rfl,by decide,by decide]
   .exact#[4,rfl,by decide,by decide]
   .exact#[4,rfl,by decide,by decide]
   .exact#[10,rfl,by decide,by decide]
   .exact#[10,rfl,by decide,by decide]
   .exact#[100,rfl,by decide,by decide]
  refine#[_,rfl,l,_,_,_,rfl,rfl,bu.of af,t,r,n,rfl,L,(),m.2.same (ae g _),λx G o u j=>?_];exact k x G o () ((m.new g _).trans j)
 .have D:¬q<6:=λz=>c (decide_eq_true z);refine#[_,rfl,r,1000000,rfl,by decide,by decide,m.2,λx G o u j=>?_];refine#[_,rfl,r,3,rfl,by decide,by decide,j.2,λy U S R N=>?_];refine#[_,_,rfl,rfl,(by show 2<=mC;decide),λl g=>?_];have C:=((m.trans j).trans N).new g (.lst [.int x,.int (999999-y)]);have(v,t,e):=nq (xs:=[V.int x,V.int (999999-y)]) (k:=q-6) () (by simp;omega);refine#[_,rfl,_,_,rfl,rfl,l,_,_,_,rfl,rfl,bu.of af,t,?_];simp only[vy,MK,or_false]at e;rcases e with rfl|rfl
  .exact k _ _ o u C
  .exact k _ _ () () C
def Lk:Hd->Prop
 |.gap n=>0<=n/\n<1000
 |.num n=>0<=n/\n<1000000
 |.name x=>Wd x
 |.op x=>Wd x
 |.tag x=>Wd x
 |.call x=>Wd x
 |.lt x=>Wd x
 |.fold x y=>Wd x/\Wd y
 |.mat arms=>∀a∈arms,Wd a.1/\a.2.length<=2/\∀y∈a.2,Wd y
 |_=>True
inductive Tok:Tm->Prop
 |mk {h:Hd}{ks:List Tm}:fg h ks.length=true->ks.length<=9->(∀k∈ks,Tok k)->(g:Lk h:=by exact True.intro)->Tok (.mk h ks)
theorem Tok.wf (h:Tok d):Wf d:=by
 induction h with
 |mk a b c g ih=>exact .mk a ih
def yz:Hd->Prop
 |.gap _=>False
 |h=>Lk h
theorem yz.ok (g:yz h):Lk h:=by cases h<;>first|exact g|exact g.elim
theorem yz.no (g:yz h):dS (.mk h ts)=none:=by cases h<;>first|rfl|exact g.elim
def LI(t:Tm):Prop:=Tok t/\lK t=[]
theorem DS {d e:Type}{f:d->List e}:∀{l:List d},(∀x∈l,f x=[])->l.flatMap f=[]
 | [],_=>rfl
 |x::r,h=>by rw[NJ,h x (.head _),DS λy g=>h y (.tail _ g)];rfl
def nN(K:bA)(n:Nat):Sp:=λo H Q _=>∃(f d:Addr) (l:V) (S:fu) (m:List Str) (g:Kl) (q:List (Str×List Kk×Kk)) (p:List Int) (k:Kk) (r:Nat),o=[.ref f,.ref d,l]/\bx K H f d S m g q p/\Rp K H (cu k) l/\k.ok ((kn g).take r)/\k.dep<=100/\r<n/\r<=g.length /\
 ∀(v:V) (j:Hp) (e:Tm),Ext f H j->Rp K j (enc e) v->LI e->e.depth<=r->e.size+1<=2 ^ (r+1)->Q v j
structure NI(K:bA) (f:Addr) (H:Hp) (e i:Nat) (us:List V) (H':Hp):Prop where
 x:∃ts:List Tm,Ext f H H'/\bN K H' (ts.map enc) us/\ts.length=i/\∀t∈ts,LI t/\t.depth<=e/\t.size+1<=2 ^ (e+1)
theorem yC :∀{ts:List Tm},(∀t∈ts,t.size<=b)->Tm.sizes ts<=ts.length*b
 | [],_=>by rw[Tm.sizes];exact MP _
 |t::r,h=>by
  rw[Tm.b7,MW,UL];have:=h t (.head _);have:=yC (b:=b) (ts:=r) (λx d=>h x (.tail _ d));omega
theorem eG :Nm VQ (ak gQ):=by decide
theorem nO :Lm VQ (ak gQ):=by decide
theorem ki :aK VQ VO (ak gQ):=#[rfl,rfl,rfl,by decide,rfl,by decide,by decide]
theorem B5 (hj:2<=j)(F:ic K "_law_nought" "_law_nought" gQ f fd)(NU:dH P w K mg base "_law_number" 2 WO qk gN nfd)(TG:dH P w K mg base "_law_tags_of" 1 VT (lI K) gT tfd)(NO:dH P w K mg base "_law_nought" j VO (nN K n) gO ofd)(g:mg "tuple"=none):bH P w K mg base eZ (j+1) f fd VO (nN K (n+1)):=by
 refine F.ok ki (λvs H Q E h=>?_) (λbf A ah s H vs Q E hr h=>?_)
 .have(_,_,_,_,_,_,_,_,_,_,rfl,_):=h;rfl
 have(fe,d,vk,S,xs,J,dl,gs,kk,r,rfl,G,rk,ok,a7,ba,a9,k):=h;refine#[_,(Z5 (Zd (Zq (vQ hr.xW) (va eG 2) aB) (Ze (Zo (Zg (Z1 aB (Z1 (Z0 NU (Za (va eG 0))) ao)))))) (Z5 (Zd (Zj bR (Z9 aZ (va eG 2)) aB) (Ze (Zo (Zg (Z1 aB (Za (eu ao))))))) (Z5 (Z2 ki.nd nO 3 (Z0 TG (Z1 (va eG 1) (Za (va eG 2))))) (Z5 (Zp (Z9 aZ (va eG 3)) (Zb (Zi (ga ki.nd nO 4) (aJ (ga ki.nd nO 5) aX)))) (Ze (Zo (Zg (Z1 aB (Z1 (va eG 4) (Z1 (Z6 aU g MJ (Z1 (Zc (ak gQ) VQ Wv [0,1] (dZ (va eG 5)) (λ_ _ _ _=>(Z3 (i:=0) (show(Wb:List Str).Nodup by decide))) (λ_ _ _ _=>(Z0 NO (Z1 (va (show Nm Wb _ by left) 1) (Z1 (va (show Nm Wb _ by left) 2) (Za (va (show Nm Wb _ by left) 0))))))) ao)) ao)))))))))),?_]
 right
 right
 have hf:=G.ff;have av:(cu kk).dep<=150:=FA (jy kk) ();have p1:1<=2 ^ r:=Nat.one_le_two_pow;have p2:2 ^ (r+1)=2*2 ^ r:=by rw[Nat.pow_succ];omega
 have leaf:∀(h:Hd) (v:V) (H':Hp),fg h 0=true/\yz h->Ext fe H H'->Rp K H' (oS h []) v->Q v H':=λh v H' a e rv =>
  k v H' (.mk h []) e (by rw[cY];exact rv) #[.mk a.1 (MP _) (λk hk=>nomatch hk) a.2.ok,jR a.2.no] (MP _) (by show 1+1<=_;omega)
 refine lB ?_;intro N1 N2 N3 N4 c1 c2 c3 c4;have rN:Rp K H (T.s "num") (.str "num"):=.s;ext;refine cM (λc=>?_) (λc=>?_)
 .ext;intro m H1 m0 m1 x1;ext;intro p2 an;have s2:=ae an (.tup [.str "num",.int m]);exact leaf (.num m) _ _ #[rfl,m0,m1] (x1.same s2) (Rp.t (bQ.of af) (.cons .s (.one .i)))
 cases kk with
 |num=>exact absurd (decide_eq_true rfl) c
 |op n=>exact absurd ok id
 |row k2 =>
  have(va,v1,v2,rfl,aa,g1,g2):=(show Rp K H (.t [.s "row",cu k2]) vk from rk).t2;obtain rfl:=g1.bj;ext;intro p9 U;have s9:=ae U (.tup []);have r9:=Rp.new (K:=K) U .nil;generalize upd H p9 (.tup [])=H9 at s9 r9|-;ext;intro a4 z;have ad:=ae z (.tup [.str "row",.ref p9]);exact leaf .row _ _ #[rfl,True.intro] ((Ext.refl hf).same (s9.trans ad)) (Rp.new (K:=K) z (.cons .s (.one r9)))
 |kd x =>
  have(va,v1,v2,rfl,aa,g1,g2):=(show Rp K H (.t [.s "kind",.s x]) vk from rk).t2;obtain rfl:=g1.bj;have hx:x∈kn J:=MT ok;ext;intro v3 H3 k3 s3 Y au r3;have(i,hi):=OJ Y;have as:i<J.length:=(ko.mp hi).1;have(R,bb,am):=G.ok.pt i k3 hi
  have Z:i<r:=by
   have(i',o):=OJ (show x∈(kn J).take r from ok);have ar:=(ko.mp o).1;rw[we]at ar;have e1:(kn J)[i]?=some x:=by unfold kn;rw[rj,hi];exact congrArg some au
   rw[Sl]at o
   split at o
   .next ap=>rw[G.Li i i' x e1 o];exact ap
   .cases o
  have(ta,ax,rfl,az,N):=r3.bq
  obtain⟨D,tr,B⟩:∃a b,k3.2=a::b:=by
   cases e:k3.2 with
   |nil=>rw[e]at R;simp at R
   |cons a b=>exact#[a,b,rfl]
  rw[B]at N;have(u1,ab,rfl,ag,_):=bN.inv (K:=K) (x:=qi D) N;have(ga,w1,w2,rfl,be,q1,q2):=(show Rp K H3 (.t [.s D.1,.t (D.2.map cu)]) u1 from ag).t2;obtain rfl:=q1.bj;have(ia,aj,rfl,al,O):=q2.bq;have(a1,tok):=am D (by rw[B];exact .head _);have li:=O.length;rw[bC]at li;have a0:=Bw (V.ref ga) ab;have M:Ext fe H H3:=(Ext.refl hf).same s3;ext;refine kQ (K:=K) (xs:=aj) (λi7 L l C=>(∃y,L=[y,some (.ref fe),some (.ref d)])/\NI K fe H3 i i7 l C) #[#[_,rfl],#[[],Ext.refl M.2,.nil,rfl,λt h=>nomatch h]] ?_ (small ()) ?_ ?_ ?_
  .rintro i7 L l C h ⟨_,⟨ts,_,r,e,_⟩⟩;rw[r.length,bC,e];exact mu _
  .rintro i7 L l C h ⟨_,⟨ts,u,_⟩⟩;exact al.kt (u.kt M.2)
  .rintro i7 y L l C hy ⟨⟨_,rfl⟩,⟨ts,u,r5,l5,I⟩⟩;have(t,p,rt):=O.get' hy;rw[rj]at p;have(q,hq,rfl):=ur.mp p;have a2:=(G.ext M).ext u;have a3:=rt.kt (u.kt M.2);have(ai,a6):=tok q (t9 hq);have oq:q.ok ((kn J).take i):=by rw[G.ok.wH (Ny as)];exact ai
   have a5:q.dep<=100:=()
   have bc:i<n:=()
   have aw:i<=J.length:=()
   ext;intro v6 H6 tm x6 r6 ac d6 z6;ext;refine#[ts++[tm],u.trans x6,by rw[m3];exact(r5.kt (x6.kt u.2)).snoc r6,by rw[j3,l5];rfl,λt hm=>(MH.mp hm).elim (I t) (λh=>by rw[pD.mp h];exact#[ac,d6,z6])]
  .rintro L l C ⟨_,⟨ts,u,r5,l5,I⟩⟩ p6 hp6;have s6:=ae hp6 (.lst l);have h6:upd C p6 (.lst l) p6=some (.lst l):=af;have r6:=r5.same s6;generalize upd C p6 (.lst l)=H6 at s6 h6 r6|-;ext;refine .inl #[bu.of h6,λp7 X=>?_];have s7:=ae X (.tup l);have r7:=Rp.new (K:=K) X r6;generalize upd H6 p7 (.tup l)=H7 at s7 r7|-;ext;intro p8 W;have s8:=ae W (.tup [.str "tag",.str D.1,.ref p7]);have p3:2 ^ (i+1)<=2 ^ r:=Pn () Z;refine k _ _ (.mk (.tag D.1) ts) (M.trans (((u.same s6).same s7).same s8)) (by rw[cY];exact Rp.new (K:=K) W (.cons .s (.cons .s (.one r7)))) #[.mk rfl () (λt p=>(I t p).1.1) (G.Lj Y (by rw[B];exact .head _)),(jR rfl).trans (DS λt p=>(I t p).1.2)] (FA (Tm.xQ λt p=>(I t p).2.1) Z) ?_;rw[Tm.ju];have hz:=yC (b:=2 ^ r-1) (ts:=ts) λt p=>by have:=(I t p).2.2;omega
   have a8:ts.length*(2 ^ r-1)<=2*(2 ^ r-1):=Nat.mul_le_mul_right _ ();omega
def yD(K:bA)(H:Hp)(a:Addr)(ps:List (Str×Kk)):Prop:=∃d,H a=some (.lst d)/\bN K H (ps.map vV) d
noncomputable def ql(ps d:List (Str×Kk)):List (Str×Kk):=ps.filter (λp=>!decide (p.1∈d.map (·.1)))++d
def rV(K:bA):Sp:=λj H Q _=>∃(a b:Addr) (e d:List (Str×Kk)),j=[.ref a,.ref b]/\yD K H a e/\yD K H b d/\e.length+d.length<=900 /\
 ∀(p:Addr) (g:Hp),aF H g->H p=none->yD K g p (ql e d)->Q (.ref p) g
theorem FN (ps d:List (Str×Kk)):(ps.flatMap λp=>if p.1∈d.map (·.1)then []else [vV p])=(ps.filter (λp=>!decide (p.1∈d.map (·.1)))).map vV:=by
 induction ps with
 |nil=>rfl
 |cons p r ih =>
  rw[NJ,ih,List.filter_cons]
  by_cases c:p.1∈d.map (·.1)
  .rw[if_pos c,decide_eq_true c];rfl
  .rw[if_neg c,decide_eq_false c];rfl
theorem oZ :Nm V7 (ak iO):=by decide
theorem zT :Lm V7 (ak iO):=by decide
theorem tU :aK V7 Ws (ak iO):=#[rfl,rfl,rfl,by decide,rfl,by decide,by decide]
theorem DT (F:ic K "_law_bound" "_law_bound" iO f M):bH P w K mg base eZ 1 f M Ws (rV K):=by
 refine F.ok tU (λU H Q E h=>?_) (λaj A B s H U Q E hr h=>?_)
 .have(_,_,_,_,rfl,_):=h;rfl
 have(a,b,J,d,rfl,(W,ha,rp),(m,L,z),hl,k):=h;refine#[_,(Z5 (Z2 tU.nd zT 2 (Zc (ak iO) V7 V8 [] (cJ (va oZ 1)) (λ_ _ _ _=>(Zb (Zi (Z3 (i:=0) (show(V8:List Str).Nodup by decide)) (aJ (Z3 (i:=1) (show(V8:List Str).Nodup by decide)) aX)))) (λ_ _ _ _=>(va (show Nm V8 _ by left) 0)))) (Ze (Zo (Zm sJ (@gy _ _ _ _ _ _ _ _ _ _ _ (ak iO) V7 Wv [2] rfl rfl rfl (by decide) (cJ (va oZ 0)) (λ_ _ _ _=>(Z3 (i:=0) (show(WG:List Str).Nodup by decide))) (λ_ _ _ _=>(@fE _ _ _ (@fh _ _ _ _ _ _ _ _ (iT K rfl) (Z9 (gM K rfl) (va (show Nm WG _ by left) 0)) (va (show Nm WG _ by left) 1) (by with_unfolding_all rfl)))) (λ_ _ _ _=>(va (show Nm WG _ by left) 0)) (by intro _;rfl)) (va oZ 1))))),?_]
 right
 right
 have lp:=rp.length;have Z:=z.length;rw[bC]at lp Z;ext;refine eR (e:=vV) (φ:=λp=>[.s p.1]) (λr=>∃x y,r=[x,y]) L z () (λ_=>mu _) #[_,_,rfl] ?_ ?_
 .rintro p hp x _ H6 N s6 ⟨_,_,rfl⟩ rx kN;have(O,S,R,rfl,u,j,r2):=(show Rp K H6 (.t [.s p.1,cu p.2]) x from rx).t2;ext;exact kN _ _ _ #[#[_,_,rfl],aF.refl _,.one j]
 intro C H1 ws g ac gf j;rw[kE (λp:Str×Kk=>T.s p.1),show(d.map λp=>T.s p.1)=(d.map (·.1)).map T.s from by rw[Ph];rfl]at j;obtain rfl:=j.tD;have G:=g _ _ ha;have D:=g _ _ L;ext;refine eR (e:=vV) (φ:=λp=>if p.1∈d.map (·.1)then []else [vV p]) (λr=>∃x,r=[x,some (.ref C)]) G (rp.same g) () (λp=>by split<;>simp) #[_,rfl] ?_ ?_
 .rintro p hp x _ H6 N s6 ⟨_,rfl⟩ rx kN;have(O,S,R,rfl,u,j,r2):=(show Rp K H6 (.t [.s p.1,cu p.2]) x from rx).t2;obtain rfl:=j.bj;have ab:bu K H6 C ((d.map (·.1)).map V.str)\/bQ K H6 C ((d.map (·.1)).map V.str):=.inl (bu.of (s6 _ _ gf));have ag:=qH (d.map (·.1));have ah:mJ (.str p.1)=true:=rfl;ext;rw[DL];refine cM (λc=>?_) (λc=>?_)
  .have I:¬p.1∈d.map (·.1):=by simpa using c
   ext;exact kN _ _ _ #[#[_,rfl],aF.refl _,by rw[if_neg I];exact .one rx]
  .have I:p.1∈d.map (·.1):=by simpa using c
   exact kN _ _ _ #[#[_,rfl],aF.refl _,by rw[if_pos I];exact .nil]
 intro l2 H2 l q ad h2 r2;rw[FN]at r2;have ai:=q _ _ D;have Y:=r2.length;rw[bC]at Y;have aa:(J.filter (λp=>!decide (p.1∈d.map (·.1)))).length<=J.length:=O3 _ _;have hz:l.length+m.length<=mC:=small ();ext;intro X o;have v:=ae o (.lst (l++m));refine k X _ (g.trans (q.trans v)) ((g.trans q).free o) #[_,af,?_];unfold ql;rw[m3];exact(r2.same v).append (z.same (g.trans (q.trans v)))
structure yE(K:bA) (H:Hp) (f:Addr) (S:fu) (kl:Kl) (ar:Addr) (ps:List (Str×Kk)):Prop where
 aa:yD K H ar ps
 nf:ar≠f
 ng:ar≠S.lg
 na:ar≠S.la
 pk:∀p∈ps,p.2.ok (kn kl)/\p.2.dep<=60/\Wd p.1
 pl:ps.length<=60
theorem yE.uo (a:yE K H f S d e ps)(fr:bS [S.lg,S.la] f H g):yE K g f S d e ps:=by
 have(j,h,r):=a.aa;exact#[#[j,fr.fq a.ng a.na a.nf h,r.kt fr.kt],a.nf,a.ng,a.na,a.pk,a.pl]
theorem A2 {d:List (Key×V)}(h:∀kv∈d,kv.1≠k):putK d k v=d++[(k,v)]:=by
 unfold putK
 have:(d.any λkv=>decide (kv.1=k))=false:=by
  rw[Sz];intro kv e
  simpa using h kv e
 rw[this];rfl
theorem bx.Kr (s:bx K H f d S xs j m l)(e:H p=none):p≠f/\p≠S.lg/\p≠S.la/\p≠S.ln/\p≠S.lc/\p≠S.lp:=by
 have(g,h,_):=s.la;exact#[b9 s.ff e,(au s.lg e).symm,(au h e).symm,(au s.ln e).symm,(au s.lc e).symm,(au s.lp e).symm]
def Ask(K:bA)(g H:Hp)(f:Addr)(S:fu)(o:Kl)(p:Addr):Prop:=∃(l:V) (e d:Addr) (k:Kk) (m:List (Str×Kk)) (j:List V),bQ K H p [l,.ref e,.ref d]/\Rp K H (cu k) l/\k.ok (kn o)/\k.dep<=S.kb/\yE K H f S o e m/\m.length<=S.pb/\H d=some (.lst j)/\g S.ld=some (.lst j)/\d≠f/\d≠S.lg/\(d≠S.ln/\d≠S.lc/\d≠S.lp)/\g e=none/\g d=none
theorem Ask.uo (a:Ask K j H f S g p)(fr:bS [S.lg,S.la] f H l)(B:H S.la=some (.dK kvs)):Ask K j l f S g p:=by
 have(o,A,y,k,t,m,q,r,ok,kd,D,u,hd,C,e,d,v):=a;exact#[o,A,y,k,t,m,q.kt fr.kt,r.kt fr.kt,ok,kd,D.uo fr,u,fr.fq d (cI hd B nofun) e hd,C,e,d,v]
theorem Ask.low (a:Ask K e H f S j p)(h:∀q,e q=none->g q=none)(D:∀d,e S.ld=some (.lst d)->g S.ld=some (.lst d)):Ask K g H f S j p:=by
 have(l,C,B,k,r,d,m,o,ok,kd,G,t,hd,E,y,v,u,A,z):=a;exact#[l,C,B,k,r,d,m,o,ok,kd,G,t,hd,D _ E,y,v,u,h _ A,h _ z]
theorem Ask.put (a:Ask K l H f S u p)(v:l q=some o)(L:H q=some (.lst xs)):Ask K l (upd H q (.lst m)) f S u p:=by
 have(A,t,r,k,D,y,B,C,ok,kd,d,E,hd,Q,J,I,G,g,e):=a;have kt:Kt H (upd H q (.lst m)):=Kt.lst L _;have O:t≠q:=λz=>by rw[z,v]at g;cases g
 have N:r≠q:=λz=>by rw[z,v]at e;cases e
 have(j,M,hr):=d.aa;exact#[A,t,r,k,D,y,B.kt kt,C.kt kt,ok,kd,#[#[j,by rw[ay O];exact M,hr.kt kt],d.nf,d.ng,d.na,d.pk,d.pl],E,by rw[ay N];exact hd,Q,J,I,G,g,e]
def GG(K:bA)(f:Addr)(S:fu)(o:Kl)(H l:Hp)(g:List Int)(xs:List Int):Prop:=∃(j e:List Int) (d mk:List (Key×V)),H S.lg=some (.lst (j.map V.int))/\g=j++e/\xs.Sublist e/\H S.la=some (.dK d)/\l S.la=some (.dK (d++mk))/\mk.map (·.1)=e.map Sum.inl/\∀m∈mk,∃p,m.2=.ref p/\Ask K H l f S o p
theorem GG.nil (s:bx K H f d S xs j l g):GG K f S j H H g []:=by
 have(e,h,_):=s.la;exact#[g,[],e,[],s.lg,by simp,.slnil,h,by simpa using h,rfl,λ_ z=>nomatch z]
theorem GG.go (g:GG K f S l H j o ys)(fr:bS [S.lg,S.la] f j H6)(e:H6 S.la=j S.la):GG K f S l H H6 o ys:=by
 have(C,q,d,mk,B,A,z,y,m,v,u):=g;exact#[C,q,d,mk,B,A,z,y,e.trans m,v,λr t=>by have(p,E,D):=u r t;exact#[p,E,D.uo fr m]]
theorem jV :∀{a b:List Int},a.map V.int=b.map V.int->a=b
 | [],[],_=>rfl
 |x::a,y::b,h=>by
  injection h with h1 h2;rw[V.int.inj h1,jV h2]
theorem GG.trans (a:GG K f S j H e r ys)(C:bx K e f d S xs j dl r)(D:∀q,e q=none->H q=none)(Q:∀y,e S.ld=some (.lst y)->H S.ld=some (.lst y))(fr:bS [S.lg,S.la] f e H6)(b:GG K f S j e H6 B v):GG K f S j H H6 B (ys++v):=by
 have(Z,E,g,mk,X,W,V,U,A,T,R):=a;have(Y,l,o,m,O,N,M,L,J,I,G):=b;have e1:Y=r:=jV (by have:=O.symm.trans C.lg;injection this with this;injection this);have e2:o=g++mk:=by have:=L.symm.trans A;injection this with this;injection this
 subst e1 e2;refine#[Z,E++l,g,mk++m,X,by rw[N,W,M6],V.append M,U,by rw[J,M6],by rw[m3,m3,T,I],λz hk=>?_];rcases MH.mp hk with hk|hk
 .have(p,u,t):=R z hk;exact#[p,u,t.uo fr A]
 .have(p,u,t):=G z hk;exact#[p,u,t.low D Q]
structure FO(K:bA) (f:Addr) (S:fu) (kl:Kl) (H H':Hp) (gs':List Int) (tm:Tm):Prop where
 tk:Tok tm
 g:GG K f S kl H H' gs' (lK tm)
def Dp(x:Nat)(t:Tm):Prop:=t.depth<=x/\729*(8*t.size+1)<=14*9 ^ x
theorem Dp.mono (h:Dp x t)(l:x<=y):Dp y t:=#[FA h.1 l,FA h.2 (Uj _ (Pn () l))]
theorem Dp.mk (j:2<=x)(a:∀t∈ts,Dp x t)(l:ts.length<=9):Dp (x+1) (.mk h ts):=by
 refine#[Tm.xQ λt d=>(a t d).1,?_];rw[Tm.ju,Nat.pow_succ];have o:9 ^ 2<=9 ^ x:=Pn () j;have g:=λt d=>(a t d).2;clear a;generalize 9 ^ x=c at g o|-
 have p:729*(8*Tm.sizes ts)+729*ts.length<=14*(ts.length*c):=by
  clear l
  induction ts with
  |nil=>simp[Tm.sizes]
  |cons k r ih =>
   rw[Tm.b7,MW,Nat.add_mul,Nat.one_mul];have:=ih (λt d=>g t (.tail _ d));have y:=g k (.head _);omega
 obtain⟨e,m⟩:∃e,ts.length+e=9:=#[9-ts.length,()];have v:e*729<=e*(14*c):=Uj _ ();have u:ts.length*c+e*c=c*9:=by rw[<-Nat.add_mul,m,Nat.mul_comm]
 have q:e*(14*c)=14*(e*c):=Nat.mul_left_comm _ _ _;omega
theorem Dp.zero (h:Hd):Dp 4 (.mk h []):=#[MP _,by rw[Tm.ju,Tm.sizes];decide]
theorem Dp.leaf (d:t.depth<=3)(s:t.size<=15):Dp 4 t:=#[(),()]
def wK(K:bA):Sp:=λt H Q _=>∃(f d r:Addr) (o:V) (S:fu) (m:List Str) (e:Kl) (q:List (Str×List Kk×Kk)) (u:List Int) (k:Kk) (p:List (Str×Kk)),t=[.ref f,.ref d,.ref r,o]/\bx K H f d S m e q u/\yE K H f S e r p/\Rp K H (cu k) o/\k.ok (kn e)/\k.dep<=S.kb/\p.length<=S.pb /\
 ∀(v:V) (j:Hp) (l:Tm) (g:List Int),bS [S.lg,S.la] f H j->bx K j f d S m e q g->Rp K j (enc l) v->FO K f S e H j g l->Dp 4 l->Q v j
theorem bx.ow (s:bx K H f d S xs e j g):bS [S.lg,S.la] f H H:=bS.refl s.ff
theorem bE :Nm VL (ak kW):=by decide
theorem qI :Lm VL (ak kW):=by decide
theorem nX :aK VL VU (ak kW):=#[rfl,rfl,rfl,by decide,rfl,by decide,by decide]
theorem FP (F:ic K "_law_leaf" "_law_leaf" kW f fd)(hj:1<=j)(TK:dH P w K mg base "_law_take" 1 Vy eK gT tfd)(NO:dH P w K mg base "_law_nought" j VO (nN K 4) gO ofd)(z_len:mg "len"=none)(G:mg "list"=none):bH P w K mg base eZ (j+1) f fd VU (wK K):=by
 refine F.ok nX (λvs H Q E h=>?_) (λc9 A bo s H vs Q E hr h=>?_)
 .have(_,_,_,_,_,_,_,_,_,_,_,rfl,_):=h;rfl
 have(Z,d,ar,vk,S,xs,kl,dl,g,kk,ps,rfl,B,ai,rk,ok,bq,bn,k):=h;have(dd,dc,db):=B.bb;refine#[_,(Z5 (Zf (ak kW) VL ["_law_x","_law_one"] [3] (cJ (va bE 2)) (λ_ _ _ _=>(Zb (Zi (Z3 (i:=0) (show(Wl:List Str).Nodup by decide)) (aJ (Z3 (i:=1) (show(Wl:List Str).Nodup by decide)) aX)))) (λ_ _ _ _=>(@fE _ _ _ (Zq (AD K rfl hr.xW) (va (show Nm Wl _ by left) 1) (va (show Nm Wl _ by left) 2)))) (λ_ _ _ _=>(va (show Nm Wl _ by left) 0)) (ga nX.nd qI 4)) (Z5 (Z2 nX.nd qI 5 (Z0 TK (cZ (va bE 0) (Za aq)))) (Z5 (Zd (PW.pt (@iL _ _ _ _ _ _ _ (Zq bR (va bE 5) aq) (@iz _ _ _ _ (Zj mY (Z4 (Z1 (Zh (va bE 1)) ao)) (Zh (va bE 1)))))) (Z5 (Z2 nX.nd qI 6 (Zl aN (@bh _ _ _ _ (Z1 (Zm cK (Zm jI aq (Z4 (Z1 (Zh (va bE 1)) ao))) aq) (Z1 (Zm bK aq (Z4 (Z1 (Zh (va bE 1)) ao))) ao))) (Zh (va bE 1)))) (Z5 (@cC _ _ _ _ (Z8 MN MO cQ (Zh (va bE 1)) (Za (va bE 6))) (by rfl)) (Z5 (@j6 _ _ _ _ _ _ _ _ _ (mK hr) (Zh (va bE 1)) (va bE 6) (Zg (Z1 (va bE 3) (Z1 (Z6 jt G O6 (Za (va bE 2))) (Z1 (Z6 jt G O6 (Z1 (Zh (va bE 1)) ao)) ao)))) (by rfl)) (Ze (Zo (Zg (Z1 aB (Za (va bE 6)))))))))) (Z5 (Zd (PW.pt (@iL _ _ _ _ _ _ _ (Zq mY (va bE 5) aq) (@iz _ _ _ _ (Zj mH (Z4 (Za (va bE 4))) aq)))) (Ze (Zo (Zg (Z1 aB (Z1 (Zl aN (va bE 4) (Z0 TK (Z1 (va bE 0) (Z1 (Z4 (Za (va bE 4))) ao)))) ao)))))) (Ze (Zo (Z0 NO (Z1 (va bE 0) (Z1 (va bE 1) (Za (va bE 3))))))))))),?_]
 right
 right
 have(cf,b5,a2):=ai.aa;have lp:=a2.length;rw[bC]at lp;have bs:=ai.pl;have b8:(cu kk).dep<=150:=FA (jy kk) ();refine lB ?_;intro N1 N2 N3 N4 c1 c2 c3 c4;ext;refine eR (e:=vV) (φ:=λp=>if cu p.2=cu kk then [.s p.1]else []) (λσ=>∃x y,σ=[x,y,some vk]) b5 a2 () (λp=>by split<;>simp) #[_,_,rfl] ?_ ?_
 .rintro p hp x _ H6 N s6 ⟨_,_,rfl⟩ rx kN;have(xa,x1,x2,rfl,cb,r1,r2):=(show Rp K H6 (.t [.s p.1,cu p.2]) x from rx).t2;obtain rfl:=r1.bj;have cz:(cu p.2).dep<=150:=FA (jy _) (by have:=(ai.pk p hp).2.1;omega);have aw:=rk.same s6;ext;refine cM (λc=>?_) (λc=>?_)
  .ext;exact kN _ _ _ #[#[_,_,rfl],aF.refl _,by rw[if_pos (of_decide_eq_true c)];exact .one .s]
  .exact kN _ _ _ #[#[_,_,rfl],aF.refl _,by rw[if_neg (λz=>c (decide_eq_true z))];exact .nil]
 intro ls H1 ws s1 b1 h1 r1
 have lw:ws.length<=60:=by
  rw[r1.length];exact FA (vU (λp=>by split<;>simp) _) bs
 have br:∀v∈ws,∃y,v=.str y/\Wd y:=by
  intro v hv;have(i,hi):=OJ hv;have(t,ht,rt):=r1.get' hi;have(p,hp,hm):=PD.mp (t9 ht)
  split at hm
  .rw[pD.mp hm]at rt;exact#[_,rt.bj,(ai.pk p hp).2.2]
  .cases hm
 have a1:=B.same s1;have de:=ai.uo (B.ow.same s1);have cd:=rk.same s1;have a4:ls≠Z:=b9 B.ff b1;have cy:=a1.ff;ext;intro fm H2 c8 c7 x2;have f2:bS [S.lg,S.la] Z H H2:=(B.ow.same s1).ext x2;have r:=a1.ext x2;have bk:=rk.kt f2.kt;have b6:=x2.1 _ _ a4 h1;have cx:=r.ff;have(l,J,cp,a8):=B.la;have(n0,n1,n2,n3,n4,n5,n6):=B.nf;have X:H2 S.la=some (.dK l):=x2.1 _ _ n6 (s1 _ _ J);have au:∀{H3:Hp},bS [S.lg,S.la] Z H H3->H3 S.la=some (.dK l)->GG K Z S kl H H3 g []:=λfr e=>(GG.nil B).go fr (e.trans J.symm)
 have R:N4 [some (.ref Z),some (.ref d),some (.ref ar),some vk,some (.ref ls),some (.int fm),none] H2:=by
  have cg:kk.ok ((kn kl).take kl.length):=by rw[Na (by unfold kn;rw[bC];exact mu _)];exact ok
  have k4:kl.length<4:=by have:=B.k3;omega
  have ck:kk.dep<=100:=()
  have cr:=mu kl.length;ext;intro v H3 tm x3 r3 tk d3 z3;exact k v H3 tm g (f2.ext x3) (r.ext x3) r3 #[tk.1,by rw[tk.2];exact au (f2.ext x3) (x3.1 _ _ n6 X)] (.leaf (by have:=B.k3;omega) (by have:=Pn (n:=2) () (show kl.length+1<=4 by omega);omega))
 have rest:N3 [some (.ref Z),some (.ref d),some (.ref ar),some vk,some (.ref ls),some (.int fm),none] H2:=by
  clear c4;ext;refine cM (λc=>?_) (λc=>?_)
  .ext;refine cM (λc2=>?_) (λc2=>?_)
   .have da:(0:Int)<(ws.length:Int):=of_decide_eq_true c2;have ch:(ws.length:Int)<1073741824:=()
    ext;intro r5 H5 bm bl x5;have c6:=x5.1 _ _ a4 b6;have(v5,cl,b0):=nq (xs:=ws) bm bl;have(y5,rfl,bg):=br v5 b0;ext;intro p6 bt;have s6:=ae bt (.tup [.str "name",.str y5]);refine k _ _ (.mk (.name y5) []) g ((f2.ext x5).same s6) ((r.ext x5).same s6) (by rw[cY];exact Rp.t (bQ.of af) (.cons .s (.one .s))) #[.mk rfl (MP _) (λk hk=>nomatch hk) bg,by rw[jR rfl];exact au ((f2.ext x5).same s6) (s6 _ _ (x5.1 _ _ n6 X))] (.zero _)
   .ext;exact R
  .ext;exact R
 clear c3 c4;have cw:=r.get (tT S);have cv:=r.get (Io S);have cq:=r.lg;have cn:=r.mo;have co:=r.mm;ext;refine cM (λc=>?_) (λc=>?_)
 .ext;refine cM (λc2=>?_) (λc2=>?_)
  .have c3:((g.map V.int).length:Int)<S.mo:=of_decide_eq_true c2;rw[bC]at c3;ext;intro lq b2
   have bc:∃n:Int,jZ [V.int (7*((g.map V.int).length:Int)+3),.int (99 - ((g.map V.int).length:Int))] S.tn=some (.int n)/\0<=n/\n<1000/\n=uz S.tn g.length:=by
    have:=bC (f:=V.int) (as:=g);rcases r.tn with e|e
    .rw[e];exact#[_,bz (j:=0) rfl,(),(),by rw[bC];rfl]
    .rw[e];exact#[_,bz (j:=1) rfl,(),(),by rw[bC];rfl]
   have(n,bc,bw,bv,a7):=bc;have s5:=ae b2 (.lst [.int (7*((g.map V.int).length:Int)+3),.int (99 - ((g.map V.int).length:Int))]);have h5:upd H2 lq (.lst [.int (7*((g.map V.int).length:Int)+3),.int (99 - ((g.map V.int).length:Int))]) lq=some (.lst [.int (7*((g.map V.int).length:Int)+3),.int (99 - ((g.map V.int).length:Int))]):=af;generalize upd H2 lq (.lst [.int (7*((g.map V.int).length:Int)+3),.int (99 - ((g.map V.int).length:Int))])=H5 at s5 h5|-;have M:=r.same s5;have f5:=f2.same s5;have ct:=M.get (tT S);have cm:=M.get (Ip S);have am:=M.lg;have ci:(g.map V.int).length<mC:=bD (by rw[bC];omega);have f6:bS [S.lg,S.la] Z H5 (upd H5 S.lg (.lst (g.map V.int++[.int n]))):=M.ow.upd (.head _) n5 am;have a9:H5 S.la=some (.dK l):=s5 _ _ X
   have b7:∀(k:Nat) (m:Int),(g++[n])[k]?=some m->m=uz S.tn k:=λq m T=>by
    by_cases c:q<g.length
    .rw[Ng c]at T;exact B.gn q m T
    .rw[M7 ()]at T;have h0:q-g.length=0:=by have:=(ko.mp T).1;simp at this;omega
     rw[h0]at T
     cases T
     rw[a7,show q=g.length by omega]
   have al:∀kv∈l,∃m∈g++[n],kv.1=Sum.inl m:=λkv h=>by have(m,a,b):=a8 kv h;exact#[m,M8 _ a,b]
   have aj:S.la≠S.lg:=cI a9 am nofun
   have W:upd H5 S.lg (.lst (g.map V.int++[.int n])) S.la=some (.dK l):=by rw[ay aj];exact a9
   have fQ:bx K (upd H5 S.lg (.lst (g.map V.int++[.int n]))) Z d S xs kl dl (g++[n]):=M.go f6 (by rw[m3];exact af) #[l,W,by rw[j3];omega,al] (by rw[j3];show((g.length+1:Nat):Int)<=_;omega) b7;have a6:=(ai.uo f5).uo f6;have aw:=(bk.same s5).kt f6.kt;have(C,ap,ah):=a6.aa;have b4:bu K (upd H5 S.lg (.lst (g.map V.int++[.int n]))) ar C\/bQ K (upd H5 S.lg (.lst (g.map V.int++[.int n]))) ar C:=.inl (bu.of ap);have ad:=f5.trans f6;ext;generalize upd H5 S.lg (.lst (g.map V.int++[.int n]))=H6 at f6 W fQ a6 aw ap ah b4 ad|-;intro l7 az;have s7:=ae az (.lst C);have h7:upd H6 l7 (.lst C) l7=some (.lst C):=af;generalize upd H6 l7 (.lst C)=H7 at s7 h7|-;have ab:=fQ.same s7;have c0:=ab.get (wF S);have(u,ba,ce):=ab.ld;have ca:bu K H7 S.ld u\/bQ K H7 S.ld u:=.inl (bu.of ba);ext;intro l8 ax;have s8:=ae ax (.lst u);have h8:upd H7 l8 (.lst u) l8=some (.lst u):=af;generalize upd H7 l8 (.lst u)=H8 at s8 h8|-;have bi:=ab.same s8;ext;intro I b3;have s9:=ae b3 (.tup [vk,.ref l7,.ref l8]);have h9:bQ K (upd H8 I (.tup [vk,.ref l7,.ref l8])) I [vk,.ref l7,.ref l8]:=bQ.of af;generalize upd H8 I (.tup [vk,.ref l7,.ref l8])=H9 at s9 h9|-;have L:=bi.same s9;have c5:=L.get (A1 S);have U:=s9 _ _ (s8 _ _ (s7 _ _ W));have cs:g.length+1<=14:=()
   have a3:∀q∈l,q.1≠(Sum.inl n:Key):=λq T z=>by
    have(m,hm,e):=a8 q T;have(i,hi):=OJ hm;have h1:=B.gn i m hi;have h2:m=n:=Vb (e.symm.trans z);have h3:=yx (h1.symm.trans (h2.trans a7));have:=(ko.mp hi).1;omega
   have a0:putK l (Sum.inl n) (.ref I)=l++[(Sum.inl n,.ref I)]:=A2 a3
   have bf:Ask K H H9 Z S kl I:=by
    have m7:=fQ.Kr az;have m8:=ab.Kr ax
    have new:∀q,H6 q=none->H q=none:=λq T=>ad.free T λz=>by
     have:=fQ.Kr T;rcases vy.mp z with z|z
     .exact this.2.1 z
     .exact this.2.2.1 (pD.mp z)
    have av:=s8.trans s9
    have bp:H S.ld=some (.lst u):=by
     have(cc,h0,_):=B.ld;have:=(ad.same s7).fq B.ng.2.2.2 (cI h0 J nofun) n4 h0
     rw[ba]at this;rw[h0,this]
    exact#[vk,l7,l8,kk,ps,u,h9,(aw.same s7).same av,ok,bq,#[#[C,av _ _ h7,(ah.same s7).same av],m7.1,m7.2.1,m7.2.2.1,ai.pk,ai.pl],bn,s9 _ _ h8,bp,m8.1,m8.2.1,m8.2.2.2,new _ az,new _ (s7.free ax)]
   have pp:=lT.k (k:=(Sum.inl n:Key)) (v:=.ref I) U (bD ());have f9:=((ad.same s7).same s8).same s9;have ag:=L.ow.um (o:=.dK (putK l (Sum.inl n) (.ref I))) (.tail _ (.head _)) n6 U;have a5:S.lg≠S.la:=aj.symm
   have O:bx K (upd H9 S.la (.dK (putK l (Sum.inl n) (.ref I)))) Z d S xs kl dl (g++[n]):=L.go ag (by rw[ay a5];exact L.lg) #[_,af,by rw[a0,j3,j3];show l.length+1<=g.length+1;omega,λkv hk=>by
    rw[a0]at hk;rcases MH.mp hk with hk|hk
    .exact al kv hk
    .rw[pD.mp hk];exact#[n,by simp,rfl]] L.mm L.gn
   have be:=f9.trans ag;have Y:=bf.uo ag U;have D:upd H9 S.la (.dK (putK l (Sum.inl n) (.ref I))) S.la=some (.dK (l++[(Sum.inl n,.ref I)])):=by rw[a0];exact af
   ext;generalize upd H9 S.la (.dK (putK l (Sum.inl n) (.ref I)))=H10 at pp ag O be Y D|-;intro cj an;have ac:=ae an (.tup [.str "gap",.int n]);exact k _ _ (.mk (.gap n) []) (g++[n]) (be.same ac) (O.same ac) (by rw[cY];exact Rp.new (K:=K) an (.cons .s (.one .i))) #[.mk rfl (MP _) (λk hk=>nomatch hk) #[bw,bv],g,[n],l,[(Sum.inl n,.ref I)],B.lg,rfl,by unfold lK;rw[Tm.jK,Tm.eJ];exact QX _,J,ac _ _ D,rfl,λkv hk=>by rw[pD.mp hk];exact#[I,rfl,Y.uo (O.ow.same ac) D]] (.zero _)
  .ext;exact rest
 .ext;exact rest
end G34
namespace L2
open PySem
end L2
namespace HT
open PySem PyProof.Rows
section
open PySem.SeqAt
open PySem.AutoSeq1 (wpAny_loadPart')
open PySem.MeetsSeq PySem.MeetsSeq2 PySem.MeetsSeq3
end
end HT
namespace L2
open PySem PySem.Spec PyProof.Rows
end L2
namespace G34
open PySem L2
structure Wk(K:bA) (f d:Addr) (S:fu) (xs:List Str) (kl:Kl) (dl:List (Str×List Kk×Kk)) (H:Hp) (dp:Nat) (ts:List Tm) (us:List V) (gs:List Int) (H':Hp):Prop where
 fr:bS [S.lg,S.la] f H H'
 sc:bx K H' f d S xs kl dl gs
 r:bN K H' (ts.map enc) us
 ok:∀t∈ts,Tok t/\Dp dp t
 gg:GG K f S kl H H' gs (ts.flatMap lK)
 lb:∃vs,H S.ld=some (.lst vs)
theorem Wk.nil (s:bx K H f d S xs kl dl gs):Wk K f d S xs kl dl H dp [] [] gs H:=#[s.ow,s,.nil,λt h=>(nomatch h),GG.nil s,by have(e,h,_):=s.ld;exact#[e,h]]
theorem Wk.same (w:Wk K f d S xs kl dl H dp ts us g5 H5)(e:aF H5 H6):Wk K f d S xs kl dl H dp ts us g5 H6:=#[w.fr.same e,w.sc.same e,w.r.same e,w.ok,by have(g,h,_):=w.sc.la;exact w.gg.go (w.sc.ow.same e) ((e _ _ h).trans h.symm),w.lb]
theorem Wk.ext (w:Wk K f d S xs kl dl H dp ts us g5 H5)(e:Ext f H5 H6):Wk K f d S xs kl dl H dp ts us g5 H6:=#[w.fr.ext e,w.sc.ext e,w.r.kt (e.kt w.sc.ff),w.ok,by have(j,h,_):=w.sc.la;have(_,_,_,_,_,_,g):=w.sc.nf;exact w.gg.go (w.sc.ow.ext e) ((e.1 _ _ g h).trans h.symm),w.lb]
theorem Wk.new (w:Wk K f d S xs kl dl H dp ts us g5 H5)(e:H5 p=none):H p=none:=by
 refine w.fr.free e λz=>?_;rcases vy.mp z with rfl|z
 .rw[w.sc.lg]at e;cases e
 .rw[pD.mp z]at e;have(g,h,_):=w.sc.la;rw[h]at e;cases e
theorem Wk.JT (w:Wk K f d S xs kl dl H dp ts us g5 H5)(e:List V)(h:H5 S.ld=some (.lst e)):H S.ld=some (.lst e):=by
 have(l,g):=w.lb;have(m,j,_):=w.sc.la;have:=w.fr.fq w.sc.ng.2.2.2 (cI h j nofun) w.sc.nf.2.2.2.2.1 g
 rw[h]at this;rw[g,this]
theorem Wk.snoc (w:Wk K f d S xs kl dl H dp ts us g5 H5)(fr:bS [S.lg,S.la] f H5 H6)(j:bx K H6 f d S xs kl dl g6)(l:Rp K H6 (enc e) v)(tk:FO K f S kl H5 H6 g6 e)(hd:Dp dp e):Wk K f d S xs kl dl H dp (ts++[e]) (us++[v]) g6 H6:=by
 refine#[w.fr.trans fr,j,?_,λt m=>?_,?_,w.lb]
 .rw[m3];exact(w.r.kt fr.kt).snoc l
 .rcases MH.mp m with h|h
  .exact w.ok t h
  .rw[pD.mp h];exact#[tk.tk,hd]
 .rw[Nv,show [e].flatMap lK=lK e by simp];exact w.gg.trans w.sc (λ_ h=>w.new h) w.JT fr tk.g
theorem Wk.Iq (w:Wk K f d S xs kl dl H dp [] us g5 H5)(fr:bS [S.lg,S.la] f H5 H6)(tk:FO K f S kl H5 H6 g6 e):FO K f S kl H H6 g6 e:=#[tk.tk,by simpa using w.gg.trans w.sc (λ_ h=>w.new h) w.JT fr tk.g]
theorem Wk.rp (w:Wk K f d S xs kl dl H dp ts us g5 H5)(r:Rp K H x v):Rp K H5 x v:=r.kt w.fr.kt
theorem Wk.rW (w:Wk K f d S xs kl dl H dp ts us g5 H5)(a:yE K H f S kl ar ps):yE K H5 f S kl ar ps:=a.uo w.fr
theorem Wk.tok (w:Wk K f d S xs kl dl H dp ts us g5 H5)(ar:fg h ts.length=true/\yz h)(l:ts.length<=9)(g:2<=dp):FO K f S kl H H5 g5 (.mk h ts)/\Dp (dp+1) (.mk h ts):=#[#[.mk ar.1 l (λt e=>(w.ok t e).1) ar.2.ok,by rw[jR ar.2.no];exact w.gg],Dp.mk g (λt e=>(w.ok t e).2) l]
theorem bx.no {dl:List (Str×List Kk×Kk)}(s:bx K H f d S xs kl dl gs)(e:H p=none):p≠f/\p≠S.lg/\p≠S.la:=by
 refine#[b9 s.ff e,λz=>?_,λz=>?_]
 .rw[z,s.lg]at e;cases e
 .have(g,h,_):=s.la;rw[z,h]at e;cases e
theorem Wk.put (w:Wk K f d S xs kl dl H dp ts us g5 H5)(j:bx K H f d S xs kl dl gs)(l:H p=none)(h:H5 p=some (.lst m))(gg:GG K f S kl H (upd H5 p (.lst e)) g5 (ts.flatMap lK)):Wk K f d S xs kl dl H dp ts us g5 (upd H5 p (.lst e)):=by
 have(u,t,q):=j.no l;have fr:=w.fr.BF (o:=.lst e) l u h;have(g,y,v):=w.sc.la;exact#[fr,j.go fr (by rw[ay t.symm];exact w.sc.lg) #[g,by rw[ay q.symm];exact y,v] w.sc.mm w.sc.gn,w.r.kt (Kt.lst h _),w.ok,gg,w.lb]
theorem qm (ps e:List (Str×Kk)):(ql ps e).length<=ps.length+e.length:=by
 unfold ql;rw[j3];have:=O3 (λp=>!decide (p.1∈e.map (·.1))) ps;omega
theorem yE.near (a:yE K H f S kl ar ps)(g:bx K H f d S xs kl dl gs)(o:∀q∈e,q.2.ok (kn kl)/\q.2.dep<=60/\Wd q.1)(u:ps.length+e.length<=60)(r:H p=none)(v:yD K H6 p (ql ps e)):yE K H6 f S kl p (ql ps e):=by
 have(m,l,j):=g.no r;refine#[v,m,l,j,λq t=>?_,FA (qm _ _) u];rcases MH.mp t with h|h
 .exact a.pk q (Rw.mp h).1
 .exact o q h
theorem B6 {xs:List Str}(E:xs.length=ks.length)(z:HM (xs.map V.str) e ts H o)(r:bN K H (ks.map cu) e):bN K o ((xs.zip ks).map vV) (ts.map V.ref):=by
 have(q,len,at_):=z;have v:=r.length;rw[bC]at len v
 have g:∀(n:Nat),n<=xs.length->bN K o (((xs.zip ks).take n).map vV) ((ts.take n).map V.ref):=by
  intro n
  induction n with
  |zero=>intro _;exact .nil
  |succ n ih =>
   intro B;have A:n<xs.length:=B;have j:n<ks.length:=()
   have p:n<ts.length:=()
   have w:n<(xs.zip ks).length:=by rw[Tz];omega
   rw[EF w,EF p,m3,m3];refine(ih ()).append (.one ?_);have(x,y,m,D,C):=at_ n _ (my p);have(t,l,u):=r.get' D;rw[rj,my A]at m;rw[rj,my j]at l;simp at m l;subst m l;rw[List.getElem_zip];exact Rp.t (bQ.of C) (.cons .s (.one (u.same q)))
 have:=g xs.length (mu _)
 rwa [Na (by rw[Tz];omega),Na ()]at this
theorem yF :∀{arms:List (Str×List Str)}{ts:List T}(a:Str×List Str) (t:T),arms.length=ts.length->NB nj (arms++[a]) (ts++[t])=NB nj arms ts++[nj a t]
 | [],[],_,_,_=>rfl
 |b::r,u::q,a,t,h=>by
  show nj b u::NB nj (r++[a]) (q++[t])=_;rw[yF a t (Vp h)];rfl
theorem bx.name {dl:List (Str×List Kk×Kk)}(s:bx K H f d S xs kl dl gs)(o:0<=r)(m:r<6):∃x,jZ (((xs.drop 12).take 6).map V.str) r=some (.str x)/\Wd x:=by
 have l:=s.lx;have(v,g,j):=nq (xs:=((xs.drop 12).take 6).map V.str) (k:=r) o (by rw[bC,we,Oj,l];exact m);have(x,e,rfl):=NV.mp j;exact#[x,g,s.un.2 x (Pk (MT e))]
def pA(K:bA)(n:Nat):Sp:=λp H Q _=>∃(f d ar:Addr) (o:V) (e g:Int) (S:fu) (xs:List Str) (kl:Kl) (dl:List (Str×List Kk×Kk)) (gs:List Int) (ps:List (Str×Kk)) (k:Kk),p=[.ref f,.ref d,.ref ar,o,.int e,.int g]/\bx K H f d S xs kl dl gs/\yE K H f S kl ar ps/\Rp K H (cu k) o/\k.ok (kn kl)/\k.dep+n<=S.kb/\0<=g/\g<n/\-1<=e/\e<=1000/\ps.length+2*n<=S.pb /\
 ∀(v:V) (l:Hp) (m:Tm) (j:List Int),bS [S.lg,S.la] f H l->bx K l f d S xs kl dl j->Rp K l (enc m) v->FO K f S kl H l j m->Dp (n+3) m->Q v l
def DU(K:bA)(n:Nat):Sp:=λq H Q _=>∃(f d ar:Addr) (o p:V) (e g:Int) (S:fu) (xs:List Str) (kl:Kl) (dl:List (Str×List Kk×Kk)) (gs:List Int) (ps:List (Str×Kk)) (k:Kk) (x:Str),q=[.ref f,.ref d,.ref ar,o,p,.int e,.int g]/\bx K H f d S xs kl dl gs/\yE K H f S kl ar ps/\Rp K H (cu k) o/\k.ok (kn kl)/\k.dep+n<=S.kb/\Rp K H (cu (.kd x)) p/\x∈kn kl/\0<=g/\g<n/\-1<=e/\e<=1000/\ps.length+2*n+2<=S.pb /\
 ∀(v:V) (m:Hp) (j:List (Str×List Str)) (ts:List Tm) (l:List Int),bS [S.lg,S.la] f H m->bx K m f d S xs kl dl l->Rp K m (.t (NB nj j (ts.map enc))) v->j.length=ts.length->ts.length<=3->(∀a∈j,Wd a.1/\a.2.length<=2/\∀y∈a.2,Wd y)->(∀t∈ts,Tok t/\Dp (n+3) t)->GG K f S kl H m l (ts.flatMap lK)->Q v m
def vq(K:bA)(n:Nat):Sp:=λp H Q _=>∃(f d ar:Addr) (o:V) (e g:Int) (S:fu) (xs:List Str) (kl:Kl) (dl:List (Str×List Kk×Kk)) (gs:List Int) (ps:List (Str×Kk)) (k:Kk),p=[.ref f,.ref d,.ref ar,o,.int e,.int g]/\bx K H f d S xs kl dl gs/\yE K H f S kl ar ps/\Rp K H (cu k) o/\k.ok (kn kl)/\k.dep+n<=S.kb/\1<=g/\g<n/\4<=e/\e<=1000/\ps.length+2*n<=S.pb /\
 ∀(v:V) (l:Hp) (m:Tm) (j:List Int),bS [S.lg,S.la] f H l->bx K l f d S xs kl dl j->Rp K l (enc m) v->FO K f S kl H l j m->Dp (n+3) m->Q v l
theorem dz.get {K:bA}{H:Hp}{nn:List Addr}:∀{dl:List (Str×List Kk×Kk)}{g:List V}{i:Nat}{v:V},dz K H nn dl g->g[i]?=some v->∃dd∈dl,B3 K H nn dd v
 | [],_,_,_,h,e=>by subst h;cases e
 |dd::r,_,0,v,⟨u,us,e1,h,_⟩,e=>by
  subst e1
  cases e
  exact#[dd,.head _,h]
 |dd::r,_,i+1,v,⟨u,us,e1,_,h⟩,e=>by
  subst e1;have(l,m,j):=dz.get h (show us[i]?=some v from e);exact#[l,.tail _ m,j]
theorem dz.len {K:bA}{H:Hp}{nn:List Addr}:∀{dl:List (Str×List Kk×Kk)}{e:List V},dz K H nn dl e->e.length=dl.length
 | [],_,h=>by subst h;rfl
 |dd::r,_,⟨u,us,e1,_,h⟩=>by
  subst e1;rw[MW,MW,dz.len h]
theorem rX (o:bx K H f d S xs kl dl gs)(k:∀(l:Addr) (H':Hp),aF H H'->H l=none->H' l=some (.lst ((kn kl).map V.str))->Q (.ref l) H'):j7 (Cv K S.kd) (Cs K 2 (qL (iJ 0) (qL (iJ 1) Ez))) uT (mV 0) Q [none,none] H:=by
 have(I,v,A,m,j):=o.kd.bq
 cases A
 have J:=o.k3;refine jH (e:=FL) (φ:=λk=>[.s k.1]) (λq=>∃a b,q=[a,b]) m j () (λk=>mu _) #[_,_,rfl] ?_ ?_
 .rintro p hp y _ H6 N s6 ⟨_,_,rfl⟩ rx kN;have(C,E,D,rfl,r,g,r2):=(show Rp K H6 (.t [.s p.1,.t (p.2.map qi)]) y from rx).t2;ext;exact kN _ _ _ #[#[_,_,rfl],aF.refl _,.one g]
 intro l B G u w z g;rw[kE (λp:Str×List (Str×List Kk)=>T.s p.1),show(kl.map λp=>T.s p.1)=(kn kl).map T.s from by unfold kn;rw[Ph];rfl]at g;obtain rfl:=g.tD;exact k l B u w z
theorem bx.IY {dl:List (Str×List Kk×Kk)}(e:bx K H f d S xs kl dl gs):(kn kl).length<=3:=by unfold kn;rw[bC];exact e.k3
structure CI(K:bA) (f d:Addr) (S:fu) (xs:List Str) (kl:Kl) (dl:List (Str×List Kk×Kk)) (H:Hp) (dp:Nat) (i:Nat) (us:List V) (H':Hp):Prop where
 x:∃(ts:List Tm) (gs:List Int),Wk K f d S xs kl dl H dp ts us gs H'/\ts.length=i
theorem av :Nm Vs (ak iF):=by decide
theorem eE :Lm Vs (ak iF):=by decide
theorem dI :aK Vs Vt (ak iF):=#[rfl,rfl,rfl,by decide,rfl,by decide,by decide]
theorem FQ (hn:n<=10)(hj:1<=j)(h1:jg<=j)(h2:jl<=j)(h3:jk<=j)(h4:je<=j)(F:ic K "_law_term" "_law_term" iF f fd)(TK:dH P w K mg base "_law_take" 1 Vy eK gT tfd)(AK:dH P w K mg base "_law_any_kind" jk VF (ik K 3) gA afd)(TG:dH P w K mg base "_law_tags_of" 1 VT (lI K) gG gfd)(TE:dH P w K mg base "_law_term" je Vt (pA K n) gE efd)(GN:dH P w K mg base "_law_generic" jg Vt (vq K (n+1)) gN nfd)(LF:dH P w K mg base "_law_leaf" jl VU (wK K) gL lfd)(z_len:mg "len"=none)(G:mg "tuple"=none)(aa:mg "max"=none)(z_range:mg "range"=none)(ad:mg "int"=none):bH P w K mg base eZ (j+1) f fd Vt (pA K (n+1)):=by
 refine F.ok dI (λvs H Q E h=>?_) (λer A b3 s H vs Q E hr h=>?_)
 .have(_,_,_,_,_,_,_,_,_,_,_,_,_,rfl,_):=h;rfl
 have(fe,d,ar,vk,g,o,S,xs,kl,dl,gs,ps,kk,rfl,sc,ai,rk,ok,dx,en,em,dg,df,d1,k):=h;refine#[_,(Z5 (Zd (PW.pt (@uH _ _ _ _ _ _ _ (Zq mY (va av 4) aq) (@uH _ _ _ _ _ _ _ (Zq mY (va av 5) aq) (@sr _ _ _ _ (Zj bR (Z0 TK (cZ (va av 0) (Za aq))) aq))))) (Ze (Zo (Z0 LF (Z1 (va av 0) (Z1 (va av 1) (Z1 (va av 2) (Za (va av 3))))))))) (Z5 (Zd (Zj bR (Z0 TK (cZ (va av 0) (Za aq))) aq) (Ze (Zo (Z0 GN (Z1 (va av 0) (Z1 (va av 1) (Z1 (va av 2) (Z1 (va av 3) (Z1 (va av 4) (Za (va av 5))))))))))) (Z5 (Z2 dI.nd eE 6 (Zm j5 (aS bK (va av 4) aq) aq)) (Z5 (Zd (Zq (vQ hr.xW) (va av 3) aB) (Z5 (Zd (Zj bR (Z0 TK (cZ (va av 0) (Za aq))) aq) (Z5 (Z2 dI.nd eE 7 (Z0 AK (Z1 (va av 0) (Z1 (Zc (ak iF) Vs VG [] (@dZ _ _ _ _ (Zh (va av 1))) (λ_ _ _ _=>(Zb (Zi (Z3 (i:=0) (show(VG:List Str).Nodup by decide)) (aJ (Z3 (i:=1) (show(VG:List Str).Nodup by decide)) aX)))) (λ_ _ _ _=>(va (show Nm VG _ by left) 0))) (Za aq))))) (Ze (Zo (Zg (Z1 aB (Z1 (Z0 TE (Z1 (va av 0) (Z1 (va av 1) (Z1 (va av 2) (Z1 (Zg (Z1 aB (Za (va av 7)))) (Z1 (aS bK (va av 4) aq) (Z1 (aS bK (va av 5) aq) ao))))))) ao))))))) (Z5 (Z2 dI.nd eE 8 (Z0 TE (Z1 (va av 0) (Z1 (va av 1) (Z1 (va av 2) (Z1 aB (Z1 (va av 6) (Z1 (aS bK (va av 5) aq) ao)))))))) (Ze (Zo (Zg (Z1 aB (Z1 (Zl vK aB (Z0 TK (cZ (va av 0) (Za aq)))) (Z1 (va av 8) (Z1 (Z0 TE (Z1 (va av 0) (Z1 (va av 1) (Z1 (va av 2) (Z1 aB (Z1 (va av 6) (Z1 (aS bK (va av 5) aq) ao))))))) ao)))))))))) (Z5 (Zd (Zj bR (Z9 aZ (va av 3)) aB) (Z5 (Z2 dI.nd eE 9 (Z0 TK (cZ (va av 0) (Za aq)))) (Z5 (Zd (Zq bR (va av 9) aq) (Ze (Zo (Zg (Z1 aB (Z1 (Z0 TE (Z1 (va av 0) (Z1 (va av 1) (Z1 (va av 2) (Z1 (va av 3) (Z1 (aS bK (va av 4) aq) (Z1 (aS bK (va av 5) aq) ao))))))) ao)))))) (Z5 (Zd (Zq bR (va av 9) aq) (Z5 (Z2 dI.nd eE 8 (Z0 TE (Z1 (va av 0) (Z1 (va av 1) (Z1 (va av 2) (Z1 (Z9 (gM K rfl) (va av 3)) (Z1 (va av 6) (Z1 (aS bK (va av 5) aq) ao)))))))) (Ze (Zo (Zg (Z1 aB (Z1 (va av 8) (Z1 (Z0 TE (Z1 (va av 0) (Z1 (va av 1) (Z1 (va av 2) (Z1 (va av 3) (Z1 (va av 6) (Z1 (aS bK (va av 5) aq) ao))))))) ao)))))))) (Z5 (Z2 dI.nd eE 10 (Z0 TK (Z1 (va av 0) (Z1 (Zl aN (@bh _ _ _ _ (cZ aq (Za aq))) (Z6 kJ ad O4 (Z1 (@pK _ _ _ _ _ _ _ _ bR (Z0 TK (cZ (va av 0) (Za aq))) aq (sA _)) ao))) ao)))) (Z5 (Z2 dI.nd eE 11 (Zm j5 (aS bK (va av 4) aq) (@dQ _ _ _ _ _ _ _ _ _ (qB rfl) (by left) aa Q7 (Z1 aq (Za (va av 10))) (by decide) (by decide) (by rfl) (by rfl)))) (Ze (Zo (Zg (Z1 aB (Z1 (Z6 aU G MJ (Z1 (Zc (ak iF) Vs ["_law_k"] [0,1,2,3,5,11] (Zn (Za (va av 10))) (λ_ _ _ _=>(Z3 (i:=0) (show(Vz:List Str).Nodup by decide))) (λ_ _ _ _=>(Z0 TE (Z1 (va (show Nm Vz _ by left) 1) (Z1 (va (show Nm Vz _ by left) 2) (Z1 (va (show Nm Vz _ by left) 3) (Z1 (Z9 (gM K rfl) (va (show Nm Vz _ by left) 4)) (Z1 (va (show Nm Vz _ by left) 6) (Z1 (aS bK (va (show Nm Vz _ by left) 5) aq) ao))))))))) ao)) ao))))))))))) (Z5 (Z2 dI.nd eE 12 (Z0 TG (Z1 (va av 1) (Za (va av 3))))) (Z5 (Zp (Zl aZ (va av 12) (Z0 TK (Z1 (va av 0) (Z1 (Z4 (Za (va av 12))) ao)))) (Zb (Zi (ga dI.nd eE 13) (aJ (ga dI.nd eE 14) aX)))) (Z5 (Z2 dI.nd eE 11 (Zm j5 (aS bK (va av 4) aq) (@dQ _ _ _ _ _ _ _ _ _ (qB rfl) (by left) aa Q7 (Z1 aq (Z1 (Z4 (Za (va av 14))) ao)) (by decide) (by decide) (by rfl) (by rfl)))) (Ze (Zo (Zg (Z1 aB (Z1 (va av 13) (Z1 (Z6 aU G MJ (Z1 (Zc (ak iF) Vs Wv [0,1,2,5,11] (dZ (va av 14)) (λ_ _ _ _=>(Z3 (i:=0) (show(VB:List Str).Nodup by decide))) (λ_ _ _ _=>(Z0 TE (Z1 (va (show Nm VB _ by left) 1) (Z1 (va (show Nm VB _ by left) 2) (Z1 (va (show Nm VB _ by left) 3) (Z1 (va (show Nm VB _ by left) 0) (Z1 (va (show Nm VB _ by left) 5) (Z1 (aS bK (va (show Nm VB _ by left) 4) aq) ao))))))))) ao)) ao)))))))))))))),?_]
 right
 right
 have cr:ps.length+2*n<=S.pb:=()
 have bf:=sc.ff;have(ev,et,es):=sc.bb;have cq:kk.dep+n<=S.kb:=()
 have dy:kk.dep<=60:=()
 have cp:(cu kk).dep<=150:=FA (jy kk) ();have IY:=sc.IY;refine yb ?_;intro N1 N2 N3 N4 N5 N6 N7 c1 c2 c3 c4 c5 c6 c7;refine zH (λb H1=>Ext fe H H1/\(b=false->4<=g/\1<=o)) (λC hC=>?_) (λH1 h1=>?_) (λH1 h1=>?_)
 .clear c1 c2 c3 c4 c5 c6 c7;ext;refine cM (λc=>?_) (λc=>?_)
  .exact hC true H #[Ext.refl bf,λz=>nomatch z]
  ext;refine cM (λc'=>?_) (λc'=>?_)
  .exact hC true H #[Ext.refl bf,λz=>nomatch z]
  ext;intro r H1 r0 r1 x1;ext;refine hC _ H1 #[x1,λ_=>?_];have e1:¬g<4:=λz=>c (decide_eq_true z);have e2:¬o<1:=λz=>c' (decide_eq_true z);omega
 .clear c1 c2 c3 c4 c5 c6 c7;have w1:Wk K fe d S xs kl dl H (n+3) [] [] gs H1:=(Wk.nil sc).ext h1.1;have da:=w1.sc;have e0:=w1.rW ai;have dj:=w1.rp rk;ext;intro v5 B ag g5 f5 W r5 ah d5;exact k v5 B ag g5 (w1.fr.trans f5) W r5 (w1.Iq f5 ah) (d5.mono ())
 have(x1,h1):=h1;have(de,el):=h1 rfl;have w1:Wk K fe d S xs kl dl H (n+3) [] [] gs H1:=(Wk.nil sc).ext x1;have eb:=w1.sc.ff;ext;intro r2 H2 dr dp x2;have w2:=w1.ext x2;have aj:=w2.sc;have ey:=w2.rW ai;have az:=w2.rp rk;have am:=aj.ff;ext;refine cM (λc=>?_) (λc=>?_)
 .clear c1 c2 c3 c4 c5 c6 c7;ext;intro v5 B ag g5 f5 W r5 ah d5;exact k v5 B ag g5 (w2.fr.trans f5) W r5 (w2.Iq f5 ah) d5
 have ee:-1<=(g-1) / 2:=()
 have ed:(g-1) / 2<=1000:=()
 have eq:0<=o-1:=()
 have ep:o-1<n:=()
 have dd:-1<=g-1:=()
 have dc:g-1<=1000:=()
 have p:∀(h:Hd) (v:V) (H':Hp) (O:List Tm) (us:List V) (g':List Int),Wk K fe d S xs kl dl H (n+3) O us g' H'->fg h O.length=true/\yz h->O.length<=9->Rp K H' (oS h (O.map enc)) v->Q v H':=λh v H' O us g' w' bg l' r' =>
  k v H' (.mk h O) g' w'.fr w'.sc (by rw[cY];exact r') (w'.tok bg l' ()).1 (w'.tok bg l' ()).2
 have rN:Rp K H2 (T.s "num") (.str "num"):=.s;have dn:Rp K H2 (cu .num) (.str "num"):=.s;have oN:Kk.ok (kn kl) .num:=True.intro;have dN:Kk.dep .num+n<=S.kb:=by show 0+n<=S.kb;omega
 have ea:=aj.get (mw S);have(ka,dw,ek,a1,cm):=aj.kd.bq
 cases ek
 ext;refine cM (λc=>?_) (λc=>?_)
 .clear c1 c2 c3 c4 c5 c6 c7;ext;intro r3 H3 b2 b1 x3;have N:=w2.ext x3;have ab:=N.sc;have Z:=ab.ff;have ci:=N.rW ai;have ct:=ab.get (mw S);have cn:=a1.kt (x3.kt am);have dm:Rp K H3 (cu .num) (.str "num"):=.s;have co:(kn kl).length<=100:=()
  ext;refine cM (λc2=>?_) (λc2=>?_)
  .ext;refine rX ab λl4 H4 s4 d9 h4=>?_;have w4:=N.same s4;have cd:=w4.sc.ff;ext;intro v5 B Y x5 r5 o5 d5;have D:=w4.ext x5;ext;intro p6 ba;have s6:=ae ba (.tup [.str "row",v5]);have r6:Rp K (upd B p6 (.tup [.str "row",v5])) (cu (.row Y)) (.ref p6):=Rp.new (K:=K) ba (.cons .s (.one r5));generalize upd B p6 (.tup [.str "row",v5])=H6 at s6 r6|-;have R:=D.same s6;have fQ:=R.sc;have ex:=R.rW ai;have oR:Kk.ok (kn kl) (.row Y):=o5;have dR:Kk.dep (.row Y)+n<=S.kb:=by have:(0:Int).toNat=0:=rfl;show Y.dep+1+n<=S.kb;omega
   ext;intro v7 H7 U g7 f7 u M q d7;have L:=R.snoc f7 u M q d7;ext;intro p8 m;have s8:=ae m (.tup [.str "long",v7]);exact p .long _ _ _ _ _ (L.same s8) #[rfl,True.intro] (by show 1<=9;decide) (Rp.new (K:=K) m (.cons .s L.r))
  .ext;intro v4 H4 cx g4 f4 aw r4 bm d4;have w4:=N.snoc f4 aw r4 bm d4;have cd:=aw.ff;ext;intro r5 B bw bv x5;have D:=w4.ext x5;have W:=D.sc;have bi:=D.rW ai;have dk:Rp K B (cu .num) (.str "num"):=.s;have l6:(MI "+-*:<=").length=6:=by decide
   have(cc,hc,ce):=atS (z:="+-*:<=") bw (by rw[show(R8 "+-*:<=")=6 from l6];exact bv);ext;intro v6 H6 cw g6 f6 fQ r6 bl d6;have R:=D.snoc f6 fQ r6 bl d6;ext;intro p8 m;have s8:=ae m (.tup [.str "op",.str ⟨#[cc]⟩,v4,v6])
   have wc:Wd ⟨#[cc]⟩:=#[(by decide:1<=20),λc h=>by
    have e:c=cc:=by simpa using h
    have al:∀c∈(MI "+-*:<=").cps.toList,c<1000:=by decide
    rw[e];exact al cc ce]
   exact p (.op ⟨#[cc]⟩) _ _ _ _ _ (R.same s8) #[rfl,wc] (by show 2<=9;decide) (Rp.new (K:=K) m (.cons .s (.cons .s R.r)))
 refine c4 _ _ ?_
 cases kk with
 |num=>exact absurd (decide_eq_true rfl) c
 |op n=>exact absurd ok id
 |row k2 =>
  have(va,v1,v2,rfl,as,g1,g2):=(show Rp K H2 (.t [.s "row",cu k2]) vk from az).t2;obtain rfl:=g1.bj;have(_,_,ez,ck,eh):=rk.bq
  cases ez
  have o2:k2.ok (kn kl):=ok;have eo:k2.dep+n<=S.kb:=by have:Kk.dep (.row k2)=k2.dep+1:=rfl;omega
  clear c4 c5 c6 c7 c3 c2 c1;ext;intro r3 H3 b2 b1 x3;have N:=w2.ext x3;have ab:=N.sc;have Z:=ab.ff;have ci:=N.rW ai;have di:=N.rp rk;have ap:=as.kt (x3.kt am);have ch:=g2.kt (x3.kt am);ext;refine cM (λc2=>?_) (λc2=>?_)
  .ext;intro v7 H7 U g7 f7 u M q d7;have L:=N.snoc f7 u M q d7;ext;intro p8 m;have s8:=ae m (.tup [.str "others",v7]);exact p .others _ _ _ _ _ (L.same s8) #[rfl,True.intro] (by show 1<=9;decide) (Rp.new (K:=K) m (.cons .s L.r))
  ext;refine cM (λc3=>?_) (λc3=>?_)
  .ext;intro v7 H7 U g7 f7 u M q d7;have L:=N.snoc f7 u M q d7;have ew:=L.rW ai;have dh:=L.rp rk;ext;intro v8 H8 cv g8 f8 bn r8 bk d8;have w8:=L.snoc f8 bn r8 bk d8;ext;intro p9 J;have s9:=ae J (.tup [.str "more",v7,v8]);exact p .more _ _ _ _ _ (w8.same s9) #[rfl,True.intro] (by show 2<=9;decide) (Rp.new (K:=K) J (.cons .s w8.r))
  ext;intro pz a9;have sz:=ae a9 (.lst [.int 4,.int 10]);have a4:upd H3 pz (.lst [.int 4,.int 10]) pz=some (.lst [.int 4,.int 10]):=af;have nz:pz≠fe:=BG Z a9;generalize upd H3 pz (.lst [.int 4,.int 10])=Hz at sz a4|-;have wz:=N.same sz;have ca:cg Hz fe:=Z.same sz;ext;intro c Hc c0 c8 xc;have ec:=xc.1 _ _ nz a4;have cb:=xc.2;have wc:=wz.ext xc;ext;refine .inr #[_,rfl,?_]
  obtain⟨mm,d3,dt,ds⟩:∃mm:Int,jZ [V.int 4,V.int 10] (if decide (V.int c=V.int 0)=true then(1:Int)else 0)=some (.int mm)/\0<mm/\mm<=10:=by
   split
   .exact#[10,rfl,by decide,by decide]
   .exact#[4,rfl,by decide,by decide]
  ext;intro X H4 dv du x4;have a2:Kt H3 H4:=((Kt.same sz).trans (xc.kt ca)).trans (x4.kt cb);have w4:=wc.ext x4;have br:1<=(if X>1 then X else 1):=by split<;>omega
  have bt:-1<=(g-1) / (if X>1 then X else 1):=by
   have:=TF (a:=g-1) (b:=if X>1 then X else 1) () ();omega
  have bs:(g-1) / (if X>1 then X else 1)<=1000:=by
   have:=Te (a:=g-1) (if X>1 then X else 1) ();omega
  have an:=ap.kt a2;have cf:=ch.kt a2;ext;refine lV (n:=X.toNat) (λi σ us B=>(∃y,σ=[y,some (.ref fe),some (.ref d),some (.ref ar),some (.ref va),some (.int o),some (.int ((g-1) / (if X>1 then X else 1)))])/\Kt H4 B/\CI K fe d S xs kl dl H (n+3) i us B) #[#[_,rfl],Kt.refl,#[[],gs,w4,rfl]] ?_ (small ()) ?_ ?_
  .rintro i σ us B hi ⟨_,_,⟨O,g5,D,e⟩⟩;rw[D.r.length,bC,e];exact mu _
  .rintro i σ us B hi ⟨⟨_,rfl⟩,Y,⟨O,g5,D,ac⟩⟩;have cj:=an.kt Y;have eg:=cf.kt Y;have W:=D.sc;have bi:=D.rW ai;ext;intro v7 H7 U g7 f7 u M q d7;ext
   .exact Y.trans f7.kt
   exact#[O++[U],g7,D.snoc f7 u M q d7,by rw[j3,ac];rfl]
  .rintro σ us6 H6 ⟨_,_,⟨O,g6,R,ac⟩⟩ p7 hp7;have s7:=ae hp7 (.lst us6);have h7:upd H6 p7 (.lst us6) p7=some (.lst us6):=af;have M:=R.r.same s7;have L:=R.same s7;generalize upd H6 p7 (.lst us6)=H7 at s7 h7 M L|-;ext;refine .inl #[bu.of h7,λp8 m=>?_];have s8:=ae m (.tup us6);have r8:=Rp.new (K:=K) m M;have w8:=L.same s8;generalize upd H7 p8 (.tup us6)=H8 at s8 r8 w8|-;ext;intro p9 J;have s9:=ae J (.tup [.str "row",.ref p8]);exact p .row _ _ _ _ _ (w8.same s9) #[rfl,True.intro] () (Rp.new (K:=K) J (.cons .s (.one r8)))
 |kd x =>
  have(va,v1,v2,rfl,as,g1,g2):=(show Rp K H2 (.t [.s "kind",.s x]) vk from az).t2;obtain rfl:=g1.bj;have hx:x∈kn kl:=ok;ext;intro v3 H3 k3 s3 bc ei r3;have(i3,be):=OJ bc;have(d0,dz,b7):=sc.ok.pt i3 k3 be;have b9:i3<kl.length:=(ko.mp be).1;have(ta,I,rfl,au,ax):=r3.bq;have b5:=ax.length;rw[bC]at b5;have N:=w2.same s3;have Z:=N.sc.ff;have c9:(0:Int)<(I.length:Int):=()
  have cz:(I.length:Int)<1073741824:=()
  have d2:bu K H3 ta I\/bQ K H3 ta I:=.inr au;ext;intro r4 H4 b0 bx x4;have w4:=N.ext x4;have(v4,b6,_):=nq (xs:=I) b0 bx
  have a5:I[r4.toNat]?=some v4:=by
   have:=bz (xs:=I) (j:=r4.toNat) (v:=I[r4.toNat]'()) (my ());rw[show((r4.toNat:Nat):Int)=r4 by omega,b6]at this;rw[my ()];exact this.symm
  have(t4,a8,bp):=ax.get' a5;rw[rj]at a8;have(tg,a6,rfl):=ur.mp a8;have(ga,D,R,rfl,ef,q1,q2):=(show Rp K H4 (.t [.s tg.1,.t (tg.2.map cu)]) v4 from bp.kt (x4.kt Z)).t2;obtain rfl:=q1.bj;have(ia,l,rfl,a3,a0):=q2.bq;have(cy,tok):=b7 tg (t9 a6);have li:=a0.length;rw[bC]at li;have cl:=au.kt (x4.kt Z);have cs:bu K H4 ia l\/bQ K H4 ia l:=.inr a3;have br:1<=(if(l.length:Int)>1 then(l.length:Int)else 1):=by split<;>omega
  have bt:-1<=(g-1) / (if(l.length:Int)>1 then(l.length:Int)else 1):=by
   have:=TF (a:=g-1) (b:=if(l.length:Int)>1 then(l.length:Int)else 1) () ();omega
  have bs:(g-1) / (if(l.length:Int)>1 then(l.length:Int)else 1)<=1000:=by
   have:=Te (a:=g-1) (if(l.length:Int)>1 then(l.length:Int)else 1) ();omega
  ext;refine kQ (K:=K) (xs:=l) (λi σ us B=>(∃y,σ=[y,some (.ref fe),some (.ref d),some (.ref ar),some (.int o),some (.int ((g-1) / (if(l.length:Int)>1 then(l.length:Int)else 1)))])/\Kt H4 B/\CI K fe d S xs kl dl H (n+3) i us B) #[#[_,rfl],Kt.refl,#[[],gs,w4,rfl]] ?_ (small ()) ?_ ?_ ?_
  .rintro i σ us B hi ⟨_,_,⟨O,g5,D,e⟩⟩;rw[D.r.length,bC,e];exact mu _
  .rintro i σ us B hi ⟨_,Y,_⟩;exact a3.kt Y
  .rintro i y σ us B hy ⟨⟨_,rfl⟩,Y,⟨O,g5,D,ac⟩⟩;have(t6,a7,bo):=a0.get' hy;rw[rj]at a7;have(q6,b8,rfl):=ur.mp a7;have(b4,dq):=tok q6 (t9 b8)
   have oq:q6.ok (kn kl):=Kk.wG (λz hz=>by
    rw[<-sc.ok.wH (Ny b9)]at hz;exact MT hz) b4
   have db:=bo.kt Y;have ej:q6.dep+n<=S.kb:=()
   have W:=D.sc;have bi:=D.rW ai;ext;intro v7 H7 U g7 f7 u M q d7;ext
   .exact Y.trans f7.kt
   exact#[O++[U],g7,D.snoc f7 u M q d7,by rw[j3,ac];rfl]
  .rintro σ us6 H6 ⟨_,_,⟨O,g6,R,ac⟩⟩ p7 hp7;have s7:=ae hp7 (.lst us6);have h7:upd H6 p7 (.lst us6) p7=some (.lst us6):=af;have M:=R.r.same s7;have L:=R.same s7;generalize upd H6 p7 (.lst us6)=H7 at s7 h7 M L|-;ext;refine .inl #[bu.of h7,λp8 m=>?_];have s8:=ae m (.tup us6);have r8:=Rp.new (K:=K) m M;have w8:=L.same s8;generalize upd H7 p8 (.tup us6)=H8 at s8 r8 w8|-;ext;intro p9 J;have s9:=ae J (.tup [.str "tag",.str tg.1,.ref p8]);exact p (.tag tg.1) _ _ _ _ _ (w8.same s9) #[rfl,sc.Lj bc (t9 a6)] () (Rp.new (K:=K) J (.cons .s (.cons .s (.one r8))))
def iw(K:bA)(H:Hp)(f:Addr)(S:fu)(g:Kl)(xs:List Addr)(dvs:List V)(p:Addr):Prop:=∃(j:V) (e d:Addr) (k:Kk) (l:List (Str×Kk)) (i:Nat) (m:List (Str×List Kk×Kk)),bQ K H p [j,.ref e,.ref d]/\Rp K H (cu k) j/\k.ok (kn g)/\k.dep<=S.kb/\yE K H f S g e l/\l.length<=S.pb/\i<=dvs.length/\H d=some (.lst (dvs.take i))/\(dz K H (d::S.nn f) m (dvs.take i)/\zR (kn g) m)/\d≠f/\d≠S.lg/\(d≠S.ln/\d≠S.lc/\d≠S.lp)/\e∉xs/\d∉xs
theorem dz.nl {nn:List Addr}(h:dz K H nn j d)(m:H e=none):dz K H (e::nn) j d:=h.nn λl o z g q=>by
 rcases vy.mp q with rfl|q
 .rw[m]at g;cases g
 .exact z q
theorem Ask.keep (a:Ask K H H' f S kl p)(hd:H S.ld=some (.lst dvs))(t:∀x∈xs,∃o,H x=some o)(fr:bS [S.lg,S.la] f H H')(m:dz K H (S.nn f) j dvs)(Le:zR (kn kl) j)(J:H S.la=some (.dK kvs)):iw K H' f S kl xs dvs p:=by
 have(v,I,G,k,A,u,w,y,ok,kd,M,B,L,d,E,D,C,r,g):=a;have e:dvs=u:=by rw[hd]at d;injection d with d;injection d
 subst e;have l:=(m.nl g).go (λb N z h=>fr.fq (iq (λq=>z (.tail _ q))).2.1 (cI h J nofun) (iq (λq=>z (.tail _ q))).1 h) fr.kt
 exact#[v,I,G,k,A,dvs.length,j,w,y,ok,kd,M,B,mu _,by rw[MS];exact L,by rw[MS];exact#[l,Le],E,D,C,(λz=>by have(o,h):=t _ z;rw[h]at r;cases r),(λz=>by have(o,h):=t _ z;rw[h]at g;cases g)]
theorem iw.uo (a:iw K H f S kl xs dvs p)(fr:bS [S.lg,S.la] f H H')(j:H S.la=some (.dK kvs)):iw K H' f S kl xs dvs p:=by
 have(l,w,v,k,r,i,A,m,o,ok,kd,C,t,y,hd,(B,d),g,e,u):=a;exact#[l,w,v,k,r,i,A,m.kt fr.kt,o.kt fr.kt,ok,kd,C.uo fr,t,y,fr.fq e (cI hd j nofun) g hd,#[B.go (λb D z h=>fr.fq (iq (λq=>z (.tail _ q))).2.1 (cI h j nofun) (iq (λq=>z (.tail _ q))).1 h) fr.kt,d],g,e,u]
theorem iw.put (a:iw K H f S kl xs dvs p)(v:q∈xs)(j:q∈S.nn f)(I:H q=some (.lst us)):iw K (upd H q (.lst g)) f S kl xs dvs p:=by
 have(w,u,t,k,B,i,P,y,A,ok,kd,d,C,J,hd,(Q,l),G,E,D,r,o):=a;have kt:Kt H (upd H q (.lst g)):=Kt.lst I _;have O:u≠q:=λz=>r (z▸v);have N:t≠q:=λz=>o (z▸v);have(m,L,hr):=d.aa;exact#[w,u,t,k,B,i,P,y.kt kt,A.kt kt,ok,kd,#[#[m,by rw[ay O];exact L,hr.kt kt],d.nf,d.ng,d.na,d.pk,d.pl],C,J,by rw[ay N];exact hd,#[Q.go (λb g z h=>by have M:b≠q:=λe=>z (.tail _ (e▸j));rw[ay M];exact h) kt,l],G,E,D,r,o]
theorem iw.more (a:iw K H f S kl xs dvs p)(v:V):iw K H f S kl xs (dvs++[v]) p:=by
 have(e,q,o,k,l,i,r,g,j,ok,kd,u,m,d,hd,t,n):=a;exact#[e,q,o,k,l,i,r,g,j,ok,kd,u,m,by rw[j3];omega,by rw[Ru d];exact hd,by rw[Ru d];exact t,n]
def mz(K:bA)(H:Hp)(f:Addr)(S:fu)(kl:Kl)(xs:List Addr)(g:List Int):Prop:=∃(dvs:List V) (d:List (Key×V)),H S.ld=some (.lst dvs)/\H S.la=some (.dK d)/\d.map (·.1)=g.map Sum.inl/\∀e∈d,∃p,e.2=.ref p/\iw K H f S kl xs dvs p
theorem mz.go (a:mz K H f S kl xs l)(fr:bS [S.lg,S.la] f H H')(e:H' S.la=H S.la)(n:S.ld≠S.lg/\S.ld≠f):mz K H' f S kl xs l:=by
 have(dvs,d,j,g,r,q):=a;exact#[dvs,d,fr.fq n.1 (cI j g nofun) n.2 j,e.trans g,r,λm o=>by have(p,u,t):=q m o;exact#[p,u,t.uo fr g]]
theorem mz.gg (a:mz K H f S kl xs v)(g:GG K f S kl H H' j ys)(J:H S.lg=some (.lst (v.map V.int)))(fr:bS [S.lg,S.la] f H H')(n:S.ld≠S.lg/\S.ld≠f)(I:∀x∈xs,∃o,H x=some o)(u:∃d w,H S.ld=some (.lst d)/\dz K H (S.nn f) w d/\zR (kn kl) w):mz K H' f S kl xs j:=by
 have(dvs,t,r,q,M,L):=a;have(N,T,e,mk,G,E,_,D,C,B,A):=g;have m:N=v:=jV (by have:=G.symm.trans J;injection this with this;injection this);have l:e=t:=by have:=D.symm.trans q;injection this with this;injection this
 subst m l;have(d,w,R,Q,P):=u;have O:d=dvs:=by have:=R.symm.trans r;injection this with this;injection this
 subst O;refine#[d,e++mk,fr.fq n.1 (cI r q nofun) n.2 r,C,by rw[m3,M,B,E,m3],λy hk=>?_]
 rcases MH.mp hk with hk|hk
 .have(p,m,l):=L y hk;exact#[p,m,l.uo fr q]
 .have(p,m,l):=A y hk;exact#[p,m,l.keep r I fr Q P q]
theorem mz.zU (a:mz K H f S kl xs l)(q:S.ld∈xs)(g:H S.ld=some (.lst dvs))(v:V):mz K (upd H S.ld (.lst (dvs++[v]))) f S kl xs l:=by
 have(m,d,w,j,u,t):=a;have e:m=dvs:=by have:=w.symm.trans g;injection this with this;injection this
 subst e;exact#[m++[v],d,af,by rw[ay (cI g j nofun).symm];exact j,u,λo r=>by have(p,A,y):=t o r;exact#[p,A,(y.put q (.tail _ (.tail _ (.head _))) g).more v]]
@[irreducible] noncomputable def DV:Stmt:=(bM cU).getD 4 (.Pass #[0,0,0,0])
@[irreducible] noncomputable def DW:Stmt:=(bM cU).getD 5 (.Pass #[0,0,0,0])
@[irreducible] noncomputable def FU:List Expr:=match(bM cU).getD 4 (.Pass #[0,0,0,0])with
 |.Assign _ (.List es _) _=>es
 |_=>[]
@[irreducible] noncomputable def FW:List Expr:=match(bM cU).getD 5 (.Pass #[0,0,0,0])with
 |.Assign _ (.BinOp _ _ (.List es _) _) _=>es
 |_=>[]
@[irreducible] noncomputable def posK (i:Nat):Pos:=match(bM cU).getD 4 (.Pass #[0,0,0,0]),(bM cU).getD 5 (.Pass #[0,0,0,0])with
 |.Assign [.Name _ a] (.List _ b) c,.Assign [.Name _ d] (.BinOp (.Name _ e) _ (.List _ f) g) h=>[a,b,c,d,e,f,g,h].getD i a
 |_,_=>#[0,0,0,0]
noncomputable def A3:List Str:=["num","row","kind","def","more","first","others","long","match","if","let","fold","call"]
noncomputable def A4:List Str:=["gap","in","world","fault","left"]
theorem FY :DV=.Assign [.Name "_law_kept" (posK 0)] (.List FU (posK 1)) (posK 2):=by unfold DV FU posK;kernel_rfl
theorem FZ :DW=.Assign [.Name "_law_kept" (posK 3)] (.BinOp (.Name "_law_kept" (posK 4)) .Add (.List FW (posK 5)) (posK 6)) (posK 7):=by unfold DW FW posK;kernel_rfl
theorem MA :strsOf FU=some A3:=by unfold FU;kernel_rfl
theorem MB :strsOf FW=some A4:=by unfold FW;kernel_rfl
theorem zV :bM cU=(bM cU).take 4++(DV::DW::(bM cU).drop 6):=by unfold DV DW;kernel_rfl
theorem JU (hn:X.N.Nodup)(d:Lm X.N X.env.scope)(g:X.N[7]?=some ("_law_kept":Str))(e:X.fn "_law_kept"=true):PS X DV (xh (G9 (CT A3)) (iJ 7)):=by
 rw[FY];exact sa hn d 7 (bh (Au MA)) g rfl (.inl e)
theorem JV (hn:X.N.Nodup)(g:Lm X.N X.env.scope)(e:Nm X.N X.env.scope)(d:X.N[7]?=some ("_law_kept":Str))(j:X.fn "_law_kept"=true):PS X DW (xh (Cy Ju (mV 7) (G9 (CT A4))) (iJ 7)):=by
 rw[FZ];exact sa hn g 7 (aS sJ (va e 7 d) (bh (Au MB))) d rfl (.inl j)
theorem Ir (xs:List d)(a b:d):jZ (xs++[a,b]) (-2)=some a:=by
 unfold jZ Ak;have l:(xs++[a,b]).length=xs.length+2:=by simp
 rw[l,if_neg (by decide),if_pos ()];have e:(-2+((xs.length+2:Nat):Int)).toNat=xs.length:=()
 rw[OG,e];simp
theorem DX (n m:Nat)(h:n=m+1):Ak n (-1)=some m:=by
 unfold Ak;rw[if_neg (by decide),if_pos ()]
 congr 1
 omega
theorem aR :Nm VC (ak cU):=by decide
theorem eL :Lm VC (ak cU):=by decide
theorem dF :aK VC Vy (ak cU):=#[rfl,rfl,rfl,by decide,rfl,by decide,by decide]
theorem DY (F:ic K "_law_names" "_law_names" cU f fd)(TK:dH P w K mg base "_law_take" 1 Vy eK gT tfd)(z_range:mg "range"=none)(z_len:mg "len"=none)(aa:mg "int"=none):
  bH P w K mg base eZ 2 f fd Vy AZ:=by
 refine F.ok dF (λvs H Q E h=>?_) (λa7 A a0 s H vs Q E hr h=>?_)
 .have(v,tm,rfl,_):=h;rfl
 have(r,m,rfl,m1,m2,hf,k):=h;rw[zV];refine#[_,(Z5 (sa dF.nd eL 2 aB) (Z5 (Z2 dF.nd eL 3 (@Am _ _ _ _ _ _ _ _ _ _ _ _ PySem.F.plainAttrs_str PySem.F.slot_str_join PySem.F.type_str_join EO aB (Z1 (Zc (ak cU) VC ["_law_k"] [0,2] (Zn (Z1 (Z0 TK (cZ (va aR 0) (Za aq))) ao)) (λ_ _ _ _=>(Z3 (i:=0) (show(Wu:List Str).Nodup by decide))) (λ_ _ _ _=>(Zl vK (va (show Nm Wu _ by left) 2) (Z0 TK (cZ (va (show Nm Wu _ by left) 1) (Za aq)))))) ao) (by kernel_rfl) (by kernel_rfl) (by kernel_rfl) (by kernel_rfl) (by kernel_rfl))) (Z5 (@GX _ _ (4) (5) _ _ _ _ _ _ _ _ _ _ _ rfl dF.nd rfl rfl (by decide) rfl rfl (Z1 (Z0 TK (cZ (va aR 0) (Za aq))) (Z1 (Z0 TK (Z1 (va aR 0) (Z1 (Zm cK (@dQ _ _ _ _ _ _ _ _ _ pT (by left) z_len Qa (Za (va aR 3)) (by decide) (by decide) (by rfl) (by rfl)) aq) ao))) ao)) (by rfl) (by rfl)) (Z5 (Z2 dF.nd eL 6 (Z0 TK (cZ (va aR 0) (Za aq)))) (Z5 (JU dF.nd eL rfl rfl) (Z5 (JV dF.nd eL aR rfl rfl) (Z5 (sa dF.nd eL 8 (bh ao)) (Z5 (Zk (Zn (Za (va aR 1))) (ga dF.nd eL 9) (Z5 (Z2 dF.nd eL 10 (Zl vK (va aR 2) (Zm iM (Zm cK (va aR 4) (aS jI aq (va aR 9))) aq))) (Z5 (Z2 dF.nd eL 11 (Zm lS (Zm lS (@bZ _ _ _ _ _ _ _ _ _ _ CS (va aR 3) cW (bL (va aR 5))) (va aR 10)) (@bZ _ _ _ _ _ _ _ _ _ _ CS (va aR 3) (bL (va aR 5)) (@bL _ _ _ (Zm iM (aS cK (va aR 6) (va aR 9)) aq))))) (Ze (@cC _ _ _ _ (Z8 MN MO cQ (va aR 8) (Z1 (Zm lS (va aR 11) (Zm zw aB (Z6 kJ aa O4 (Z1 (pK jE (va aR 11) (va aR 7) (by with_unfolding_all rfl)) ao)))) ao)) (by rfl)))))) (Z5 (Zd (PW.pt (@iL _ _ _ _ _ _ _ (Zq mH (va aR 1) aq) (@iL _ _ _ _ _ _ _ (Zj mY (@dQ _ _ _ _ _ _ _ _ _ pT (by left) z_len Qa (Z1 (gm aN (va aR 8) (qM mX aq) (λ_ _=>rfl)) ao) (by decide) (by decide) (by rfl) (by rfl)) aq) (@iz _ _ _ _ (Zj bR (Z0 TK (cZ (va aR 0) (Za aq))) aq))))) (Ze (Zp (Zm lS (gm aN (va aR 8) (qM mX aq) (λ_ _=>rfl)) aB) (vE (va aR 8) (qM mX aq) set_list)))) (Ze (cH (va aR 8)))))))))))),?_]
 right
 refine#[rfl,_,rfl,r,5,rfl,by decide,by decide,hf,λq H2 q0 q6 e2=>?_];refine#[_,rfl,(),(),?_];have n7:(q:Int).toNat<=4:=()
 refine lV (n:=q.toNat) (λi σ vs Hc=>(∃v,σ=[v,some (.ref r),some (.str "abcdefghijklmnopqrstuvwxyz")])/\Ext r H2 Hc/\∃J:List Nat,vs=(J.map λc=>(⟨#[c]⟩:Str)).map V.str/\J.length=i/\∀c∈J,c<1000)
  #[#[none,rfl],Ext.refl e2.2,[],rfl,rfl,λ_ h=>nomatch h] (λi σ vs Hc _ ⟨_,_,J,e,el,_⟩=>by rw[e,bC,bC];omega) (small ()) ?_ ?_
 .rintro i' σ vs Hc hi' ⟨⟨v,rfl⟩,ext,J,rfl,av,ag⟩;refine#[_,rfl,_,rfl,r,26,rfl,by decide,by decide,ext.2,λd H3 d0 d1 aw=>?_];have(c,O,aj):=atS (z:="abcdefghijklmnopqrstuvwxyz") d0 d1;refine#[_,d,c,rfl,rfl,(by decide),O,?_];exact#[#[_,rfl],ext.trans aw,J++[c],by rw[m3,m3];rfl,by rw[j3,av];rfl,λc' h=>by rcases MH.mp h with h|h;exact ag c' h;rw[pD.mp h];exact AY c aj]
 rintro σ vs Hc ⟨⟨v,rfl⟩,ext,J,rfl,av,ag⟩ p hp;refine#[_,p,_,rfl,rfl,bu.of af,?_,?_]
 .have z:(MI "").length=0:=by decide
  rw[CW,z];omega
 rw[EW];have ac:Ext r H (upd Hc p (.lst ((J.map λc=>(⟨#[c]⟩:Str)).map V.str))):=(e2.trans ext).new hp _;have ly:(⟨J.toArray⟩:Str).length<=4:=by rw[Hw];omega
 have hy:Lo ⟨J.toArray⟩:=λc h=>ag c (by simpa using h);generalize upd Hc p (.lst ((J.map λc=>(⟨#[c]⟩:Str)).map V.str))=H4 at ac|-;generalize(⟨J.toArray⟩:Str)=y at ly hy|-;refine#[_,rfl,r,26,rfl,by decide,by decide,ac.2,λd1 H5 b1 c1 e5=>?_];refine#[_,rfl,_,rfl,_,rfl,small (),_,_,rfl,rfl,r,_,rfl,(),(),e5.2,λB H6 b2 c2 e6=>?_];refine#[_,_,rfl,?_];refine#[_,rfl,r,5,rfl,by decide,by decide,e6.2,λd3 H7 b3 c3 e7=>?_];have x7:Ext r H H7:=ac.trans (e5.trans (e6.trans e7));have a3:A3.length<=100:=by decide
 have a1:A4.length<=100:=by decide
 refine#[by rw[bC];exact small (),λp8 a4=>?_];refine#[_,rfl,by rw[bC];exact small (),λp9 Y=>?_];generalize A3=ks1 at a3 Y|-;generalize A4=ks2 at a1 Y|-;refine#[p8,p9,_,_,rfl,rfl,(ae Y _) _ _ af,af,by rw[bC,bC];exact small (),λg ap=>?_];have S:Ext r H (upd (upd (upd H7 p8 (.lst (ks1.map V.str))) p9 (.lst (ks2.map V.str))) g (.lst (ks1.map V.str++ks2.map V.str))):=((x7.new a4 _).new Y _).new ap _;have al:upd (upd (upd H7 p8 (.lst (ks1.map V.str))) p9 (.lst (ks2.map V.str))) g (.lst (ks1.map V.str++ks2.map V.str)) g=some (.lst ((ks1++ks2).map V.str)):=by rw[af,m3]
 generalize upd (upd (upd H7 p8 (.lst (ks1.map V.str))) p9 (.lst (ks2.map V.str))) g (.lst (ks1.map V.str++ks2.map V.str))=H10 at S al|-;refine#[MP _,λl hl=>?_];have ai:H l=none:=Ext.free S hl;have ab:l≠r:=λz=>by subst z;have(a,b,z):=S.2;rw[hl]at z;cases z
 have am:g≠l:=au al hl;have az:Ext r H (upd H10 l (.lst [])):=S.new hl _;refine#[_,rfl,_,rfl,(),(),?_]
 refine eO (n:=m) (λi σ Hi=>∃(I:List Str) (v9 U T:Option V),σ=[some (.ref r),some (.int m),some (.str "abcdefghijklmnopqrstuvwxyz"),some (.str y),some (.int d1),some (.int B),some (.int d3),some (.ref g),some (.ref l),v9,U,T]/\I.length=i/\((∀x∈I,x.length<=10)/\(∀x∈I,Lo x)/\∀j x,I[j]?=some x->tY (OC y none (some B)).cps.toList d1 j x)/\Hi l=some (.lst (I.map V.str))/\Hi g=some (.lst ((ks1++ks2).map V.str))/\Ext r H Hi)
  #[[],none,none,none,rfl,rfl,#[(λ_ h=>nomatch h),(λ_ h=>nomatch h),(λj x h=>by simp at h)],af,by rw[ay am];exact al,az] ?_ ?_
 .rintro i σ Hi hi ⟨I,v9,U,T,rfl,t,⟨X,N,Z⟩,D,ad,xi⟩;have hm:0<=(d1+7*(0+(i:Int))) % 26/\(d1+7*(0+(i:Int))) % 26<26:=()
  have(c,O,aj):=atS (z:="abcdefghijklmnopqrstuvwxyz") (r:=(d1+7*(0+(i:Int))) % 26) hm.1 hm.2;refine#[_,rfl,_,rfl,_,rfl,_,_,rfl,rfl,.inl #[by decide,by decide],_,_,rfl,rfl,_,_,rfl,rfl,(by show(0:Int)<26;decide),_,_,c,rfl,rfl,(by decide),O,?_];have la:=UD y none (some B);have lb:=UD y (some B) (some ((d3+(0+(i:Int))) % 5));refine#[_,rfl,_,rfl,_,rfl,_,rfl,small (),_,rfl,_,_,rfl,rfl,small (by show _+1<=1000;omega),?_];refine#[_,rfl,_,rfl,_,rfl,_,rfl,_,rfl,_,_,rfl,rfl,_,_,rfl,rfl,(by show(0:Int)<5;decide),_,rfl,_,rfl,small (),?_];have lc:(OC y none (some B)++(⟨#[c]⟩:Str)).length=(OC y none (some B)).length+1:=by rw[Rj];rfl
  refine#[_,_,rfl,rfl,small (),?_];have ln:(OC y none (some B)++(⟨#[c]⟩:Str)++OC y (some B) (some ((d3+(0+(i:Int))) % 5))).length<=9:=by rw[Rj];omega
  have as:Lo (OC y none (some B)++(⟨#[c]⟩:Str)++OC y (some B) (some ((d3+(0+(i:Int))) % 5))):=((hy.slice _ _).append (Lo.one aj)).append (hy.slice _ _)
  have ar:tY (OC y none (some B)).cps.toList d1 i (OC y none (some B)++(⟨#[c]⟩:Str)++OC y (some B) (some ((d3+(0+(i:Int))) % 5))):=by
   refine tY.snoc #[c,[],?_,?_] _
   .rw[Qk]at O;exact O
   .show((OC y none (some B)).cps++#[c]).toList=_;rw[RK]
  generalize OC y none (some B)++(⟨#[c]⟩:Str)++OC y (some B) (some ((d3+(0+(i:Int))) % 5))=nm at ln ar as|-;refine#[_,rfl,.inl #[rfl,_,bu.of D],_,rfl,_,rfl,_,rfl,g,_,rfl,.inl (bu.of ad),rfl,qH _,.inr #[_,rfl,?_]];generalize rK (V.str nm) ((ks1++ks2).map V.str)=b;have an:(MI "q").length=1:=by decide
  have lq:(Sy (MI "q") (if b=true then 1 else 0)).length<=1:=by have:=JC b "q";rw[an]at this;exact this
  have a6:(Sy (MI "q") (if(if false=true then !b else b)=true then 1 else 0)).length<=1:=lq;refine#[_,_,rfl,rfl,by split<;>omega,by split<;>omega,?_,?_]
  .rw[an];exact small (by cases b<;>decide)
  refine#[_,_,rfl,rfl,small (),?_];refine#[l,_,_,rfl,rfl,D,by rw[bC];exact bD (),?_];refine#[I++[nm++Sy "q" (if b then 1 else 0)],_,_,_,rfl,by rw[j3,t];rfl,#[λx C=>?_,λx C=>?_,λj x C=>?_],by rw[af,m3];rfl,by rw[ay am];exact ad,?_]
  .rcases MH.mp C with h|h
   .exact X x h
   .rw[pD.mp h,Rj];omega
  .rcases MH.mp C with h|h
   .exact N x h
   .rw[pD.mp h];exact as.append (Lo.q b)
  .by_cases cj:j<I.length
   .rw[Ng cj]at C;exact Z j x C
   .have hj:j=i:=by have:=(ko.mp C).1;rw[j3]at this;simp at this;omega
    subst hj;rw[M7 (),t,UO]at C;simp at C;rw[<-C];exact ar.snoc _
  .refine#[λb o nb e=>?_,?_]
   .rw[ay (au e ai)];exact xi.1 b o nb e
   .have(a,b,z):=xi.2;exact#[a,b,by rw[ay ab.symm];exact z]
 .rintro σ Hi ⟨I,v9,U,T,rfl,t,⟨X,N,Z⟩,D,ad,xi⟩;have a5:∀(Hf:Hp) (G:List Str),Ext r H Hf->Hf l=some (.lst (G.map V.str))->G.length=m->(∀x∈G,x.length<=20/\Lo x)->Un G->Q (.ref l) Hf:=λHf G a b c d=>k l Hf G a ai b c d;have W:∀{Hf:Hp}(G:List Str),Ext r H Hf->Hf l=some (.lst (G.map V.str))->G.length=m->(∀x∈G,x.length<=20/\Lo x)->Un G->Ja (mV 8) {nx:=λ_ H'=>Q .gq H',rt:=Q} [some (.ref r),some (.int m),some (.str "abcdefghijklmnopqrstuvwxyz"),some (.str y),some (.int d1),some (.int B),some (.int d3),some (.ref g),some (.ref l),v9,U,T] Hf:=λG a b c d u=>#[_,rfl,a5 _ G a b c d u];have un:Un I:=tY.Mz () Z;have R:∀x∈I,x.length<=20/\Lo x:=λx C=>#[FA (X x C) (by decide),N x C];refine#[_,rfl,_,_,rfl,rfl,_,rfl,cM (λc=>?_) (λc=>?_)]
  .have c1:1<m:=by have z:(1:Int)<(m:Int):=of_decide_eq_true c;omega
   obtain⟨L,M,x1,rfl⟩:∃L M x1,I=L++[M,x1]:=by
    rcases Q5 I with rfl|⟨a,x1,rfl⟩
    .simp at t;omega
    rcases Q5 a with rfl|⟨b,M,rfl⟩
    .simp at t;omega
    exact#[b,M,x1,by simp]
   have l2:M.length<=10:=X M (by simp);have a2:jZ ((L++[M,x1]).map V.str) (-2)=some (.str M):=by rw[m3];exact Ir _ _ _
   refine#[_,rfl,_,rfl,l,_,_,_,rfl,rfl,bu.of D,a2,_,rfl,small (),_,_,rfl,rfl,_,rfl,cM (λc=>?_) (λc=>?_)]
   .refine#[_,rfl,r,4,rfl,by decide,by decide,xi.2,λd4 a8 _ _ ax=>?_];have xj:=xi.trans ax;have ah:=ax.1 l _ ab D;refine#[rfl,_,rfl,cM (λc=>?_) (λc=>?_)]
    .refine#[_,rfl,_,rfl,l,_,_,_,rfl,rfl,bu.of ah,a2,_,_,rfl,rfl,small (by show _+1<=1000;omega),?_];refine#[_,rfl,_,rfl,l,_,_,L.length+1,rfl,rfl,ah,?_,?_]
     .exact DX _ _ (by simp)
     refine W (L++[M,M++MI "q"]) ?_ ?_ ?_ ?_ (tY.last () (by decide) Z)
     .refine#[λb o nb e=>?_,?_]
      .rw[ay (au e ai)];exact xj.1 b o nb e
      .have(a,b,z):=xj.2;exact#[a,b,by rw[ay ab.symm];exact z]
     .rw[af];simp
     .rw[<-t];simp
     .intro x C;simp at C;rcases C with h|rfl|rfl
      .exact R x (by simp[h])
      .exact#[(),N _ (by simp)]
      .refine#[?_,(N M (by simp)).append Lo.q1];rw[Rj];have:(MI "q").length=1:=by decide
       omega
    .exact W _ xj ah t R un
   .exact W _ xi D t R un
  .exact W _ xi D t R un
noncomputable def nQ(few:Int)(k:Nat):Int:=if few % 2=0 then 5*(k:Int)+2 else 90 - (k:Int)
def oA(K:bA)(H:Hp)(lo:Addr)(e:List (Int×Kk)):Prop:=∃d,H lo=some (.lst d)/\bN K H (e.map (kH cu)) d
def yG(K:bA):Sp:=λo H Q _=>∃(f g:Addr) (m:V) (k:Kk) (few:Int) (e:List (Int×Kk)),o=[.ref f,m,.ref g,.int few]/\cg H f/\Rp K H (cu k) m/\oA K H g e/\g≠f/\e.length<=3/\1<=few/\few<=100 /\
 ∀(v:V) (j:Hp) (l:Kk) (d:List (Int×Kk)),bS [g] f H j->oA K j g d->Rp K j (cu l) v->(d=e/\l=k\/e.length<3/\d=e++[(nQ few e.length,k)]/\l=.op (nQ few e.length))->Q v j
theorem dD :Nm VX (ak lX):=by decide
theorem yH :aK VX VX (ak lX):=#[rfl,rfl,rfl,by decide,rfl,by decide,by decide]
theorem B7 (F:ic K "_law_hidden" "_law_hidden" lX f fd)(TK:dH P w K mg base "_law_take" 1 Vy eK gT tfd)(z_len:mg "len"=none):bH P w K mg base eZ 2 f fd VX (yG K):=by
 refine F.ok yH (λd H Q E h=>?_) (λak A W s H d Q E hr h=>?_)
 .have(_,_,_,_,_,_,rfl,_):=h;rfl
 have(fe,p,G,Y,few,l,rfl,O,rk,(d,D,v),y,ad,aj,ai,k):=h;refine#[_,(Z5 (Zd (PW.pt (@iL _ _ _ _ _ _ _ (Zj mY (Z4 (Za (va dD 2))) aq) (@iz _ _ _ _ (Zj bR (Z0 TK (Z1 (va dD 0) (Za (va dD 3)))) aq)))) (Z5 (@cC _ _ _ _ (Z8 MN MO cQ (va dD 2) (Z1 (Zg (Z1 (Zl aN (@bh _ _ _ _ (Z1 (Zm cK (Zm jI aq (Z4 (Za (va dD 2)))) aq) (Z1 (Zm bK aq (Z4 (Za (va dD 2)))) ao))) (aS iM (va dD 3) aq)) (Za (va dD 1)))) ao)) (by rfl)) (Ze (Zo (Zg (Z1 aB (Z1 (Zl aZ (gm aN (va dD 2) (qM mX aq) (λ_ _=>rfl)) aq) ao))))))) (Ze (cH (va dD 1)))),?_]
 right
 right
 have S:bS [p] fe H H:=bS.refl O;have J:=v.length;rw[bC]at J;have ab:bu K H p d\/bQ K H p d:=.inl (bu.of D);refine Az ?_;intro N1 c1;refine zH (λb q=>Ext fe H q/\(b=true->l.length<3)) (λC hC=>?_) (λq R=>?_) (λq R=>?_)
 .clear c1;ext;refine cM (λc=>?_) (λc=>?_)
  .have c':(d.length:Int)<3:=of_decide_eq_true c;ext;intro r q r0 r1 m;ext;exact hC _ _ #[m,λ_=>by omega]
  .exact hC _ _ #[Ext.refl O,λz=>nomatch z]
 .clear c1;have(m,R):=R;have h3:=R rfl;have u:=m.1 _ _ y D;have f2:=S.ext m;have k2:=m.kt O;have aa:bu K q p d\/bQ K q p d:=.inl (bu.of u);ext;intro X Z
  have ah:jZ [V.int (5*(d.length:Int)+2),.int (90 - (d.length:Int))] (few % 2)=some (.int (nQ few l.length)):=by
   unfold nQ;rw[J];obtain e|e:few % 2=0\/few % 2=1:=()
   .rw[e,if_pos rfl];exact bz (j:=0) rfl
   .rw[e,if_neg (by decide)];exact bz (j:=1) rfl
  have I:=ae Z (.lst [.int (5*(d.length:Int)+2),.int (90 - (d.length:Int))]);have h5:upd q X (.lst [.int (5*(d.length:Int)+2),.int (90 - (d.length:Int))]) X=some (.lst [.int (5*(d.length:Int)+2),.int (90 - (d.length:Int))]):=af;generalize upd q X (.lst [.int (5*(d.length:Int)+2),.int (90 - (d.length:Int))])=H5 at I h5|-;have N:=I _ _ u;have ac:d.length<mC:=bD ();ext;intro g M;have T:=ae M (.tup [.int (nQ few l.length),G]);have r6:=Rp.new (K:=K) (xs:=[.i (nQ few l.length),cu Y]) M (.cons .i (.one ((rk.kt k2).same I)));have q6:bQ K (upd H5 g (.tup [.int (nQ few l.length),G])) g [.int (nQ few l.length),G]:=bQ.of af;generalize upd H5 g (.tup [.int (nQ few l.length),G])=H6 at T r6 q6|-;have t:=T _ _ N;have f7:=((f2.same I).same T).upd (o:=.lst (d++[.ref g])) (.head _) y t;have B:Kt H6 (upd H6 p (.lst (d++[.ref g]))):=Kt.lst t _;have h7:upd H6 p (.lst (d++[.ref g])) p=some (.lst (d++[.ref g])):=af
  have ag:jZ (d++[V.ref g]) (-1)=some (.ref g):=by
   unfold jZ;rw[DX _ d.length (by rw[j3];rfl),OG];simp
  have q7:=q6.kt B
  have r7:bN K (upd H6 p (.lst (d++[.ref g]))) ((l++[(nQ few l.length,Y)]).map (kH cu)) (d++[.ref g]):=by
   rw[m3];exact((((v.kt k2).same I).same T).kt B).snoc (r6.kt B)
  ext;generalize upd H6 p (.lst (d++[.ref g]))=H7 at f7 h7 r7 q7|-;intro p8 L;have U:=ae L (.tup [.str "open",.int (nQ few l.length)]);exact k _ _ (.op (nQ few l.length)) _ (f7.same U) #[_,U _ _ h7,r7.same U] (Rp.new (K:=K) L (.cons .s (.one .i))) (.inr #[h3,rfl,rfl])
 .have(m,_):=R;ext;exact k G q Y l (S.ext m) #[d,m.1 _ _ y D,v.kt (m.kt O)] (rk.kt (m.kt O)) (.inl #[rfl,rfl])
end G34
namespace L2
open PySem PySem.Spec PyProof.Rows PySem.W
theorem zW :Pq (.type "list_reverseiterator") "__len__"=pure none:=by rw[PV,Ow];kernel_rfl
theorem DZ :Pq (.type "list_reverseiterator") "__length_hint__"=pure (some (.builtin "list_reverseiterator.__length_hint__")):=by rw[PV,Ow];kernel_rfl
theorem wM :isSubtype (.type "list_reverseiterator") (.type "list_reverseiterator")=pure true:=by rw[isSubtype_type];kernel_rfl
theorem uB (hh:A.handled=none)(O:s.heap.IsList l items)(hn:items.size<=mC)(hQ:∀h' tk acc c,(∀b o,s.heap.get? b=some o->h'.get? b=some o)->h'.get? (s.heap.objs.size+1)=some {cls:=.type "list",dict:=none,data:=.seq acc c,slots:=#[]}->acc.toList=items.toList.reverse->Q (.ref (s.heap.objs.size+1)) {s with heap:=h',toks:=tk}):
  u4 (L0 prog w) A (call (.type "reversed") [.ref l]) (λv V=>u4 (L0 prog w) A (call (.type "list") [v]) Q E V) E s:=by
 have B:l<s.heap.objs.size:=by have(_,e,_):=O;exact ri e
 refine call_reversed_list O ?_;have S:(s.heap.push (revObj l ((items.size:Int) - 1))).get? s.heap.objs.size=some (revObj l ((items.size:Int) - 1)):=zv _ rfl;have P:∀b o,s.heap.get? b=some o->(s.heap.push (revObj l ((items.size:Int) - 1))).get? b=some o:=λb o e=>lu _ e;have J:(s.heap.push (revObj l ((items.size:Int) - 1))).objs.size=s.heap.objs.size+1:=Ob ..;generalize s.heap.push (revObj l ((items.size:Int) - 1))=g at S P J|-;have L:(g.push {cls:=.type "list",data:=.seq #[]}).get? g.objs.size=some {cls:=.type "list",data:=.seq #[]}:=zv _ rfl
 refine T5 (Q₁:=λy q=>y=.ref g.objs.size/\q={s with heap:=g.push {cls:=.type "list",data:=.seq #[]}}) Uh (S5 _) S7
  (code_list_new _ #[rfl,rfl]) λy q C=>?_
 have(rfl,rfl):=C;refine#[#[_,L,rfl],SI _ _,?_];show u4 _ A.in1.in1 (do let M ←OU (.ref g.objs.size);S9 (.ref g.objs.size) (λ_=>#[]);letGo M.toList.reverse;NQ (.ref g.objs.size) (.ref s.heap.objs.size) .none) _ _ _;refine bB ?_;unfold OU;refine bB (Nt L rfl (lj ?_));show u4 _ A.in1.in1 (S4 g.objs.size (λ_=>#[])>>=λ_=>letGo (#[]:Array cB).toList.reverse>>=λ_=>NQ (.ref g.objs.size) (.ref s.heap.objs.size) .none) _ _ _;refine bB (PX L rfl ?_);have m:=Nc (Nn (λ_=>(#[]:Array cB))) L rfl
 have d:∀b o,g.get? b=some o->((g.push {cls:=.type "list",data:=.seq #[]}).update g.objs.size (Nn (λ_=>(#[]:Array cB)))).get? b=some o :=
  λb o e=>(M9 _ _ (Oo (ri e))).trans (lu _ e)
 generalize hg2:(g.push {cls:=.type "list",data:=.seq #[]}).update g.objs.size (Nn (λ_=>(#[]:Array cB)))=g2 at m d|-;refine bB (Rr ?_);have I:g2.IsRevIter s.heap.objs.size l ((items.size:Int) - 1):=#[_,d _ _ S,rfl,rfl];have p:OW {s with heap:=g2} (.ref s.heap.objs.size) "list_reverseiterator":=#[_,d _ _ S,rfl];unfold NQ;refine bB (Of p ?_)
 have q1:Oe (.ref g.objs.size) (.ref s.heap.objs.size)=false:=by
  simp only[Oe,beq_eq_false_iff_ne];intro z;have z':(g.objs.size:Nat)=s.heap.objs.size:=z;omega
 have Z:(Value.type "list_reverseiterator" == Value.type "list")=false:=by decide
 have Y:(Value.type "list_reverseiterator" == Value.type "tuple")=false:=by decide
 simp only[q1,Z,Y,Up,NC,if_false];refine bB (wpAny_pyIter_revIter (s:={s with heap:=g2}) I ?_);refine bB (MZ ?_);unfold RS;refine bB (PU p zW ?_);show u4 _ A.in1.in1 (specialOf (Value.ref s.heap.objs.size) (MI "__length_hint__")>>=_) _ _ _;refine bB (PU p DZ ?_);show u4 _ A.in1.in1 (Tq (.ref s.heap.objs.size) (.type "list_reverseiterator")>>=_) _ _ _;refine bB (OD p wM ?_);refine lj ?_;show u4 _ A.in1.in1 (again (.builtin "list.extend.loop" #[[.ref g.objs.size,.ref s.heap.objs.size,.none],[]])) _ _ _;have N:l≠s.heap.objs.size:=MQ B;have W:=(Walks.listRev (prog:=prog) (w:=w) (A:=A.in1.in1) hh s.heap.objs.size l N items).toS
 have hf:g.objs.size∉[s.heap.objs.size,l]:=by
  intro z;rcases vy.mp z with z|z
  .have:(g.objs.size:Nat)=s.heap.objs.size:=z;omega
  .exact Oo (RP B (by omega:s.heap.objs.size<g.objs.size)) (pD.mp z)
 refine lj #[Qx Ou _,codeAny_extend_loopS (A:=A.in1) W hn g.objs.size hf .none items.size 0 {s with heap:=g2} #[] _ () (MP _)
  #[MP _,by simpa using I,O.at λo e=>d _ _ (P _ _ e)] m #[rfl,λj v R=>by simp at R] λX acc c hm u r=>#[rfl,?_]]
 have(h',gs,dr,tk,os):=X;have(t,H,G,D,_):=hm;simp only at t H G D u;subst H G D;rw[J]at u t|-;refine hQ h' tk acc c (λb o e=>t b o (λz=>?_) (d _ _ (P _ _ e))) u ?_
 .have T:=ri e;rcases vy.mp z with z|z
  .exact MQ (UN T) z
  .exact MQ T (pD.mp z)
 .refine List.ext_getElem? λj=>?_;have h1:=r.1
  by_cases R:j<items.size
  .have U:acc[j]?=some (acc[j]'()):=Qn ();have e2:=r.2 j _ U;rw[List.getElem?_reverse (by simpa using R),P1,P1,U,Pw];exact e2.symm
  .rw[O1 (by simp;omega),O1 (by simp;omega)]
def JW(K:bA)(t:TA):TE:=λg H Q=>t g H λj d=>∃p e,j=[.ref p]/\bu K d p e/\∀q,d q=none->Q (.ref q) (upd d q (.lst e.reverse))
theorem zX (O:X.calm=true)(r:Gl X "list")(m:X.mg "list"=none)(q:Gl X "reversed")(l:X.mg "reversed"=none)(P:PA X [a] t)(he:M3 [a] X.env=[(false,eval a X.env)]:=by rfl)(he2:M3 [.Call (.Name "reversed" p1) [a] [] p2] X.env=[(false,eval (.Call (.Name "reversed" p1) [a] [] p2) X.env)]:=by rfl):
  PE X (.Call (.Name "list" p3) [.Call (.Name "reversed" p1) [a] [] p2] [] p4) (JW X.K t):=by
 intro d s w H Q I h;refine Nf (lQ I r m O6 ?_ (by decide) (by decide));refine Nl ?_ he2 rfl;rw[he2];refine PL ?_;refine Nf (lQ I q l boot_reversed ?_ (by decide) (by decide));refine Nl ?_ he rfl;refine dw (P p2 d s w H _ I h) λV B ⟨U,H1,g,D,q1⟩=>?_;have(p,z,rfl,L,M):=q1;have(u,rfl,C):=D.one
 cases C
 have(j,y,G,J):=g.list L;have Z:=y.length;refine dw (uB (Q:=EP X d w Q) (E:=X.xe) (g.ok.hd O) G.isList (by rw[sE];omega) λY A T c N R e=>?_) λv W S=>QN (by simpa using S);refine#[.ref (B.heap.objs.size+1),_,g.laid (t':=A) (o:=.lst z.reverse) N (PJ _) ?_,rfl,M _ (g.hok.fresh (PJ _))];exact#[by rw[NP];exact J,j.reverse,c,y.reverse,by rw[R];congr 2;exact congrArg (Data.seq · c) (U1.mp (by rw[e]))]
end L2
namespace G34
open PySem L2
structure AI(K:bA) (f d:Addr) (S:fu) (xs:List Str) (kl:Kl) (dl:List (Str×List Kk×Kk)) (H H4:Hp) (dp:Nat) (pa lt:Addr) (tvs:List V) (j:Nat) (H':Hp):Prop where
 x:∃(arms:List (Str×List Str)) (ts:List Tm) (us avs:List V) (gs:List Int),Wk K f d S xs kl dl H dp ts us gs H'/\H' pa=some (.lst avs)/\bN K H' (NB nj arms (ts.map enc)) avs/\arms.length=j/\ts.length=j/\H' lt=some (.lst tvs)/\Kt H4 H'/\GG K f S kl H4 H' gs (ts.flatMap lK)/\(∀q,H' q=none->H4 q=none)/\∀a∈arms,Wd a.1/\a.2.length<=2/\∀y∈a.2,Wd y
theorem D3 (j:cg H f)(x:Ext f H d)(h:d q=none):H q=none:=by
 cases e:H q with
 |none=>rfl
 |some o =>
  by_cases c:q=f
  .have(a,b,g):=x.2;rw[c,g]at h;cases h
  .rw[x.1 _ _ c e]at h;cases h
theorem GG.put (g:GG K f S j H e l ys)(E:H q=some o)(u:e q=some (.lst xs))(n:q≠S.la):GG K f S j H (upd e q (.lst m)) l ys:=by
 have(G,r,d,mk,D,C,B,A,z,y,w):=g;exact#[G,r,d,mk,D,C,B,A,by rw[ay n.symm];exact z,y,λt v=>by have(p,J,I):=w t v;exact#[p,J,I.put E u]]
theorem GG.Ll (g:GG K f S j z A g' ys)(w:Wk K f d S xs j y H dp [] us l z)(r:bx K H f d S xs j y l):GG K f S j H A g' ys:=by
 have(v,B,e,mk,Q,P,O,N,M,L,J):=g;have(R,m,q,o,G,E,i3,D,u,t,i7):=w.gg;have Z:R=l:=jV (by have:=G.symm.trans r.lg;injection this with this;injection this)
 have Y:m=[]:=by
  have:=congrArg PF E;rw[Z,j3]at this;exact NH.mp ()
 have X:o=[]:=by rw[Y]at t;simpa using t
 have U:v=l:=jV (by have:=Q.symm.trans w.sc.lg;injection this with this;injection this)
 have T:e=q:=by
  rw[X,M5]at u;have:=N.symm.trans u;injection this with this;injection this
 subst U T;exact#[v,B,e,mk,r.lg,P,O,D,M,L,λC I=>by have(p,a1,a2):=J C I;exact#[p,a1,a2.low (λ_ h=>w.new h) w.JT]]
theorem bP :Nm Vw (ak jO):=by decide
theorem ir :Lm Vw (ak jO):=by decide
theorem gc :aK Vw VI (ak jO):=#[rfl,rfl,rfl,by decide,rfl,by decide,by decide]
theorem F0 (hj:1<=j)(F:ic K "_law_arms" "_law_arms" jO f fd)(TK:dH P w K mg base "_law_take" 1 Vy eK gT tfd)(TG:dH P w K mg base "_law_tags_of" 1 VT (lI K) gG gfd)(BD:dH P w K mg base "_law_bound" 1 Ws (rV K) gB bfd)(TE:dH P w K mg base "_law_term" j Vt (pA K n) gE efd)(z_len:mg "len"=none)(u:mg "list"=none)(C:mg "tuple"=none)(a0:mg "zip"=none)(z_range:mg "range"=none)(D:mg "reversed"=none):bH P w K mg base eZ (j+1) f fd VI (DU K n):=by
 refine F.ok gc (λvs H Q E h=>?_) (λd5 A ce s H vs Q E hr h=>?_)
 .have(_,_,_,_,_,_,_,_,_,_,_,_,_,_,_,rfl,_):=h;rfl
 have(fe,d,ar,vk,vg,aj,ax,S,xs,kl,dl,gs,ps,kk,x,rfl,I,ai,rk,ok,dq,rg,hx,d4,d3,dh,dg,dv,k):=h;have(d8,d7,d6):=I.bb;refine#[_,(Z5 (Z2 gc.nd ir 7 (Z6 jt u O6 (Z1 (Z0 TG (Z1 (va bP 1) (Za (va bP 4)))) ao))) (Z5 (Zd (Zj bR (Z0 TK (cZ (va bP 0) (Za aq))) aq) (Ze (Z2 gc.nd ir 7 (zX rfl (by left) u (by left) D (Za (va bP 7)))))) (Z5 (sa gc.nd ir 8 (bh ao)) (Z5 (Zk (cJ (va bP 7)) (Zb (Zi (ga gc.nd ir 9) (aJ (ga gc.nd ir 10) aX))) (Z5 (Z2 gc.nd ir 11 (Z0 TK (cZ (va bP 0) (Za aq)))) (Z5 (Zf (ak jO) Vw ["_law_j"] [1,11] (Zn (Z1 (Z4 (Za (va bP 10))) ao)) (λ_ _ _ _=>(Z3 (i:=0) (show(Wm:List Str).Nodup by decide))) (λ_ _ _ _=>eN) (λ_ _ _ _=>(Zl (CU K rfl) (Zh (va (show Nm Wm _ by left) 1)) (Zm iM (aS cK (va (show Nm Wm _ by left) 2) (va (show Nm Wm _ by left) 0)) aq))) (ga gc.nd ir 12)) (Z5 (Z2 gc.nd ir 13 (Z0 BD (Z1 (va bP 2) (Z1 (yl rfl (by left) u (by left) a0 (Z1 (va bP 12) (Za (va bP 10)))) ao)))) (Ze (@cC _ _ _ _ (Z8 MN MO cQ (va bP 8) (Z1 (Zg (Z1 (va bP 9) (Z1 (Z6 aU C MJ (Za (va bP 12))) (Z1 (Z0 TE (Z1 (va bP 0) (Z1 (va bP 1) (Z1 (va bP 13) (Z1 (va bP 3) (Z1 (va bP 5) (Za (va bP 6)))))))) ao)))) ao)) (by rfl))))))) (Ze (Zo (Z6 aU C MJ (Za (va bP 8))))))))),?_]
 right
 right
 refine lB ?_;intro N1 N2 N3 N4 c1 c2 c3 c4;ext;intro v1 H1 k1 s1 b0 d2 r1;have(i1,b1):=OJ b0;have(du,bt,a8):=I.ok.pt i1 k1 b1;have cq:i1<kl.length:=(ko.mp b1).1
 have an:∀t∈k1.2,(t.2.length<=2/\∀c∈t.2,c.ok (kn kl)/\c.dep<=2)/\Wd t.1:=λt ht=>#[#[(a8 t ht).1,λc hc=>#[Kk.wG (λy hy=>by
  rw[<-I.ok.wH (Ny cq)]at hy;exact MT hy) ((a8 t ht).2 c hc).1,((a8 t ht).2 c hc).2]],I.Lj b0 ht]
 have(ta,l,rfl,ca,bk):=r1.bq;have dw:bu K H1 ta l\/bQ K H1 ta l:=.inr ca;have cj:=bk.length;rw[bC]at cj;have w1:Wk K fe d S xs kl dl H (n+3) [] [] gs H1:=(Wk.nil I).same s1;ext;intro l2 bc;have s2:=ae bc (.lst l);have h2:upd H1 l2 (.lst l) l2=some (.lst l):=af;generalize upd H1 l2 (.lst l)=H2 at s2 h2|-;have w2:=w1.same s2;have n2:=I.no (w1.new bc)
 have rest:∀(l3:Addr) (T:Hp) (tl:List (Str×List Kk)) (t3:List V),Wk K fe d S xs kl dl H (n+3) [] [] gs T->H l3=none->T l3=some (.lst t3)->bN K T (tl.map qi) t3->tl.length<=3->(∀t∈tl,(t.2.length<=2/\∀c∈t.2,c.ok (kn kl)/\c.dep<=2)/\Wd t.1)->N2 [some (.ref fe),some (.ref d),some (.ref ar),some vk,some vg,some (.int aj),some (.int ax),some (.ref l3),none,none,none,none,none,none] T:=by
  intro l3 T tl t3 w3 cp h3 r3 dt cn;have ci:=r3.length;rw[bC]at ci;have n3:=I.no cp;ext;intro Z ba;have s4:=ae ba (.lst []);have h4:upd T Z (.lst []) Z=some (.lst []):=af;generalize upd T Z (.lst [])=H4 at s4 h4|-;have w4:=w3.same s4;have p:=w3.new ba;have ct:=s4 _ _ h3;have cg:l3≠Z:=au h3 ba;ext;refine mW (K:=K) (xs:=t3) (λj σ H5=>(∃a b c e g,σ=[some (.ref fe),some (.ref d),some (.ref ar),some vk,some vg,some (.int aj),some (.int ax),some (.ref l3),some (.ref Z),a,b,c,e,g])/\AI K fe d S xs kl dl H H4 (n+3) Z l3 t3 j H5) #[#[_,_,_,_,_,rfl],#[[],[],[],[],gs,w4,h4,.nil,rfl,rfl,ct,Kt.refl,GG.nil w4.sc,λ_ h=>h,λ_ h=>nomatch h]] ?_ ?_ ?_
  .rintro j σ H5 hj ⟨_,⟨_,_,_,_,_,_,_,_,_,_,h,_⟩⟩;exact bu.of h
  .rintro j xv σ H5 hxv ⟨⟨_,_,_,_,_,rfl⟩,⟨W,ts,us,N,g5,w5,bi,ac,la,lt,b2,a6,b4,cf,a1⟩⟩;have(yv,bs,cb):=r3.get' hxv;rw[rj]at bs;have(o,ho,rfl):=ur.mp bs;have((ol,bp),wo):=cn o (t9 ho);have cm:Kt T H5:=(Kt.same s4).trans a6;have(oa,o1,o2,rfl,dm,cd,cc):=(show Rp K H5 (.t [.s o.1,.t (o.2.map cu)]) xv from cb.kt cm).t2;obtain rfl:=cd.bj;have(ob,ad,rfl,cz,ah):=cc.bq;have lo:=ah.length;rw[bC]at lo;have cr:=w5.sc.ff;have dr:j<t3.length:=(ko.mp hxv).1;ext;intro tn H6 df de x6;have X:=w5.ext x6;have a5:=x6.kt cr;have az:=cz.kt a5;have dx:bu K H6 ob ad\/bQ K H6 ob ad:=.inr az;ext;refine lV (n:=((ad.length:Nat):Int).toNat) (λi7 σ ab H7=>(∃y,σ=[y,some (.ref d),some (.int tn)])/\H7=H6/\∃L:List Str,ab=L.map V.str/\L.length=i7/\∀y∈L,Wd y) #[#[_,rfl],rfl,[],rfl,rfl,λ_ h=>nomatch h] ?_ (small ()) ?_ ?_
   .rintro i7 σ ab H7 h ⟨_,_,L,rfl,e,_⟩;rw[bC,e];exact mu _
   .rintro i7 σ ab H7 hi7 ⟨⟨_,rfl⟩,rfl,L,rfl,e,wL⟩;have hg:=X.sc.get (rT S);have dy:=X.sc.ln;have(y,hy,wy):=X.sc.name (r:=(tn+(0+(i7:Int))) % 5) () ();ext
    .exact(show _=(L++[y]).map V.str by rw[m3];rfl)
    refine#[by rw[j3,e];rfl,?_]
    .intro z hz;rcases MH.mp hz with h|h
     .exact wL z h
     .rw[pD.mp h];exact wy
   rintro σ ab H7 ⟨_,rfl,L,rfl,e7,wL⟩ p7 hp7;have Y:=ae hp7 (.lst (L.map V.str));have h7:upd H7 p7 (.lst (L.map V.str)) p7=some (.lst (L.map V.str)):=af;generalize upd H7 p7 (.lst (L.map V.str))=H8 at Y h7|-;have d1:oi K false H8 p7 (L.map V.str):=bu.of h7;have d0:oi K true H8 ob ad:=az.same Y;have ck:L.length=o.2.length:=()
   have dn:=X.sc.no hp7;ext;intro l8 dd H9 z8 dz h8;have s8:aF H8 H9:=z8.1;have w9:=(X.same Y).same s8;have a9:=w9.rW ai;have d9:=a9.aa;have ds:yD K H9 l8 (L.zip o.2):=#[_,h8,B6 ck z8 ((ah.kt a5).same Y)];have lz:(L.zip o.2).length<=2:=by rw[Tz];omega
   ext;intro dk b7 G bw c5;have a2:=w9.same G
   have c0:=a9.near (H6:=b7) w9.sc (λq hq=>by
    have(q1,q2):=PN (show(q.1,q.2)∈L.zip o.2 from hq);exact#[(bp _ q2).1,by have:=(bp _ q2).2;omega,wL _ q1]) () bw c5
   have c9:=a2.rp rk;have cv:=G _ _ (s8 _ _ h7);have bg:=G _ _ (s8 _ _ (Y _ _ (x6.1 _ _ (I.no p).1 bi)));have dc:=qm ps (L.zip o.2);ext;refine .inl #[bu.of cv,λa4 as=>?_];have B:=ae as (.tup (L.map V.str));have bo:=Rp.new (K:=K) as (bN.strs L);generalize upd b7 a4 (.tup (L.map V.str))=H11 at B bo|-;have R:=a2.same B;have ea:=c0.uo (a2.sc.ow.same B);have c8:=R.rp rk;have bf:=B _ _ bg;have c7:=R.sc;have al:∀q,H11 q=none->H4 q=none:=λq hq=>cf q (D3 w5.sc.ff x6 (Y.free (s8.free (G.free (B.free hq)))));have co:(ql ps (L.zip o.2)).length+2*n<=S.pb:=()
   ext;intro a3 c6 m b6 M O bn ag cy;have b9:=R.snoc M O bn ag cy;have be:=M.fq (I.no p).2.1 (I.no p).2.2 (I.no p).1 bf;ext;intro U ap;have v:=ae ap (.tup [.str o.1,.ref a4,a3]);have bm:=Rp.new (K:=K) (xs:=[.s o.1,.t (L.map .s),enc m]) ap (.cons .s (.cons (bo.kt M.kt) (.one bn)));generalize upd c6 U (.tup [.str o.1,.ref a4,a3])=H13 at v bm|-;have b8:=b9.same v;have J:=v _ _ be;have am:Kt H5 H13:=(((((a5.trans (Kt.same Y)).trans (Kt.same s8)).trans (Kt.same G)).trans (Kt.same B)).trans M.kt).trans (Kt.same v)
   have aw:GG K fe S kl H4 (upd H13 Z (.lst (N++[.ref U]))) b6 ((ts++[m]).flatMap lK):=by
    have(dp,bz,_):=w5.sc.la;have ch:=w5.sc.nf.2.2.2.2.2.2;have cx:=b4.go (((((w5.sc.ow.ext x6).same Y).same s8).same G).same B) ((B _ _ (G _ _ (s8 _ _ (Y _ _ (x6.1 _ _ ch bz))))).trans bz.symm);have b5:=cx.trans R.sc al (λvs h=>w4.fr.fq I.ng.2.2.2 (by have(kv,hk,_):=R.sc.la;exact cI h hk nofun) I.nf.2.2.2.2.1 (R.JT vs h)) M ag.g
    have(db,av,_):=O.la;have cw:=b5.go (O.ow.same v) ((v _ _ av).trans av.symm);rw[Nv,show [m].flatMap lK=lK m by simp];exact cw.put h4 J (I.no p).2.2
   have br:∀q,upd H13 Z (.lst (N++[.ref U])) q=none->H4 q=none:=λq hq=>by
    have e:H13 q=none:=by
     by_cases c:q=Z
     .rw[c,af]at hq;cases hq
     .rwa [ay c]at hq
    refine al q (M.free (v.free e) λz=>?_);have:=O.Kr (v.free e);rcases vy.mp z with z|z
    .exact this.2.1 z
    .exact this.2.2.1 (pD.mp z)
   have cl:=ac.length;rw[OR,bC]at cl;have da:N.length<mC:=bD ();have a7:Kt H13 (upd H13 Z (.lst (N++[.ref U]))):=Kt.lst J _;have b3:H13 l3=some (.lst t3):=v _ _ (M.fq n3.2.1 n3.2.2 n3.1 (B _ _ (G _ _ (s8 _ _ (Y _ _ (x6.1 _ _ n3.1 b2))))));ext;refine#[W++[(o.1,L)],ts++[m],us++[a3],N++[.ref U],b6,b8.put I p J (aw.Ll w4 I),af,?_,by rw[j3,la];rfl,by rw[j3,lt];rfl,by rw[ay cg];exact b3,(a6.trans am).trans a7,aw,br,λa ha=>(MH.mp ha).elim (a1 a) (λh=>by rw[pD.mp h];exact#[wo,by show L.length<=2;omega,wL])];rw[m3];rw[show OS enc [m]=[enc m]from rfl,yF _ _ (by rw[bC,la,lt])];exact((ac.kt am).kt a7).snoc (bm.kt a7)
  .rintro σ H5 ⟨⟨_,_,_,_,_,rfl⟩,⟨W,ts,us,N,g5,w5,bi,ac,la,lt,b2,a6,b4,_,a1⟩⟩;ext;refine .inl #[bu.of bi,λp6 bv=>?_];have s6:=ae bv (.tup N);have X:=w5.same s6;exact k _ _ W ts g5 X.fr X.sc (Rp.new (K:=K) bv ac) () () a1 X.ok X.gg
 have cs:=w2.sc.ff;clear c2 c3 c4;ext;intro r3 T dj di x3;have w3:=w2.ext x3;have h3:=x3.1 _ _ n2.1 h2;have bl:=(bk.same s2).kt (x3.kt cs);ext;refine cM (λc=>?_) (λc=>?_)
 .ext;intro l4 bx;have s4:=ae bx (.lst l.reverse);have h4:upd T l4 (.lst l.reverse) l4=some (.lst l.reverse):=af;generalize upd T l4 (.lst l.reverse)=H4 at s4 h4|-;ext;refine rest l4 H4 k1.2.reverse l.reverse (w3.same s4) (w3.new bx) h4 ?_ (by rw[NP];exact bt) (λt ht=>an t (SW.mp ht));rw[Q9];exact(bl.same s4).reverse
 .ext;exact rest l2 T k1.2 l w3 (w1.new bc) h3 bl bt an
def D4(K:bA):Sp:=λu H Q _=>∃(f d t:Addr) (p:V) (e:Int) (S:fu) (o:List Str) (g:Kl) (r:List (Str×List Kk×Kk)) (w:List Int) (q:List (Str×Kk)) (k:Kk),u=[.ref f,.ref d,.ref t,p,.int e]/\bx K H f d S o g r w/\yE K H f S g t q/\Rp K H (cu k) p/\k.ok (kn g)/\k.dep<=2/\0<=e/\e<=1000/\q.length<=8/\20<=S.pb /\
 ∀(v:V) (l:Hp) (m:Tm) (j:List Int),bS [S.lg,S.la] f H l->bx K l f d S o g r j->Rp K l (enc m) v->FO K f S g H l j m->m.depth<=9->m.size<=40->Q v l
theorem GG.less (g:GG K f S j H m l ys)(h:e.Sublist ys):GG K f S j H m l e:=by
 have(u,o,d,mk,t,r,q,p):=g;exact#[u,o,d,mk,t,r,h.trans q,p]
theorem Tok.few (h:Tok d):∀t∈d.parts,t.ks.length<=900:=by
 induction h with
 |mk a b c g ih =>
  intro t ht;rw[Tm.jK]at ht;rcases vy.mp ht with rfl|ht
  .exact FA b ()
  .have(k,e,j):=oW ht;exact ih k e t j
theorem Dp.few (d:Dp x e)(t:Tok e)(g:x<=9):IW e:=#[by have:=(d.mono g).2;omega,t.few]
theorem eX :Nm V0 (ak nt):=by decide
theorem B8 :Lm V0 (ak nt):=by decide
theorem vv :aK V0 V3 (ak nt):=#[rfl,rfl,rfl,by decide,rfl,by decide,by decide]
theorem Ga {V:rE}(h1:3<=j)(U:jn<=j)(F:ic K "_law_held" "_law_held" nt f V)(R:dH P w K mg base "parts" 3 Wi (nV K) gS sfd)(TE:dH P w K mg base "_law_term" j Vt (pA K 6) gE efd)(NO:dH P w K mg base "_law_nought" jn VO (nN K 4) gN nfd)(z_len:mg "len"=none):bH P w K mg base eZ (j+1) f V V3 (D4 K):=by
 refine F.ok vv (λZ H Q E h=>?_) (λav A L s H Z Q E hr h=>?_)
 .have(_,_,_,_,_,_,_,_,_,_,_,_,rfl,_):=h;rfl
 have(fe,d,ar,vk,v,S,xs,q,dl,gs,ps,M,rfl,G,ai,rk,ok,ag,ac,ab,ak,al,k):=h;have(az,ax,aw):=G.bb;refine#[_,(Z5 (Z2 vv.nd B8 5 (Z0 TE (Z1 (va eX 0) (Z1 (va eX 1) (Z1 (va eX 2) (Z1 (va eX 3) (cZ (va eX 4) (Za aq)))))))) (Z5 (Zd (Zj mH (Z4 (Z1 (Z0 R (Za (va eX 5))) ao)) aq) (Ze (Zo (Z0 NO (Z1 (va eX 0) (Z1 (va eX 1) (Za (va eX 3)))))))) (Ze (cH (va eX 5))))),?_]
 right
 right
 have ah:M.dep+6<=S.kb:=()
 have aa:-1<=v:=()
 have am:ps.length+2*6<=S.pb:=()
 ext;intro v1 H1 r N X o r1 l Y;have I:=rk.kt X.kt;have w1:=l.tk.wf;have O:=Y.few l.tk ();have z1:=O.1;have au:=Y.1;ext;intro T C m p an U J;have l2:=J.length;rw[bC,Tm.cX]at l2;have e:=o.same p;have W:=X.same p;have ad:=I.same p;have r2:=r1.same p;have ap:bu K C T m\/bQ K C T m:=.inl (bu.of U);have u:FO K fe S q H C N r:=#[l.tk,by have(kv,y,_):=o.la;exact l.g.go (o.ow.same p) ((p _ _ y).trans y.symm)];ext;refine cM (λc=>?_) (λc=>?_)
 .have ae:M.ok ((kn q).take q.length):=by rw[Na (by unfold kn;rw[bC];exact mu _)];exact ok
  have k4:q.length<4:=by have:=G.k3;omega
  have aj:M.dep<=100:=()
  have as:=mu q.length;ext;intro v3 H3 D B r3 t d3 z3;have:=G.k3;have p3:2 ^ (q.length+1)<=2 ^ 4:=Pn () ();exact k v3 H3 D N (W.ext B) (e.ext B) r3 #[t.1,by rw[t.2];have(kv,y,_):=e.la;exact(u.g.less (Rb _)).go (e.ow.ext B) ((B.1 _ _ e.nf.2.2.2.2.2.2 y).trans y.symm)] () ()
 .have c':¬(40:Int)<(m.length:Int):=λz=>c (decide_eq_true z);ext;exact k v1 C r N W e r2 u () ()
def NN(S:fu)(d p:Addr):Prop:=p≠d/\p≠S.ln/\p≠S.lc/\p≠S.lp/\p≠S.ld/\p≠S.lg/\p≠S.la
theorem bx.nn {dl:List (Str×List Kk×Kk)}(s:bx K H f d S xs kl dl gs)(e:H p=none):NN S d p:=by
 have(_,hd,_):=s.ld;have(_,g,_):=s.la;exact#[(au s.sd e).symm,(au s.ln e).symm,(au s.lc e).symm,(au s.lp e).symm,(au hd e).symm,(au s.lg e).symm,(au g e).symm]
theorem bx.gh (s:bx K H f d S xs kl [] gs)(a b:Addr):bx K H f d {S with x1:=a,x2:=b} xs kl [] gs:=by
 have(g,hd,e):=s.ld;exact#[s.sd,s.kd,s.ok,s.k3,s.lx,s.un,s.ln,s.lc,s.lp,#[g,hd,e],s.dl,s.lg,s.la,s.mm,s.mo,s.gn,s.tn,s.ff,s.nf,s.ng,s.nd,s.na,s.bb]
theorem bx.LJ {dl:List (Str×List Kk×Kk)}(s:bx K H f d S xs kl dl gs)(fr:bS [S.x1,S.x2] f H H')(v:NN S d S.x1)(u:NN S d S.x2):bx K H' f d S xs kl dl gs:=by
 have(j,hd,e):=s.ld;have(g,y,w):=s.la;have(t,r,q,p,o,m,l):=s.nf;have(Q,P,O,N,M,L,J):=v;have(I,G,E,D,C,B,A):=u;exact#[fr.fq Q.symm I.symm t s.sd,s.kd.kt fr.kt,s.ok,s.k3,s.lx,s.un,fr.fq P.symm G.symm r s.ln,fr.fq O.symm E.symm q s.lc,fr.fq N.symm D.symm p s.lp,#[j,fr.fq M.symm C.symm o hd,e.go (λb R z h=>fr.fq (iq z).2.2.2.1 (iq z).2.2.2.2 (iq z).1 h) fr.kt],s.dl,fr.fq L.symm B.symm m s.lg,#[g,fr.fq J.symm A.symm l y,w],s.mm,s.mo,s.gn,s.tn,fr.ff,s.nf,s.ng,s.nd,s.na,s.bb]
theorem dz.snoc {K:bA}{H:Hp}{nn:List Addr}{dd:Str×List Kk×Kk}{v:V}(h:B3 K H nn dd v):∀{dl:List (Str×List Kk×Kk)}{g:List V},dz K H nn dl g->dz K H nn (dl++[dd]) (g++[v])
 | [],_,e=>by subst e;exact#[v,[],rfl,h,rfl]
 |_::_,_,⟨u,us,e,a,b⟩=>by subst e;exact#[u,us++[v],rfl,a,dz.snoc h b]
theorem bx.zU {dl:List (Str×List Kk×Kk)}(s:bx K H f d S xs kl dl gs)(h:H S.ld=some (.lst g))(e:dz K H (S.nn f) dl g)(G:B3 K H (S.nn f) dd v)(ok:zR (kn kl) (dl++[dd])):bx K (upd H S.ld (.lst (g++[v]))) f d S xs kl (dl++[dd]) gs:=by
 have(l,m,D):=s.la;have(C,B,A,y,w,u,t):=s.nf;have(M,L,J,E):=s.ng;have(q,p,o):=s.nd;have fr:bS [S.ld] f H (upd H S.ld (.lst (g++[v]))):=(bS.refl s.ff).upd (.head _) w h;have r:d≠S.ld:=cI s.sd h nofun
 have j:S.la≠S.ld:=cI m h nofun
 exact#[fr.gu r C s.sd,s.kd.kt fr.kt,s.ok,s.k3,s.lx,s.un,fr.gu q B s.ln,fr.gu p A s.lc,fr.gu o y s.lp,#[_,af,(e.snoc G).go (λb I z h=>fr.gu (iq z).2.2.1 (iq z).1 h) fr.kt],ok,fr.gu E.symm u s.lg,#[l,fr.gu j t m,D],s.mm,s.mo,s.gn,s.tn,fr.ff,s.nf,s.ng,s.nd,s.na,s.bb]
def KWd:Kk->Prop
 |.num=>True
 |.kd x=>Wd x
 |.op n=>0<=n/\n<1000
 |.row k=>KWd k
theorem Kk.kwd (h:∀x∈ns,Wd x):∀{k:Kk},k.ok ns->KWd k
 |.num,_=>True.intro
 |.kd _,z=>h _ z
 |.op _,z=>z.elim
 |.row k,z=>Kk.kwd h (k:=k) z
structure PC(K:bA) (f:Addr) (ns kn:List Str) (H:Hp) (i:Nat) (us:List V) (H':Hp):Prop where
 x:∃ps:List (Str×Kk),bS [] f H H'/\bN K H' (ps.map vV) us/\ps.map (·.1)=ns.take i/\∀p∈ps,p.2.ok kn/\p.2.dep<=1/\Wd p.1
def rF(ns:List Str)(e:List (Int×Kk)):Prop:=e.length<=3/\e.map (·.1)=(Nj e.length).map (nQ 4)/\∀o∈e,o.2.ok ns/\o.2.dep<=1
theorem rF.snoc (h:rF ns e)(l:e.length<3)(ok:k.ok ns)(d:k.dep<=1):rF ns (e++[(nQ 4 e.length,k)]):=by
 refine#[by rw[j3];exact l,?_,λo g=>?_]
 .rw[m3,h.2.1,j3,Q3,List.range_succ,m3];rfl
 .rcases MH.mp g with z|z
  .exact h.2.2 o z
  .rw[pD.mp z];exact#[ok,d]
theorem rF.nodup (h:rF ns g):(g.map (·.1)).Nodup:=by
 rw[h.2.1];have(l,_):=h;rcases(show g.length=0\/g.length=1\/g.length=2\/g.length=3 by omega)with e|e|e|e<;>rw[e]<;>decide
structure HC(K:bA) (f lo:Addr) (H:Hp) (ns:List Str) (ps:List (Str×Kk)) (os:List (Int×Kk)) (i:Nat) (us:List V) (H':Hp):Prop where
 x:∃(qs:List (Str×Kk)) (os':List (Int×Kk)),bS [lo] f H H'/\bN K H' (qs.map vV) us/\qs.map (·.1)=(ps.take i).map (·.1)/\oA K H' lo os'/\rF ns os'/\os'.map (·.1)=os.map (·.1)++jz qs/\∀p∈qs,p.2.dep<=1/\Wd p.1/\KWd p.2
def Ln(dd:Str×List (Str×Kk)×Tm):Prop:=Tok dd.2.2/\dd.2.2.size<=40/\dd.2.2.depth<=9/\dd.2.1.length<=3/\(∀p∈dd.2.1,p.2.dep<=1/\Wd p.1/\KWd p.2)/\Wd dd.1
structure PI(K:bA) (f d:Addr) (S:fu) (xs:List Str) (kl:Kl) (lk:Addr) (H:Hp) (i:Nat) (H':Hp):Prop where
 x:∃(ds:List (Str×List (Str×Kk)×Tm)) (vs:List V) (os:List (Int×Kk)) (dl:List (Str×List Kk×Kk)) (gs:List Int),bS [S.x1,S.x2,S.lg,S.la,S.ld] f H H'/\bx K H' f d S xs kl dl gs/\H' S.x1=some (.lst vs)/\bN K H' (ds.map vW) vs/\ds.length=i/\dl.length=i/\oA K H' S.x2 os/\rF (kn kl) os/\bI ds=os.map (·.1)/\(bf ds).Sublist gs/\mz K H' f S kl [S.x1,S.x2,S.ld,S.lg] gs/\H' lk=some (.lst ((kn kl).map V.str))/\∀dd∈ds,Ln dd
theorem D5 (a b:List (Str×Kk)):jz (a++b)=jz a++jz b:=by unfold jz;rw[O2]
theorem Iu (a b:List (Str×List (Str×Kk)×Tm)):bI (a++b)=bI a++bI b:=by unfold bI;rw[Nv]
theorem Kk.zY :∀{k:Kk},k.ok ns->k.qw=none
 |.num,_=>rfl
 |.kd _,_=>rfl
 |.op _,h=>absurd h id
 |.row k,h=>zY (k:=k) h
theorem wN (h:S.ex=[(ky "opens",v)]):eF (jc S) (ky "opens")=some v:=by
 unfold jc;rw[h]
 kernel_rfl
theorem iw.yI (a:iw K H f S kl xs dvs p)(fr:bS [S.x1,S.x2] f H H')(v:S.x1∈xs)(u:S.x2∈xs):iw K H' f S kl xs dvs p:=by
 have(w,m,l,k,B,i,J,y,A,ok,kd,e,C,G,hd,(L,o),t,E,D,j,g):=a;have P:m≠S.x1:=λz=>j (z▸v);have O:m≠S.x2:=λz=>j (z▸u);have N:l≠S.x1:=λz=>g (z▸v);have M:l≠S.x2:=λz=>g (z▸u);have(r,I,hr):=e.aa;exact#[w,m,l,k,B,i,J,y.kt fr.kt,A.kt fr.kt,ok,kd,#[#[r,fr.fq P O e.nf I,hr.kt fr.kt],e.nf,e.ng,e.na,e.pk,e.pl],C,G,fr.fq N M t hd,#[L.go (λb Q z h=>fr.fq (iq (λq=>z (.tail _ q))).2.2.2.1 (iq (λq=>z (.tail _ q))).2.2.2.2 (iq (λq=>z (.tail _ q))).1 h) fr.kt,o],t,E,D,j,g]
theorem mz.yI (a:mz K H f S kl xs l)(fr:bS [S.x1,S.x2] f H H')(r:S.x1∈xs)(q:S.x2∈xs)(j:NN S d S.x1)(g:NN S d S.x2)(n:S.ld≠f/\S.la≠f):mz K H' f S kl xs l:=by
 have(dvs,e,w,v,u,t):=a;exact#[dvs,e,fr.fq j.2.2.2.2.1.symm g.2.2.2.2.1.symm n.1 w,fr.fq j.2.2.2.2.2.2.symm g.2.2.2.2.2.2.symm n.2 v,u,λm o=>by have(p,z,y):=t m o;exact#[p,z,y.yI fr r q]]
def qY(K:bA):Sp:=λu H Q _=>∃(f d:Addr) (e:Int) (S:fu) (q:List Str) (l:Kl),u=[.ref f,.ref d,.int e,.int 2]/\bx K H f d S q l [] []/\0<=e/\e<=1000/\S.ex=[(ky "opens",.ref S.x2)]/\H S.x2=some (.lst [])/\NN S d S.x2/\S.x2≠f/\20<=S.pb /\
 ∀(p a:Addr) (r t v:V) (g:Hp) (j:List (Str×List (Str×Kk)×Tm)) (m:List (Int×Kk)) (w:List (Str×List Kk×Kk)) (o:List Int),bS [S.x2,S.lg,S.la,S.ld] f H g->H a=none->bx K g f d {S with x1:=a} q l w o->g p=some (.tup [r,t,v])->Rp K g (oH (nL l) j) r->1<=j.length->j.length<=3->(∀y∈j,Ln y)->oA K g S.x2 m->rF (kn l) m->bI j=m.map (·.1)->(bf j).Sublist o->mz K g f {S with x1:=a} l [a,S.x2,S.ld,S.lg] o->Q (.ref p) g
theorem az :Nm Vr (ak cN):=by decide
theorem bw :Lm Vr (ak cN):=by decide
theorem bg :aK Vr We (ak cN):=#[rfl,rfl,rfl,by decide,rfl,by decide,by decide]
theorem uC (hj:1<=j)(h1:ja<=j)(h2:jh<=j)(F:ic K "_law_program_of" "_law_program_of" cN f fd)(TK:dH P w K mg base "_law_take" 1 Vy eK gT tfd)(AK:dH P w K mg base "_law_any_kind" ja VF (ik K 3) gA afd)(HE:dH P w K mg base "_law_held" j V3 (D4 K) gE efd)(HI:dH P w K mg base "_law_hidden" jh VX (yG K) gH hfd)(z_range:mg "range"=none)(M:mg "tuple"=none):bH P w K mg base eZ (j+1) f fd We (qY K):=by
 refine F.ok bg (λvs H Q E h=>?_) (λj0 A hf s H vs Q E hr h=>?_)
 .have(_,_,_,_,_,_,rfl,_):=h;rfl
 have(C,d,d1,S0,xs,kl,rfl,ag,jb,i8,im,bl,n2,U,ha,k):=h;refine#[_,(Z5 (Z2 bg.nd bw 4 (Zc (ak cN) Vr VG [] (@dZ _ _ _ _ (Zh (va az 1))) (λ_ _ _ _=>(Zb (Zi (Z3 (i:=0) (show(VG:List Str).Nodup by decide)) (aJ (Z3 (i:=1) (show(VG:List Str).Nodup by decide)) aX)))) (λ_ _ _ _=>(va (show Nm VG _ by left) 0)))) (Z5 (sa bg.nd bw 5 (bh ao)) (Z5 (Z2 bg.nd bw 6 (Zh (va az 1))) (Z5 (sa bg.nd bw 7 (bh ao)) (Z5 (sa bg.nd bw 8 aB) (Z5 (Z2 bg.nd bw 9 (Zm cK aq (Z0 TK (cZ (va az 0) (Za aq))))) (Z5 (Zk (Zn (Za (va az 9))) (ga bg.nd bw 10) (Z5 (Zf (ak cN) Vr ["_law_x"] [0,4] (@cJ _ _ _ _ (@bZ _ _ _ _ _ _ _ _ _ _ iC (Zh (va az 1)) cW (@bL _ _ _ (Z0 TK (cZ (va az 0) (Za aq)))))) (λ_ _ _ _=>(Z3 (i:=0) (show(Wn:List Str).Nodup by decide))) (λ_ _ _ _=>eN) (λ_ _ _ _=>(Zg (Z1 (va (show Nm Wn _ by left) 0) (Z1 (Z0 AK (Z1 (va (show Nm Wn _ by left) 1) (cZ (va (show Nm Wn _ by left) 2) (Za aq)))) ao)))) (ga bg.nd bw 11)) (Z5 (Zf (ak cN) Vr V8 [] (cJ (va az 11)) (λ_ _ _ _=>(Zb (Zi (Z3 (i:=0) (show(V8:List Str).Nodup by decide)) (aJ (Z3 (i:=1) (show(V8:List Str).Nodup by decide)) aX)))) (λ_ _ _ _=>eN) (λ_ _ _ _=>(va (show Nm V8 _ by left) 1)) (ga bg.nd bw 7)) (Z5 (Z2 bg.nd bw 8 (Z0 AK (Z1 (va az 0) (cZ (va az 4) (Za aq))))) (Z5 (Z2 bg.nd bw 12 (Z0 HE (Z1 (va az 0) (Z1 (va az 1) (Z1 (va az 11) (Z1 (va az 8) (Za (va az 2)))))))) (Z5 (Z2 bg.nd bw 13 (Z6 aU M MJ (Za (va az 11)))) (Z5 (Zd (PW.pt (@uH _ _ _ _ _ _ _ (Zq bR (va az 3) aq) (@sr _ _ _ _ (PW.pt (@iL _ _ _ _ _ _ _ (Zq bR (va az 3) aq) (@iz _ _ _ _ (Zj mY (va az 10) (aS bK (va az 9) aq)))))))) (Ze (Z2 bg.nd bw 13 (Z6 aU M MJ (Z1 (Zc (ak cN) Vr V8 [0,3,6] (cJ (va az 11)) (λ_ _ _ _=>(Zb (Zi (Z3 (i:=0) (show(VD:List Str).Nodup by decide)) (aJ (Z3 (i:=1) (show(VD:List Str).Nodup by decide)) aX)))) (λ_ _ _ _=>(Zg (Z1 (va (show Nm VD _ by left) 0) (Z1 (Z0 HI (Z1 (va (show Nm VD _ by left) 2) (Z1 (va (show Nm VD _ by left) 1) (Z1 (va (show Nm VD _ by left) 4) (Z1 (Zm cK aq (aS iM (va (show Nm VD _ by left) 3) aq)) ao))))) ao))))) ao))))) (Z5 (@cC _ _ _ _ (Z8 MN MO cQ (va az 5) (Z1 (Zg (Z1 (Zl aN (Zh (va az 1)) (va az 10)) (Z1 (va az 13) (Za (va az 12))))) ao)) (by rfl)) (Ze (@cC _ _ _ _ (Z8 MN MO cQ (Zh (va az 1)) (Z1 (Zg (Z1 (Zl aN (Zh (va az 1)) (va az 10)) (Z1 (va az 7) (Za (va az 8))))) ao)) (by rfl))))))))))) (Ze (Zo (Zg (Z1 (Zg (Z1 (Zh (va az 1)) (Z1 (Z6 aU M MJ (Za (va az 5))) ao))) (Z1 (va az 7) (Za (va az 8)))))))))))))),?_]
 right
 right
 have ju:=ag.get (mw S0);have(ka,et,ek,jm,jc):=ag.kd.bq
 cases ek
 ext;refine rX ag λlk H1 s1 db h1=>?_;have cv:=ag.same s1;ext;intro X aa;have s2:=ae aa (.lst []);have h2:upd H1 X (.lst []) X=some (.lst []):=af;generalize upd H1 X (.lst [])=H2 at s2 h2|-;have jt:=(cv.same s2).get (wN im);have fg:=s2 _ _ (s1 _ _ bl);have c5:X≠S0.x2:=(au (s1 _ _ bl) aa).symm;ext;intro hs fj;have s4:=ae fj (.lst []);generalize upd H2 hs (.lst [])=H4 at s4|-;have n1:NN S0 d X:=cv.nn aa;have hq:lk≠X:=au h1 aa;have em:lk≠S0.x2:=(au bl db).symm;have l:=s1.trans (s2.trans s4);have ce:H X=none:=s1.free aa;have ii:=s4 _ _ h2;have fp:=s4 _ _ fg;have ih:=s4 _ _ (s2 _ _ h1);obtain⟨S,eS⟩:∃S:fu,S={S0 with x1:=X}:=#[_,rfl];have dx:bx K H4 C d S xs kl [] []:=by rw[eS];exact(ag.same l).gh X S0.x2
 have eg:S.lg=S0.lg/\S.la=S0.la/\S.ld=S0.ld/\S.x1=X/\S.x2=S0.x2/\S.pb=S0.pb:=by rw[eS];exact#[rfl,rfl,rfl,rfl,rfl,rfl]
 have m1:NN S d S.x1:=by rw[eS];exact n1
 have m2:NN S d S.x2:=by rw[eS];exact n2
 have(e1,e2,e3,rfl,e4,e5):=eg;rw[<-e4]at U em c5 fp;rw[<-e4];have jn:20<=S.pb:=by rw[e5];exact ha
 have h7:=dx.ff;have G:S.x1≠C:=(cv.no aa).1;have aw:S.x1∈[S.x1,S.x2,S.ld,S.lg]:=.head _;have av:S.x2∈[S.x1,S.x2,S.ld,S.lg]:=.tail _ (.head _);have be:lk≠C:=(ag.no db).1;have c4:NN S0 d lk:=ag.nn db;ext;intro m H5 m0 jg x5;have ct:=dx.ext x5;have f5:bS [S.x1,S.x2,S.lg,S.la,S.ld] C H4 H5:=(bS.refl h7).ext x5
 have iw:mz K H5 C S kl [S.x1,S.x2,S.ld,S.lg] []:=by
  have(dv,ax,_):=ct.ld;have(et,h5,l0,_):=ct.la;have:et=[]:=NH.mp (Nat.le_zero.mp l0);subst this;exact#[dv,[],ax,h5,rfl,λ_ h=>nomatch h]
 have ig:=x5.1 _ _ G ii;have ib:=x5.1 _ _ U fp;have ie:=x5.1 _ _ be ih;ext;refine eO (n:=(1+m).toNat) (λi σ H6=>(∃(w g:V) (g2 g1 gz gx:Option V),σ=[some (.ref C),some (.ref d),some (.int d1),some (.int 2),some (.ref lk),some (.ref S.x1),some (.ref S.x2),some w,some g,some (.int (1+m)),g2,g1,gz,gx])/\PI K C d S xs kl lk H4 i H6) #[#[_,_,_,_,_,_,rfl],#[[],[],[],[],[],f5,ct,ig,.nil,rfl,rfl,#[[],ib,.nil],#[MP _,rfl,λ_ h=>nomatch h],rfl,.slnil,iw,ie,λdd h=>nomatch h]] ?_ ?_
 .rintro i σ H6 hi ⟨⟨w6,g6,_,_,_,_,rfl⟩,⟨ds,vs,os,dl,bv,f6,fQ,bm,r6,ep,eq,⟨br,a0,cy⟩,cz,c6,cs,dq,bt,dj⟩⟩;have js:=fQ.get (DR S);have jo:=fQ.lp;have fm:=fQ.ff;have IY:=fQ.IY;have lx:=fQ.lx;have jd:=fQ.nf.2.2.2.1;ext;intro m7 H7 jf je x7;have dw:=fQ.ext x7;have i4:=dw.lp;ext;intro l8 fk
  have e8:iW (((xs.drop 21).take 3).map V.str) none (some m7)=(((xs.drop 21).take 3).take m7.toNat).map V.str:=by
   rw[show m7=((m7.toNat:Nat):Int) by omega,fY,NY];exact NS.symm
  rw[e8];have s8:=ae fk (.lst ((((xs.drop 21).take 3).take m7.toNat).map V.str));have h8:upd H7 l8 (.lst ((((xs.drop 21).take 3).take m7.toNat).map V.str)) l8=some (.lst ((((xs.drop 21).take 3).take m7.toNat).map V.str)):=af;generalize upd H7 l8 (.lst ((((xs.drop 21).take 3).take m7.toNat).map V.str))=H8 at s8 h8|-;have hw:(((xs.drop 21).take 3).take m7.toNat).length<=3:=by rw[we,we];omega
  have dt:∀y∈(((xs.drop 21).take 3).take m7.toNat),Wd y:=λy hy=>fQ.un.2 y (Pk (MT (MT hy)));generalize(((xs.drop 21).take 3).take m7.toNat)=ns at h8 hw dt;have cq:Ext C H6 H8:=x7.same s8;have ia:=cq.1 _ _ be bt;have hn:=(dw.no fk).1;ext;refine fS (K:=K) (xs:=ns.map V.str) (λi9 σ us H9=>(∃y,σ=[y,some (.ref C),some (.ref lk)])/\PC K C ns (kn kl) H8 i9 us H9) #[#[_,rfl],#[[],bS.refl cq.2,.nil,rfl,λp h=>nomatch h]] ?_ (small (by rw[bC];omega)) ?_ ?_ ?_
  .rintro i9 σ us H9 h9 ⟨_,⟨ps,_,r,e,_⟩⟩;have:=congrArg PF e;rw[bC,we]at this;rw[r.length,bC,this];exact RH _ _
  .rintro i9 σ us H9 h9 ⟨_,⟨ps,f9,_⟩⟩;exact bu.of (f9.tJ hn h8)
  .rintro i9 xv σ us H9 hxv ⟨⟨_,rfl⟩,⟨ps,f9,r9,e9,o9⟩⟩;rw[rj]at hxv;have(y9,c9,rfl):=ur.mp hxv;have jy:=f9.tJ be ia;have fl:=f9.ff;have c8:(kn kl).length<=100:=()
   ext;intro cr gv L dr a9 hl dp;ext;intro he aj;have J:=ae aj (.tup [.str y9,cr]);have de:=(ko.mp c9).1;have gi:L.dep<=1:=dp;ext;refine#[ps++[(y9,L)],(f9.ext dr).same J,?_,?_,λp hp=>(MH.mp hp).elim (o9 p) (λh=>by rw[pD.mp h];exact#[hl,gi,dt _ (t9 c9)])]
   .rw[m3];exact((r9.kt (dr.kt fl)).same J).snoc (Rp.new (K:=K) (xs:=[.s y9,cu L]) aj (.cons .s (.one a9)))
   .rw[m3,e9,EF de,(ko.mp c9).2];rfl
  rintro σ us H9 ⟨_,⟨ps,f9,r9,e9,o9⟩⟩ lpa hlpa;rw[bC,MS]at e9;have hu:ps.length<=3:=by have:=congrArg PF e9;rw[bC]at this;omega
  have cx:=ae hlpa (.lst us);have dh:upd H9 lpa (.lst us) lpa=some (.lst us):=af;have a9:=r9.same cx;generalize upd H9 lpa (.lst us)=gv at cx dh a9|-;have cp:Ext C H6 H9:=cq.trans f9.ex;have ad:=cp.same cx;have bp:=fQ.ext cp;have I:=bp.no hlpa;ext;refine eR (e:=vV) (φ:=λp=>[cu p.2]) (λσ=>∃x y,σ=[x,y]) dh a9 () (λ_=>mu _) #[_,_,rfl] ?_ ?_
  .rintro p hp x _ gt N J ⟨_,_,rfl⟩ rx kN;have(xa,x1,x2,rfl,g3,r1,r2):=(show Rp K gt (.t [.s p.1,cu p.2]) x from rx).t2;ext;exact kN _ _ _ #[#[_,_,rfl],aF.refl _,.one r2]
  intro lw gt ws J bs ij ef;rw[kE (λp:Str×Kk=>cu p.2),show(ps.map λp=>cu p.2)=(ps.map (·.2)).map cu from by rw[Ph];rfl]at ef;have ap:=ad.same J;have ix:=fQ.ext ap;have an:=(fQ.ext ad).no bs;have el:=(fQ.ext ad).nn bs;have i6:=ap.1 _ _ be bt;have cd:=ap.2;have c8:(kn kl).length<=100:=()
  have bc:lw≠S.x1:=(au (ad.1 _ _ G bm) bs).symm;have bb:lw≠S.x2:=(au (ad.1 _ _ U a0) bs).symm;ext;intro vg gs kg a2 g9 hh iv;have i7:kg.dep<=1:=iv;have v:=ap.trans a2;have q:=fQ.ext v;have cl:=a2.1 _ _ I.1 (J _ _ dh);have f3:=a2.1 _ _ an.1 ij;have b8:=(a9.same J).kt (a2.kt cd);have ee:=ef.kt (a2.kt cd);have ai:yE K gs C S kl lpa ps:=#[#[us,cl,b8],I.1,I.2.1,I.2.2,λp hp=>#[(o9 p hp).1,by have:=(o9 p hp).2.1;omega,(o9 p hp).2.2],()];have dn:kg.dep<=2:=()
  have iy:ps.length<=8:=()
  ext;intro a3 b0 Z cm Y b1 g8 a4 iu gw;have eo:S.ld≠S.lg/\S.ld≠C:=#[q.ng.2.2.2,q.nf.2.2.2.2.1];have bi:S.ld≠C/\S.la≠C:=#[q.nf.2.2.2.2.1,q.nf.2.2.2.2.2.2]
  have gr:mz K gs C S kl [S.x1,S.x2,S.ld,S.lg] bv:=by
   have(kv,hk,_):=fQ.la;exact dq.go (fQ.ow.ext v) ((v.1 _ _ fQ.nf.2.2.2.2.2.2 hk).trans hk.symm) eo
  have gq:mz K b0 C S kl [S.x1,S.x2,S.ld,S.lg] cm:=by
   have(ir,fo,is):=q.ld;refine gr.gg a4.g q.lg Y eo (λx hx=>?_) #[ir,dl,fo,is,q.dl];simp only[vy,MK,or_false]at hx;rcases hx with rfl|rfl|rfl|rfl
   .exact#[_,v.1 _ _ G bm]
   .exact#[_,v.1 _ _ U a0]
   .have(dv,ax,_):=q.ld;exact#[_,ax]
   .exact#[_,q.lg]
  have gb:bS [S.x1,S.x2] C b0 b0:=bS.refl b1.ff;have ck:=Y.fq I.2.1 I.2.2 I.1 cl;have f2:=Y.fq an.2.1 an.2.2 an.1 f3;have ed:=b8.kt Y.kt;have ec:=ee.kt Y.kt;have d4:=g9.kt Y.kt;ext;refine .inl #[bu.of ck,λhb e7=>?_];have l:=ae e7 (.tup us);generalize upd b0 hb (.tup us)=H14 at l|-;have a7:=b1.same l;have fy:=l _ _ ck;have fx:=l _ _ f2;have eb:=ed.same l;have ea:=ec.same l;have d3:=d4.same l;have d0:=g8.same l;have gp:=gq.yI (gb.same l) aw av m1 m2 bi;have f0:H14 S.x2=some (.lst br):=l _ _ (Y.fq m2.2.2.2.2.2.1 m2.2.2.2.2.2.2 U (v.1 _ _ U a0));have f1:H14 S.x1=some (.lst vs):=l _ _ (Y.fq m1.2.2.2.2.2.1 m1.2.2.2.2.2.2 G (v.1 _ _ G bm));have ca:Kt H6 H14:=((v.kt fm).trans Y.kt).trans (Kt.same l);have fn:=a7.ff;have c3:lpa≠S.x2:=(au (cp.1 _ _ U a0) hlpa).symm;ext;refine fS (K:=K) (xs:=us) (λi9 σ O H9=>(∃y z,σ=[y,z,some (.ref C),some (.int 2),some (.ref S.x2)])/\HC K C S.x2 H14 (kn kl) ps os i9 O H9) #[#[_,_,rfl],#[[],os,bS.refl fn,.nil,rfl,#[br,f0,cy.kt ca],cz,(M5 _).symm,λp h=>nomatch h]] ?_ (small (by rw[r9.length,bC];omega)) ?_ ?_ ?_
  .rintro i9 σ O H9 h9 ⟨_,⟨qs,am,_,r,e,_⟩⟩;have:=congrArg PF e;rw[bC,bC,we]at this;rw[r.length,bC,this];exact RH _ _
  .rintro i9 σ O H9 h9 ⟨_,⟨qs,am,f9,_⟩⟩;exact bu.of (f9.gu c3 I.1 fy)
  .rintro i9 xv σ O H9 hxv ⟨⟨_,_,rfl⟩,⟨qs,am,f9,g5,ip,jx,c7,io,d9⟩⟩;have(yv,ey,g4):=eb.get' hxv;rw[rj]at ey;have(p9,bk,rfl):=ur.mp ey;have(xa,x1,x2,rfl,g3,q1,q2):=(show Rp K H9 (.t [.s p9.1,cu p9.2]) xv from g4.kt f9.kt).t2;obtain rfl:=q1.bj;have(c0,ej,w9):=o9 p9 (t9 bk);have bl:p9.2.qw=none:=Kk.zY c0;have l9:=c7.1;have fl:=f9.ff;ext;intro cr gv L ba gd f4 eh h3
   have hv:rF (kn kl) ba/\ba.map (·.1)=am.map (·.1)++L.qw.toList/\L.dep<=1/\KWd L:=by
    rcases h3 with⟨rfl,rfl⟩|⟨l3,rfl,rfl⟩
    .exact#[c7,by rw[bl];exact(M5 _).symm,ej,Kk.kwd (λ_ h=>a7.LH h) c0]
    .exact#[c7.snoc l3 c0 ej,by rw[m3];rfl,MP _,by show 0<=5*((am.length:Nat):Int)+2/\5*((am.length:Nat):Int)+2<1000;omega]
   have(h0,iq,dp,es):=hv;ext;intro he aj;have J:=ae aj (.tup [.str p9.1,cr]);have de:=(ko.mp bk).1;ext;refine#[qs++[(p9.1,L)],ba,(f9.trans gd).same J,?_,?_,?_,h0,?_,λp hp=>(MH.mp hp).elim (d9 p) (λh=>by rw[pD.mp h];exact#[dp,w9,es])]
   .rw[m3];exact((g5.kt gd.kt).same J).snoc (Rp.new (K:=K) (xs:=[.s p9.1,cu L]) aj (.cons .s (.one eh)))
   .rw[m3,ip,EF de,(ko.mp bk).2,m3];rfl
   .have(ov,ho,ro):=f4;exact#[ov,J _ _ ho,ro.same J]
   .rw[iq,io,D5,M6];have:jz [(p9.1,L)]=L.qw.toList:=by unfold jz;rw[NG];cases L.qw<;>rfl
    rw[this]
  rintro σ O H15 ⟨_,⟨qs,am,bo,g7,gf,⟨b9,fw,d2⟩,er,ge,it⟩⟩ l16 hl16;have ht:us.length=ps.length:=by rw[r9.length,bC]
  rw[ht,MS]at gf;have jj:qs.length=ps.length:=by have:=congrArg PF gf;rw[bC,bC]at this;exact this
  have cw:=ae hl16 (.lst O);have fv:upd H15 l16 (.lst O) l16=some (.lst O):=af;have d8:=g7.same cw;generalize upd H15 l16 (.lst O)=H16 at cw fv d8|-;ext;refine .inl #[bu.of fv,λas cc=>?_];have dz:=ae cc (.tup O);have d7:=Rp.new (K:=K) cc d8;generalize upd H16 as (.tup O)=H17 at dz d7|-;have u:=cw.trans dz;have gc:bS [S.x1,S.x2] C H14 H17:=bo.more.same u;have ar:=a7.LJ gc m1 m2;have gn:=gp.yI gc aw av m1 m2 bi;have fs:=u _ _ fw;have ft:=u _ _ (bo.gu c5 G f1);have fr:=u _ _ (bo.gu bb an.1 fx);have ab:Kt H14 H17:=bo.kt.trans (Kt.same u);have jv:=ar.get (yw S);have jp:=ar.lc;have jr:i<3:=()
  have h6:i<((xs.drop 18).take 3).length:=by rw[we,Oj];omega
  obtain⟨W,fi⟩:∃W,((xs.drop 18).take 3)[i]?=some W:=#[_,my h6];have du:Wd W:=fQ.un.2 W (Pk (MT (t9 fi)))
  have jw:jZ (((xs.drop 18).take 3).map V.str) (0+(i:Int))=some (.str W):=by
   rw[Qk];exact bz (by rw[rj,fi];rfl)
  ext;intro D cb;have T:=ae cb (.tup [.str W,.ref as,a3]);have d6:Rp K (upd H17 D (.tup [.str W,.ref as,a3])) (vW (W,qs,Z)) (.ref D):=Rp.new (K:=K) (xs:=[.s W,.t (qs.map vV),enc Z]) cb (.cons .s (.cons d7 (.one (d0.kt ab))));have bn:=T _ _ ft;have ci:=T _ _ fr;have cj:=T _ _ fs;have a6:=ar.same T;have f8:bS [S.x1,S.x2] C H17 H17:=bS.refl ar.ff;have co:=gn.yI (f8.same T) aw av m1 m2 bi;have b5:=(d2.same u).same T;have ew:Kt H6 (upd H17 D (.tup [.str W,.ref as,a3])):=(ca.trans ab).trans (Kt.same T);have b3:=(ea.kt ab).same T;have b7:=(d3.kt ab).same T
  have fa:bS [S.x1,S.x2,S.lg,S.la,S.ld] C H6 (upd H17 D (.tup [.str W,.ref as,a3])):=by
   have a1:bS [S.x1,S.x2,S.lg,S.la,S.ld] C H6 H14:=((Ext.uo fm v).trans (bS.sub Y (λz hz=>by simp only[vy,MK,or_false]at hz|-;rcases hz with h|h<;>simp[h]))).same l
   exact((a1.trans (bS.sub bo (λz hz=>by simp only[vy,MK,or_false]at hz|-;simp[hz]))).same u).same T
  generalize upd H17 D (.tup [.str W,.ref as,a3])=H18 at T d6 bn ci cj a6 co b5 ew b3 b7 fa|-;have ji:vs.length<mC:=bD (by rw[r6.length,bC];omega);have al:bS [S.x1,S.x2] C H18 (upd H18 S.x1 (.lst (vs++[.ref D]))):=(bS.refl a6.ff).upd (.head _) G bn;have R:=a6.LJ al m1 m2;have cn:=co.yI al aw av m1 m2 bi;have b4:=b5.kt al.kt;have ch:upd H18 S.x1 (.lst (vs++[.ref D])) S.x1=some (.lst (vs++[.ref D])):=af;have cf:upd H18 S.x1 (.lst (vs++[.ref D])) lw=some (.lst ws):=by rw[ay bc];exact ci
  have cg:upd H18 S.x1 (.lst (vs++[.ref D])) S.x2=some (.lst b9):=by rw[ay c5.symm];exact cj
  have fb:=fa.upd (o:=.lst (vs++[.ref D])) (.head _) G bn;have d5:=(r6.kt (ew.trans al.kt)).snoc (d6.kt al.kt);have b2:=b3.kt al.kt;have b6:=b7.kt al.kt;have dg:=R.get (yw S);have dc:=R.lc;have df:=R.get (wF S);have(di,ax,dm):=R.ld;have jk:=dm.len;have i0:di.length<mC:=bD ();ext;generalize upd H18 S.x1 (.lst (vs++[.ref D]))=H19 at al R cn b4 ch cf cg fb d5 b2 b6 dg dc df ax dm|-;intro ah e6;have B:=ae e6 (.tup [.str W,.ref lw,vg]);have ei:=bQ.of (K:=K) (show upd H19 ah (.tup [.str W,.ref lw,vg]) ah=some (.tup [.str W,.ref lw,vg])from af);generalize upd H19 ah (.tup [.str W,.ref lw,vg])=H20 at B ei|-;have a5:=R.same B;have f7:bS [S.x1,S.x2] C H19 H19:=bS.refl R.ff;have gl:=cn.yI (f7.same B) aw av m1 m2 bi;have ac:=B _ _ ax;have dk:=dm.go (λb ws _ h=>B _ _ h) (Kt.same B)
  have h4:lw∉S.nn C:=by
   unfold fu.nn;simp only[vy,MK,or_false,not_or];exact#[an.1,an.2.1,el.2.2.2.2.1,bc,bb]
  have da:B3 K H20 (S.nn C) (W,ps.map (·.2),kg) (.ref ah):=#[ah,lw,vg,ws,rfl,ei,B _ _ cf,b2.same B,b6.same B,h4]
  have hg:zR (kn kl) (dl++[(W,ps.map (·.2),kg)]):=by
   refine#[by rw[j3];show dl.length+1<=8;omega,λdd hd=>?_];rcases MH.mp hd with h|h
   .exact a5.dl.2 dd h
   .rw[pD.mp h];refine#[by rw[bC];exact hu,λc hc=>?_,hh,dn,du];have(p,hp,rfl):=NV.mp hc;exact#[(o9 p hp).1,by have:=(o9 p hp).2.1;omega]
  have dy:=a5.zU ac dk da hg;have gk:=gl.zU (.tail _ (.tail _ (.head _))) ac (.ref ah);have hm:=a5.nf.2.2.2.2.1;have c2:S.x1≠S.ld:=m1.2.2.2.2.1;have c1:S.x2≠S.ld:=m2.2.2.2.2.1;have ev:Kt H20 (upd H20 S.ld (.lst (di++[.ref ah]))):=Kt.lst ac _;have fc:=(fb.same B).upd (o:=.lst (di++[.ref ah])) (by simp) hm ac
  have en:lk∉[S.x1,S.x2,S.lg,S.la,S.ld]:=by
   simp only[vy,MK,or_false,not_or];rw[e1,e2,e3];exact#[hq,em,c4.2.2.2.2.2.1,c4.2.2.2.2.2.2,c4.2.2.2.2.1]
  ext;refine#[ds++[(W,qs,Z)],vs++[.ref D],am,dl++[(W,ps.map (·.2),kg)],cm,f6.trans fc,dy,?_,?_,by rw[j3,ep];rfl,by rw[j3,eq];rfl,#[b9,?_,(b4.same B).kt ev],er,?_,?_,gk,?_,λdd hd=>?_]
  .rw[ay c2];exact B _ _ ch
  .rw[m3];exact(d5.same B).kt ev
  .rw[ay c1];exact B _ _ cg
  .rw[ge,Iu,c6];have:bI [(W,qs,Z)]=jz qs:=by unfold bI;simp
   rw[this]
  .have:bf (ds++[(W,qs,Z)])=bf ds++lK Z:=by unfold bf;simp;rfl
   rw[this];have(g0,mr,jl,mk,i1,i2,i3,_):=a4.g;have e1:g0=bv:=jV (by have:=i1.symm.trans q.lg;injection this with this;injection this);rw[i2,e1];exact cs.append i3
  .exact fc.oth lk _ en be bt
  .rcases MH.mp hd with h|h
   .exact dj dd h
   .rw[pD.mp h];exact#[a4.tk,gw,iu,by show qs.length<=3;omega,it,du]
 .rintro σ H6 ⟨⟨w6,g6,_,_,_,_,rfl⟩,⟨ds,vs,os,dl,bv,f6,fQ,bm,r6,ep,eq,⟨br,a0,cy⟩,cz,c6,cs,dq,bt,dj⟩⟩;have i5:=fQ.get (mw S);ext;refine .inl #[bu.of bm,λp7 e0=>?_];have s7:=ae e0 (.tup vs);have r7:=Rp.new (K:=K) e0 r6;generalize upd H6 p7 (.tup vs)=H7 at s7 r7|-;ext;intro p8 ez;have s8:=ae ez (.tup [.ref S.kd,.ref p7]);have r8:Rp K (upd H7 p8 (.tup [.ref S.kd,.ref p7])) (oH (nL kl) ds) (.ref p8):=Rp.new (K:=K) ez (.cons (fQ.kd.same s7) (.one r7));generalize upd H7 p8 (.tup [.ref S.kd,.ref p7])=H8 at s8 r8|-;ext;intro p9 bk;have s9:=ae bk (.tup [.ref p8,w6,g6]);have a8:=(s7.trans s8).trans s9;have fz:=(((bS.refl ag.ff).same l).trans f6).same a8;have bp:=fQ.same a8;have il:bS [S.x1,S.x2] C H6 H6:=bS.refl fQ.ff;have gj:=dq.yI (il.same a8) aw av m1 m2 #[fQ.nf.2.2.2.2.1,fQ.nf.2.2.2.2.2.2];refine k p9 S.x1 (.ref p8) w6 g6 _ ds os dl bv ?_ ce ?_ af (r8.same s9) () () dj ?_ cz c6 cs ?_
  .rw[<-e1,<-e2,<-e3,<-e4];exact fz.drop ce
  .rw[eS]at bp|-;exact bp
  .rw[<-e4];exact#[br,a8 _ _ a0,cy.same a8]
  .rw[eS]at gj|-;exact gj
structure FS(K:bA) (H:Hp) (f d:Addr) (S:fu) (xs:List Str) (kl:Kl) (dl:List (Str×List Kk×Kk)) (dvs:List V) (g0 gs:List Int):Prop where
 sc:bx K H f d S xs kl dl gs
 hd:H S.ld=some (.lst dvs)
 sub:∀n∈g0,n∈gs
 as:∀n∈g0,∃kvs p,H S.la=some (.dK kvs)/\eF kvs (Sum.inl n)=some (.ref p)/\iw K H f S kl [S.lg] dvs p
 kb:S.kb=13
 pb:S.pb=24
 ex:∃v,S.ex=[(ky "opens",v)]
theorem yJ (h:S.ex=[(ky "opens",v)])(a:Addr):putK (jc S) (ky "defs") (.ref a)=jc {S with ld:=a}:=by
 have(_,_,_,_,_,_,_,_,_,_,_,_,_,_):=S;dsimp only at h;subst h
 kernel_rfl
theorem D6 (h:S.ex=[(ky "opens",v)])(m:Int):putK (jc S) (ky "most") (.int m)=jc {S with mo:=m}:=by
 have(_,_,_,_,_,_,_,_,_,_,_,_,_,_):=S;dsimp only at h;subst h
 kernel_rfl
theorem D7 {kvs:List (Key×V)}(h:eF kvs k=some v):eF (kvs++mk) k=some v:=by
 unfold eF at h|-;have(x,g,e):=ur.mp h;rw[List.find?_append,g];exact congrArg some e
theorem bx.sub {dl:List (Str×List Kk×Kk)}(s:bx K H f d S xs kl dl gs)(fr:bS [d] f H H'){ld:Addr}(h:H' d=some (.dK (jc {S with ld:=ld,mo:=m})))(A:H ld=some (.lst o))(P:dz K H (ld::S.nn f) w o)(v:zR (kn kl) w)(y:ld≠f)(n2:ld≠S.lg)(r:ld≠S.ln/\ld≠S.lc/\ld≠S.lp)(I:(gs.length:Int)<=m)(mo:m<=14):bx K H' f d {S with ld:=ld,mo:=m,kb:=17,pb:=32} xs kl w gs:=by
 have g:∀{b j},H b=some (.lst j)->b≠f->H' b=some (.lst j):=λh n=>fr.gu (cI h s.sd nofun) n h
 have(t,J,u):=s.la;have(O,G,E,D,R,C,B):=s.nf;have(N,M,L,Q):=s.ng;refine#[h,s.kd.kt fr.kt,s.ok,s.k3,s.lx,s.un,g s.ln G,g s.lc E,g s.lp D,#[o,g A y,?_],v,g s.lg C,#[t,fr.gu s.na.symm B J,u],I,mo,s.gn,s.tn,fr.ff,#[O,G,E,D,y,C,B],#[N,M,L,n2],#[r.1.symm,r.2.1.symm,r.2.2.symm],s.na,#[(by decide:17<=20),(by decide:32<=40),(by decide:13<=17)]];refine(P.nn (n2:=[f,S.lg,ld,S.x1,S.x2]) λl j z A q=>?_).go (λb j z h=>g h (λe=>z (e▸.head _))) fr.kt;have(Z,Y,X,W,U):=iq (λq=>z (.tail _ q));have T:l≠ld:=λe=>z (e▸.head _);simp only[vy,MK,or_false]at q;rcases q with q|q|q|q|q<;>contradiction
theorem bS.get3 {M:List Addr}(a:bS [l,m,n] f H H')(j:b≠l)(n2:b≠m)(g:b≠n)(e:b≠f)(h:H b=some o):H' b=some o:=a.oth b o (λz=>by simp only[vy,MK,or_false]at z;rcases z with z|z|z<;>contradiction) e h
theorem bx.back {dl:List (Str×List Kk×Kk)}(s:bx K H f d S xs kl dl gs)(fr:bS [d,S.lg,S.la] f H H')(h:H' d=some (.dK (jc {S with mo:=m})))(q:H' S.lg=some (.lst (gs'.map V.int)))(r:∃kvs,H' S.la=some (.dK kvs)/\kvs.length<=gs'.length/\∀kv∈kvs,∃n∈gs',kv.1=Sum.inl n)(o:(gs'.length:Int)<=m)(mo:m<=14)(w:∀(k:Nat) (n:Int),gs'[k]?=some n->n=uz S.tn k):bx K H' f d {S with mo:=m} xs kl dl gs':=by
 have(kvs,v,t):=s.la;have e:∀{b g},H b=some (.lst g)->b≠S.lg->b≠f->H' b=some (.lst g):=λh n l=>bS.get3 (M:=[]) fr (cI h s.sd nofun) n (cI h v nofun) l h
 have(O,I,G,E,D,N,L):=s.nf;have(C,B,A,y):=s.ng;have(j,u,J):=s.ld;exact#[h,s.kd.kt fr.kt,s.ok,s.k3,s.lx,s.un,e s.ln C I,e s.lc B G,e s.lp A E,#[j,e u y D,J.go (λb g z h=>e h (iq z).2.1 (iq z).1) fr.kt],s.dl,q,r,o,mo,w,s.tn,fr.ff,s.nf,s.ng,s.nd,s.na,s.bb]
theorem iw.Lp (a:iw K H f S kl ys dvs p)(fr:bS [d,S.lg,S.la] f H H')(J:H S.la=some (.dK kvs))(hd:H d=some (.dK E)):iw K H' f S kl ys dvs p:=by
 have(u,D,C,k,y,i,L,v,w,ok,kd,e,A,I,G,(N,o),t,g,B):=a;have m:∀{b j},H b=some (.lst j)->b≠S.lg->b≠f->H' b=some (.lst j):=λh n g=>bS.get3 (M:=[]) fr (cI h hd nofun) n (cI h J nofun) g h
 have(r,l,hr):=e.aa;exact#[u,D,C,k,y,i,L,v.kt fr.kt,w.kt fr.kt,ok,kd,#[#[r,m l e.ng e.nf,hr.kt fr.kt],e.nf,e.ng,e.na,e.pk,e.pl],A,I,m G g t,#[N.go (λb j z h=>m h (iq (λq=>z (.tail _ q))).2.1 (iq (λq=>z (.tail _ q))).1) fr.kt,o],t,g,B]
theorem iw.mo (a:iw K H f S kl ys dvs p)(m:Int):iw K H f {S with mo:=m} kl ys dvs p:=by
 have(g,t,q,k,o,i,u,j,l,ok,kd,e,r):=a;exact#[g,t,q,k,o,i,u,j,l,ok,kd,#[e.aa,e.nf,e.ng,e.na,e.pk,e.pl],r]
structure uD(H0 H:Hp) (d:Addr) (S:fu) (g0:List Int) (m:Int) (gs:List Int):Prop where
 sd:H d=some (.dK (jc {S with mo:=m}))
 lg:H S.lg=some (.lst (gs.map V.int))
 la:∃kvs,H S.la=some (.dK kvs)/\(kvs.length<=gs.length/\∀kv∈kvs,∃n∈gs,kv.1=Sum.inl n)/\∀n∈g0,∀kv0 v,H0 S.la=some (.dK kv0)->eF kv0 (Sum.inl n)=some v->eF kvs (Sum.inl n)=some v
 mm:(gs.length:Int)<=m
 mo:m<=14
 gn:∀(k:Nat) (n:Int),gs[k]?=some n->n=uz S.tn k
 sub:∀n∈g0,n∈gs
theorem FS.cur (fs:FS K H f d S xs kl dl dvs g0 gs):uD H H d S g0 S.mo gs:=by
 have(e,g,l):=fs.sc.la;exact#[fs.sc.sd,fs.sc.lg,#[e,g,l,λn q j v o m=>by have:=o.symm.trans g;injection this with this;injection this with this;rw[<-this];exact m],fs.sc.mm,fs.sc.mo,fs.sc.gn,fs.sub]
theorem FS.at_ (fs:FS K H f d S xs kl dl dvs g0 gs)(fr:bS [d,S.lg,S.la] f H H')(c:uD H H' d S g0 m gs'):FS K H' f d {S with mo:=m} xs kl dl dvs g0 gs':=by
 have(e,o,v,u):=c.la;have(t,j,_):=fs.sc.la;refine#[fs.sc.back fr c.sd c.lg #[e,o,v] c.mm c.mo c.gn,?_,c.sub,λn l=>?_,fs.kb,fs.pb,fs.ex]
 .exact bS.get3 (M:=[]) fr (cI fs.hd fs.sc.sd nofun) fs.sc.ng.2.2.2 (cI fs.hd j nofun) fs.sc.nf.2.2.2.2.1 fs.hd
 .have(g,r,q,y,w):=fs.as n l;exact#[e,r,o,u n l g _ q y,(w.Lp fr q fs.sc.sd).mo m]
theorem uD.trans (a:uD q H d S g0 m gs)(b:uD H H' d {S with mo:=m} g0 l gs'):uD q H' d S g0 l gs':=by
 have(g,y,B,w):=a.la;have(e,u,t,r):=b.la;exact#[b.sd,b.lg,#[e,u,t,λn o j v A z=>r n o g v y (w n o j v A z)],b.mm,b.mo,b.gn,b.sub]
theorem uD.go (a:uD g H d S g0 m gs)(h:∀b o,b=d\/b=S.lg\/b=S.la->H b=some o->H' b=some o):uD g H' d S g0 m gs:=by
 have(e,l,j):=a.la;exact#[h _ _ (.inl rfl) a.sd,h _ _ (.inr (.inl rfl)) a.lg,#[e,h _ _ (.inr (.inr rfl)) l,j],a.mm,a.mo,a.gn,a.sub]
theorem uD.ext (a:uD e H d S g0 m gs)(x:Ext f H H')(n:d≠f/\S.lg≠f/\S.la≠f):uD e H' d S g0 m gs:=a.go λb o g h=>x.1 _ _ (by rcases g with rfl|rfl|rfl;exact n.1;exact n.2.1;exact n.2.2) h
theorem uD.same (a:uD e H d S g0 m gs)(s:aF H H'):uD e H' d S g0 m gs:=a.go λb o _ h=>s _ _ h
theorem uD.put (a:uD e H d S g0 m gs)(n:q≠d/\q≠S.lg/\q≠S.la):uD e (upd H q o) d S g0 m gs:=a.go λb o g h=>by rw[ay (by rcases g with rfl|rfl|rfl;exact n.1.symm;exact n.2.1.symm;exact n.2.2.symm)];exact h
def vz(K:bA):Sp:=λt H Q _=>∃(f d:Addr) (n e more:Int) (S:fu) (r:List Str) (u:Kl) (w:List (Str×List Kk×Kk)) (q:List V) (p o:List Int),t=[.ref f,.ref d,.int n,.int e,.int more]/\FS K H f d S r u w q p o/\n∈p/\0<=e/\e<=1000/\0<=more/\more<=1/\(o.length:Int)+more<=14 /\
 ∀(v:V) (j:Hp) (g:Tm) (l:List Int) (m:Int),bS [d,S.lg,S.la] f H j->uD H j d S p m (o++l)->Rp K j (enc g) v->Tok g->g.size<=12->((lK g).Sublist l\/lK g=[n])->(l.length:Int)<=more->Q v j
theorem aV :Nm VH (ak i8):=by decide
theorem eM :Lm VH (ak i8):=by decide
theorem dU :aK VH V6 (ak i8):=#[rfl,rfl,rfl,by decide,rfl,by decide,by decide]
theorem zZ (h1:3<=j)(h2:jn<=j)(F:ic K "_law_filling" "_law_filling" i8 f fd)(ca:dH P w K mg base "parts" 3 Wi (nV K) gS sfd)(TE:dH P w K mg base "_law_term" j Vt (pA K 4) gE efd)(NU:dH P w K mg base "_law_number" jn WO qk gN nfd)(z_len:mg "len"=none)(T:mg "int"=none):bH P w K mg base eZ (j+1) f fd V6 (vz K):=by
 refine F.ok dU (λvs H Q E h=>?_) (λc0 A bf s H vs Q E hr h=>?_)
 .have(_,_,_,_,_,_,_,_,_,_,_,_,rfl,_):=h;rfl
 have(N,d,n,ag,more,S,xs,kl,dl,cz,g0,gs,rfl,fs,hn,ch,cg,cn,cm,ct,k):=h;refine#[_,(Z5 (Zp (@Ao _ _ _ _ _ _ (mK hr) (Zh (va aV 1)) (va aV 2) (λ_ _=>rfl)) (@iS _ _ _ _ _ (3) K rfl rfl (Zi (ga dU.nd eM 5) (Zi (ga dU.nd eM 6) (aJ (ga dU.nd eM 7) aX))) (by rfl) (by rfl))) (Z5 (Z2 dU.nd eM 8 (Zh (va aV 1))) (Z5 (j6 (mK hr) (va aV 1) aB (va aV 7) (by rfl)) (Z5 (@j6 _ _ _ _ _ _ _ _ _ (mK hr) (va aV 1) aB (Zm cK (Z4 (Z1 (Zh (va aV 1)) ao)) (va aV 4)) (by rfl)) (Z5 (Z2 dU.nd eM 9 (Z0 TE (Z1 (va aV 0) (Z1 (va aV 1) (Z1 (va aV 6) (Z1 (va aV 5) (cZ (va aV 3) (Za aq)))))))) (Z5 (Zd (Zj mH (Z4 (Z1 (Z0 ca (Za (va aV 9))) ao)) aq) (Z5 (Z2 dU.nd eM 9 (Zl aN (@bh _ _ _ _ (Z1 (Zg (Z1 aB (Z1 (Z0 NU (Za (va aV 0))) ao))) (Z1 (Zg (Z1 aB (Za (eu ao)))) ao))) (Z6 kJ T O4 (Z1 (@pK _ _ _ _ _ _ _ _ bR (Z9 jJ (va aV 5)) aB (sA _)) ao)))) (Ze (Zd (Zj bR (Z9 jJ (va aV 5)) aB) (Ze (Z2 dU.nd eM 9 (Zg (Z1 aB (Za (va aV 2)))))))))) (Z5 (j6 (mK hr) (va aV 1) aB (va aV 8) (by rfl)) (Ze (cH (va aV 9)))))))))),?_]
 right
 right
 have e:=fs.sc;have(bk,pa,X,bn,b9):=fs.as n hn;have(ex,B):=fs.ex;have(vk,la,ld,kk,ps,i,dk,sq,rk,ok,co,ar,pl,hi,hl,(df,b7),n1,n2,n3,_):=b9;have cw:=e.get (A1 S)
 have cs:ni H S.la (.int n) (some (.ref pa)):=by
  have:=ni.k (k:=(Sum.inl n:Key)) X;rw[bn]at this;exact this
 have cv:=e.get (wF S);have cu:=e.get (tT S);have cr:=e.lg;have n0:=e.nf.1;have aw:{S with ld:=ld}.ex=[(ky "opens",ex)]:=B;have sl:(jc S).length=10:=by unfold jc;rw[B];rfl
 have a5:(jc {S with ld:=ld}).length=10:=by unfold jc;rw[B];rfl
 obtain⟨m,em⟩:∃m:Int,m=((gs.map V.int).length:Int)+more:=#[_,rfl]
 obtain⟨O,ck,f1,Z⟩:∃O,lT H d (.str "defs") (.ref ld) O/\bS [d] N H O/\O d=some (.dK (jc {S with ld:=ld})):=by
  refine#[upd H d (.dK (jc {S with ld:=ld})),?_,(bS.refl e.ff).um (.head _) n0 e.sd,af];rw[<-yJ B ld];exact lT.k (k:=ky "defs") e.sd (by rw[sl];exact bD ())
 have an:=f1.gu (cI e.lg e.sd nofun) e.nf.2.2.2.2.2.1 e.lg
 have ce:ni O d (.str "gaps") (some (.ref S.lg)):=by
  have:=ni.k (k:=ky "gaps") Z;rw[tT]at this;exact this
 have cd:bu K O S.lg (gs.map V.int)\/bQ K O S.lg (gs.map V.int):=.inl (bu.of an)
 obtain⟨H2,cj,f2,bx⟩:∃H2,lT O d (.str "most") (.int (((gs.map V.int).length:Int)+more)) H2/\bS [d] N H H2/\H2 d=some (.dK (jc {S with ld:=ld,mo:=m})):=by
  refine#[upd O d (.dK (jc {S with ld:=ld,mo:=m})),?_,f1.um (.head _) n0 Z,af];rw[<-em,<-D6 aw m];exact lT.k (k:=ky "most") Z (by rw[a5];exact bD ())
 rw[bC]at em;have a6:=e.sub f2 bx hl df b7 n1 n2 n3 () ();have a0:∀{b ws},H b=some (.lst ws)->b≠N->H2 b=some (.lst ws):=λh n=>f2.gu (cI h e.sd nofun) n h
 obtain⟨D,eS⟩:∃D:fu,D={S with ld:=ld,mo:=m,kb:=17,pb:=32}:=#[_,rfl];rw[<-eS]at a6;have eg:D.lg=S.lg/\D.la=S.la/\D.kb=17/\D.pb=32/\D.mo=m/\D.tn=S.tn:=by rw[eS];exact#[rfl,rfl,rfl,rfl,rfl,rfl]
 have(e1,e2,e3,e4,e5,e6):=eg
 have c1:yE K H2 N D kl la ps:=by
  have(b8,b0,hr):=ar.aa;exact#[#[b8,a0 b0 ar.nf,hr.kt f2.kt],ar.nf,by rw[e1];exact ar.ng,by rw[e2];exact ar.na,ar.pk,ar.pl]
 have a9:=rk.kt f2.kt;have cp:kk.dep+4<=D.kb:=by have:=fs.kb;omega
 have cf:-1<=ag:=()
 have cl:ps.length+2*4<=D.pb:=by have:=fs.pb;omega
 ext;intro v3 H3 tm cx f3 q r3 G d3;have a8:=a9.kt f3.kt;have w3:=G.tk.wf;have cy:=d3.few G.tk ();ext;intro p4 H4 U s4 cq h4 bc;have cc:bu K H4 p4 U\/bQ K H4 p4 U:=.inl (bu.of h4);have l4:=bc.length;rw[bC,Tm.cX]at l4;have x4:Ext N H3 H4:=(Ext.refl q.ff).same s4;have(L,mr,u,mk,i1,i2,i3,i4,i5,_):=G.g;rw[e1]at i1;rw[e2]at i4 i5;have eg:L=gs:=jV (by have:=i1.symm.trans (a0 e.lg e.nf.2.2.2.2.2.1);injection this with this;injection this);subst eg;have ek:u=bk:=by have:=i4.symm.trans (f2.gu e.na.symm e.nf.2.2.2.2.2.2 X);injection this with this;injection this
 subst ek;subst i2;have aj:=q.mm;rw[e5,j3]at aj
 have M:∀(v6:V) (p:Hp) (l:Tm),Ext N H3 p->Rp K p (enc l) v6->Tok l->l.size<=12->((lK l).Sublist mr\/lK l=[n])->∃H7,lT p d (.str "defs") (.ref S.ld) H7/\Q v6 H7:=λv6 p l x6 r6 a3 z6 g6=>by
  have av:{S with ld:=ld,mo:=m}.ex=[(ky "opens",ex)]:=B;have a4:(jc {S with ld:=ld,mo:=m}).length=10:=by unfold jc;rw[B];rfl
  have bw:H3 d=some (.dK (jc {S with ld:=ld,mo:=m})):=by rw[q.sd,eS];rfl
  have Y:=x6.1 _ _ n0 bw;refine#[upd p d (.dK (jc {S with mo:=m})),?_,?_]
  .have pe:putK (jc {S with ld:=ld,mo:=m}) (ky "defs") (.ref S.ld)=jc {S with mo:=m}:=yJ av S.ld;rw[<-pe];exact lT.k (k:=ky "defs") Y (by rw[a4];exact bD ())
  have b5:bS [d,S.lg,S.la] N H H3:=(f2.sub (λz hz=>by rw[pD.mp hz];exact .head _)).trans (by rw[e1,e2]at f3;exact f3.more);have b4:=(b5.ext x6).um (o:=.dK (jc {S with mo:=m})) (.head _) n0 Y;have au:=x6.1 _ _ e.nf.2.2.2.2.2.2 i5;have ap:upd p d (.dK (jc {S with mo:=m})) S.la=some (.dK (u++mk)):=by rw[ay e.na.symm];exact au
  have R:=q.lg;rw[e1]at R;have am:upd p d (.dK (jc {S with mo:=m})) S.lg=some (.lst ((L++mr).map V.int)):=by rw[ay (cI e.lg e.sd nofun)];exact x6.1 _ _ e.nf.2.2.2.2.2.1 R
  have bj:(u++mk).length<=(L++mr).length/\∀kv∈u++mk,∃n∈L++mr,kv.1=Sum.inl n:=by
   have(kq,v,bo):=q.la;rw[e2,i5]at v;have:kq=u++mk:=by injection v with v;injection v with v;exact v.symm
   subst this;exact bo
  have az:=q.gn;rw[e6]at az;have bm:Kt p (upd p d (.dK (jc {S with mo:=m}))):=((bS.refl x6.2:bS [d] N p p).um (.head _) n0 Y).kt;refine k v6 _ l mr m b4 #[af,am,#[_,ap,bj,λn' al bl v' a1 a2=>?_],by rw[j3];exact aj,(),az,λn' al=>M8 _ (fs.sub n' al)] (r6.kt bm) a3 z6 g6 ();have:bl=u:=by have:=a1.symm.trans X;injection this with this;injection this
  subst this;exact D7 a2
 ext;refine cM (λc=>?_) (λc=>?_)
 .have bv:=x4.2;ext;intro nn H5 bi bg x5;have a7:=(a8.same s4).kt (x5.kt bv);ext;intro r bs;have s6:=ae bs (.tup [.str "num",.int nn]);have r6:Rp K (upd H5 r (.tup [.str "num",.int nn])) (enc (.mk (.num nn) [])) (.ref r):=by rw[cY];exact Rp.t (bQ.of af) (.cons .s (.one .i))
  generalize upd H5 r (.tup [.str "num",.int nn])=p at s6 r6|-;ext;intro p7 br;have s7:=ae br (.tup []);have r7:Rp K (upd p p7 (.tup [])) (.t []) (.ref p7):=Rp.t (bQ.of af) .nil;generalize upd p p7 (.tup [])=H7 at s7 r7|-;ext;intro C bq;have s8:=ae bq (.tup [.str "row",.ref p7]);have r8:Rp K (upd H7 C (.tup [.str "row",.ref p7])) (enc (.mk .row [])) (.ref C):=by rw[cY];exact Rp.t (bQ.of af) (.cons .s (.one (r7.same s8)))
  generalize upd H7 C (.tup [.str "row",.ref p7])=H8 at s8 r8|-;ext;intro p9 bp;have s9:=ae bp (.lst [.ref r,.ref C]);have h9:upd H8 p9 (.lst [.ref r,.ref C]) p9=some (.lst [.ref r,.ref C]):=af;generalize upd H8 p9 (.lst [.ref r,.ref C])=H9 at s9 h9|-;have ac:=(s6.trans s7).trans (s8.trans s9);have x9:Ext N H3 H9:=(x4.trans x5).same ac;have I:=a7.same ac;have bb:=r6.same ((s7.trans s8).trans s9);have ba:=r8.same s9;have b3:lK (.mk (.num nn) [])=[]:=by rw[jR rfl];rfl
  have b2:lK (.mk .row [])=[]:=by rw[jR rfl];rfl
  ext;refine jS I ?_;ext
  cases kk with
  |num =>
   rw[show decide (V.str (kw Kk.num)=V.str (MI "row"))=false from rfl];refine .inr #[_,rfl,?_];have ax:jZ [V.ref r,.ref C] 0=some (.ref r):=bz (j:=0) rfl;ext;refine jS I ?_;have(ab,ai,W):=M (.ref r) H9 (.mk (.num nn) []) x9 bb (.mk rfl (MP _) (λk hk=>nomatch hk) #[bi,bg]) (O5 rfl) (.inl (by rw[b3];exact Rb _))
   ext;exact W
  |kd y =>
   rw[show decide (V.str (kw (Kk.kd y))=V.str (MI "row"))=false from rfl];refine .inr #[_,rfl,?_];have ax:jZ [V.ref r,.ref C] 0=some (.ref r):=bz (j:=0) rfl;ext;refine jS I ?_;ext;intro J ak;have ad:=ae ak (.tup [.str "gap",.int n]);have ah:Rp K (upd H9 J (.tup [.str "gap",.int n])) (enc (.mk (.gap n) [])) (.ref J):=by rw[cY];exact Rp.t (bQ.of af) (.cons .s (.one .i))
   generalize upd H9 J (.tup [.str "gap",.int n])=ab at ad ah|-
   have b1:0<=n/\n<1000:=by
    have(i0,bt,b6):=List.mem_iff_getElem.mp (fs.sub n hn);have:=e.gn i0 n (by rw[my bt,b6]);unfold uz at this
    split at this<;>omega
   have(c2,cb,be):=M (.ref J) ab (.mk (.gap n) []) (x9.same ad) ah (.mk rfl (MP _) (λk hk=>nomatch hk) b1) (O5 rfl) (.inr rfl)
   ext;exact be
  |row y =>
   rw[show decide (V.str (kw (Kk.row y))=V.str (MI "row"))=true from rfl];refine .inr #[_,rfl,?_];have ax:jZ [V.ref r,.ref C] 1=some (.ref C):=bz (j:=1) rfl;ext;refine jS I ?_;have(ab,ai,W):=M (.ref C) H9 (.mk .row []) x9 ba (.mk rfl (MP _) (λk hk=>nomatch hk)) (O5 rfl) (.inl (by rw[b2];exact Rb _))
   ext;exact W
  |op y=>exact absurd ok id
 .have c':¬(12:Int)<(U.length:Int):=λz=>c (decide_eq_true z);have(H7,ci,q7):=M v3 H4 tm x4 (r3.same s4) G.tk () (.inl i3);ext;exact q7
end G34
namespace L2
open PySem PySem.Spec PyProof.Rows
end L2
namespace G34
open PySem L2
theorem D8 (xs:List d)(y:d):jZ (xs++[y]) (-1)=some y:=by
 unfold jZ Ak;rw[if_neg (by decide),if_pos (by rw[j3];simp;omega),OG,show(-1+(((xs++[y]).length:Nat):Int)).toNat=xs.length by rw[j3];simp;omega];simp
def A5(K:bA):Sp:=λm H Q _=>∃(f g:Addr) (n:Int) (l:V) (k:Kk) (fs:List Int),m=[.ref f,.int n,l,.ref g]/\cg H f/\Rp K H (cu k) l/\H g=some (.lst (fs.map V.int))/\g≠f/\fs.length<=3 /\
 ∀(v:V) (j:Hp) (e:Kk) (d:List Int),bS [g] f H j->j g=some (.lst (d.map V.int))->Rp K j (kH cu (n,e)) v->(d=fs/\(e=k\/e=.row k\/e=.op n)\/d=fs++[60+(fs.length:Int)]/\(e=.op (60+(fs.length:Int))\/e=.row (.op (60+(fs.length:Int)))))->Q v j
theorem aM :Nm Wa (ak eB):=by decide
theorem qo :Lm Wa (ak eB):=by decide
theorem kj :aK Wa Wo (ak eB):=#[rfl,rfl,rfl,by decide,rfl,by decide,by decide]
theorem D9 (F:ic K "_law_open_filling" "_law_open_filling" eB f fd)(TK:dH P w K mg base "_law_take" 1 Vy eK gT tfd)(z_len:mg "len"=none):bH P w K mg base eZ 2 f fd Wo (A5 K):=by
 refine F.ok kj (λvs H Q E h=>?_) (λaj A aa s H vs Q E hr h=>?_)
 .have(_,_,_,_,_,_,rfl,_):=h;rfl
 have(fe,J,n,B,L,fs,rfl,hf,rk,ac,R,ai,k):=h;refine#[_,(Z5 (Z2 kj.nd qo 4 (Z0 TK (cZ (va aM 0) (Za aq)))) (Z5 (Zd (Zq mY (va aM 4) aq) (Ze (Zo (Zg (Z1 (va aM 1) (Z1 (Zl aN (@bh _ _ _ _ (Z1 (va aM 2) (Z1 (Zg (Z1 aB (Za (va aM 2)))) ao))) (va aM 4)) ao)))))) (Z5 (Zd (Zq bR (va aM 4) aq) (Ze (Zo (Zg (Z1 (va aM 1) (Z1 (Zg (Z1 aB (Za (va aM 1)))) ao)))))) (Z5 (@cC _ _ _ _ (Z8 MN MO cQ (va aM 3) (Z1 (Zm cK aq (Z4 (Za (va aM 3)))) ao)) (by rfl)) (Ze (Zo (Zg (Z1 (va aM 1) (Z1 (Zl aN (@bh _ _ _ _ (Z1 (Zg (Z1 aB (Z1 (gm aN (va aM 3) (qM mX aq) (λ_ _=>rfl)) ao))) (Z1 (Zg (Z1 aB (Z1 (Zg (Z1 aB (Z1 (gm aN (va aM 3) (qM mX aq) (λ_ _=>rfl)) ao))) ao))) ao))) (aS bK (va aM 4) aq)) ao))))))))),?_]
 right
 right
 have ag:bS [J] fe H H:=bS.refl hf;refine lB ?_;intro N1 N2 N3 N4 c1 c2 c3 c4;ext;intro y M m0 m1 Z;have f1:=ag.ext Z;have O:=rk.kt (Z.kt hf);have h1:=Z.1 _ _ R ac
 have Y:∀(v2:V) (l:Hp) (e:Kk),aF M l->Rp K l (cu e) v2->(e=L\/e=.row L\/e=.op n)->∀p,l p=none->Q (.ref p) (upd l p (.tup [.int n,v2])):=λv2 l e D r2 W p hp =>
  k _ _ e fs (f1.same (D.trans (ae hp _))) ((D.trans (ae hp _)) _ _ h1) (Rp.new (K:=K) (xs:=[.i n,cu e]) hp (.cons .i (.one r2))) (.inl #[rfl,W])
 ext;refine cM (λc=>?_) (λc=>?_)
 .have c':y<2:=of_decide_eq_true c;ext;intro r q;have D:=ae q (.tup [.str "row",B]);have r2:=Rp.new (K:=K) (xs:=[.s "row",cu L]) q (.cons .s (.one O));generalize upd M r (.tup [.str "row",B])=l at D r2|-;ext;intro m v;have C:=ae v (.lst [B,.ref r]);have h3:upd l m (.lst [B,.ref r]) m=some (.lst [B,.ref r]):=af;generalize upd l m (.lst [B,.ref r])=H3 at C h3|-;have N:=D.trans C
  obtain⟨u,hu,e,ru,W⟩:∃u,jZ [B,.ref r] y=some u/\∃e,Rp K H3 (cu e) u/\(e=L\/e=.row L\/e=.op n):=by
   rcases(show y=0\/y=1 by omega)with rfl|rfl
   .exact#[B,bz (j:=0) rfl,L,O.same N,.inl rfl]
   .exact#[.ref r,bz (j:=1) rfl,.row L,r2.same C,.inr (.inl rfl)]
  ext;exact Y u H3 e N ru W
 have c':¬y<2:=λz=>c (decide_eq_true z);ext;refine cM (λd=>?_) (λd=>?_)
 .ext;intro r q;have D:=ae q (.tup [.str "open",.int n]);have r2:=Rp.new (K:=K) (xs:=[.s "open",.i n]) q (.cons .s (.one .i));generalize upd M r (.tup [.str "open",.int n])=l at D r2|-;ext;exact Y (.ref r) l (.op n) D r2 (.inr (.inr rfl))
 have d':y≠2:=λz=>d (decide_eq_true (by rw[z]));have ah:bu K M J (fs.map V.int)\/bQ K M J (fs.map V.int):=.inl (bu.of h1);have hz:(fs.map V.int).length<mC:=bD (by rw[bC];omega);have f2:=f1.upd (o:=.lst (fs.map V.int++[.int (60+((fs.map V.int).length:Int))])) (.head _) R h1;have X:upd M J (.lst (fs.map V.int++[.int (60+((fs.map V.int).length:Int))])) J=some (.lst (fs.map V.int++[.int (60+((fs.map V.int).length:Int))])):=af;have al:jZ (fs.map V.int++[V.int (60+((fs.map V.int).length:Int))]) (-1)=some (.int (60+((fs.map V.int).length:Int))):=D8 _ _;ext;generalize upd M J (.lst (fs.map V.int++[.int (60+((fs.map V.int).length:Int))]))=l at f2 X|-;rw[bC]at al X|-;generalize hg:60+(fs.length:Int)=g at al X|-;have ad:l J=some (.lst ((fs++[g]).map V.int)):=by rw[m3];exact X
 intro m v;have C:=ae v (.tup [.str "open",.int g]);have r3:=Rp.new (K:=K) (xs:=[.s "open",.i g]) v (.cons .s (.one .i));generalize upd l m (.tup [.str "open",.int g])=H3 at C r3|-;have h3:=C _ _ X;ext;intro p4 U;have s4:=ae U (.tup [.str "open",.int g]);have r4:=Rp.new (K:=K) (xs:=[.s "open",.i g]) U (.cons .s (.one .i));generalize upd H3 p4 (.tup [.str "open",.int g])=H4 at s4 r4|-;ext;intro I T;have s5:=ae T (.tup [.str "row",.ref p4]);have r5:=Rp.new (K:=K) (xs:=[.s "row",.t [.s "open",.i g]]) T (.cons .s (.one r4));generalize upd H4 I (.tup [.str "row",.ref p4])=H5 at s5 r5|-;ext;intro p6 ab;have s6:=ae ab (.lst [.ref m,.ref I]);have h6:upd H5 p6 (.lst [.ref m,.ref I]) p6=some (.lst [.ref m,.ref I]):=af;generalize upd H5 p6 (.lst [.ref m,.ref I])=H6 at s6 h6|-;have G:=(s4.trans s5).trans s6
 obtain⟨u,hu,e,ru,W⟩:∃u,jZ [.ref m,.ref I] (y-3)=some u/\∃e,Rp K H6 (cu e) u/\(e=.op g\/e=.row (.op g)):=by
  rcases(show y=3\/y=4 by omega)with rfl|rfl
  .exact#[.ref m,bz (j:=0) rfl,.op g,r3.same G,.inl rfl]
  .exact#[.ref I,bz (j:=1) rfl,.row (.op g),r5.same s6,.inr rfl]
 ext;intro p7 S;have s7:=ae S (.tup [.int n,u]);refine k _ _ e (fs++[g]) (f2.same ((C.trans G).trans s7)) (((C.trans G).trans s7) _ _ ad) (Rp.new (K:=K) (xs:=[.i n,cu e]) S (.cons .i (.one ru))) (.inr ?_);rw[hg];exact#[rfl,W]
end G34
namespace L2
open PySem PySem.Spec PyProof.Rows
def Lq(d:Obj)(e:Array P0)(g:Nat)(h:Heap)(l:Addr):Prop:=h.get? l=some d/\d.ExactDict/\d.data=.dict e g/\(l == Og)=false
def Lr(d:Array P0)(e:Nat)(h:Heap)(i l:Addr)(k:Nat):Prop:=h.IsKeyIter i l k d.size e
theorem Lq.at (x:Lq ob es ep h l)(k:∀o,h.get? l=some o->h'.get? l=some o):Lq ob es ep h' l:=#[k _ x.1,x.2]
theorem Lr.at (x:Lr es ep h i l n)(k:∀o,h.get? i=some o->h'.get? i=some o):Lr es ep h' i l n:=by
 have(o,e,r):=x;exact#[o,k o e,r]
theorem KV.get (r:KV kvs d):∀{i:Nat}{e:Key×V},kvs[i]?=some e->∃u,d[i]?=some (e.1,u)/\RelV e.2 u:=by
 induction r with
 |nil=>intro i e h;simp at h
 |@cons a b l1 l2 q t ih =>
  intro i e h
  cases i with
  |zero =>
   simp only[Tf,QV]at h;subst h;refine#[b.2,?_,q.2];simp only[Tf,QV];exact Prod.ext q.1.symm rfl
  |succ n=>exact ih (by simpa using h)
end L2
namespace G34
open PySem L2
theorem B9 {d:Tm}(D:aF H m)(P:m p=some (.lst o))(I:bN K m (d.parts.map enc) o)(M:d.size<=900)(k:∀(p:Addr) (B:Hp),aF H B->H p=none->B p=some (.lst ((d.parts.filterMap dS).map V.int))->Q (.ref p) B):
  j7 (EA K p) (iJ 0) (Gk (Cy LA (Cy (Bk K) (mV 0) (tC (.int 0))) (tC (.str "gap")))) (Cy (Bk K) (mV 0) (tC (.int 1))) Q [none] m:=by
 have l1:=I.length;rw[bC,Tm.cX]at l1;refine fS (xs:=o) (λi g j l=>(∃x,g=[x])/\l=m/\j=((d.parts.take i).filterMap dS).map V.int) #[#[none,rfl],rfl,rfl] ?_ (small ()) ?_ ?_ ?_
 .rintro i g j l hi ⟨_,_,rfl⟩;rw[bC];exact FA (NL _ _) (by rw[we];omega)
 .rintro i g j l hi ⟨_,rfl,_⟩;exact bu.of P
 .rintro i x g j l hx ⟨⟨Y,rfl⟩,rfl,rfl⟩;have(y,J,E):=I.get' hx;rw[rj]at J;have(pt,L,rfl):=ur.mp J;have v:i<d.parts.length:=(ko.mp L).1;have U:d.parts[i]=pt:=(ko.mp L).2;have(rest,A):=vd pt;rw[A]at E;have(G,N,rfl,C,O):=E.bq;have(Z,q1,rfl,S,u):=O.inv;obtain rfl:=S.bj;refine#[_,rfl,G,_,0,_,rfl,rfl,C,Bw _ _,rfl,_,rfl,?_];rw[EF v,O2,m3,U];rw[AB pt]
  cases e:dS pt with
  |none =>
   refine oU rfl #[#[_,rfl],rfl,?_];simp[e]
  |some n =>
   refine xX rfl ?_
   cases pt with
   |mk hh ks =>
   have X:hh=.gap n:=by
    cases hh<;>simp[dS]at e
    rw[e]
   subst X;rw[cY]at A
   have w:rest=[.i n]:=by
    have z:T.t [.s "gap",.i n]=T.t (.s (hdS (Hd.gap n))::rest):=A;injection z with z;injection z with _ z;exact z.symm
   subst w;have(t2,q2,rfl,R,r):=u.inv;obtain rfl:=r.iE;obtain rfl:=R.di;refine#[_,rfl,G,_,1,_,rfl,rfl,C,rfl,#[_,rfl],rfl,?_];simp[e]
 .rintro g j l ⟨_,rfl,rfl⟩ q hq;rw[l1,<-Tm.cX,MS];exact k q _ (D.trans (ae hq _)) (D.free hq) af
def qp(K:bA)(n:Nat):Sp:=λe H Q _=>∃(v:V) (k:Kk),e=[v]/\Rp K H (cu k) v/\k.dep<n/\∀l d,aF H d->H l=none->d l=some (.lst (k.qw.toList.map V.int))->Q (.ref l) d
def rY(K:bA):Sp:=λj H Q _=>∃(v:V) (kt:T) (e:List (Str×List (Str×Kk)×Tm)),j=[v]/\Rp K H (oH kt e) v/\rm e/\(∀d∈e,∀p∈d.2.1,p.2.dep<=100) /\
 ∀(p l1 l2:Addr) (g:Hp),aF H g->H l1=none->H l2=none->l1≠l2->g p=some (.tup [.ref l1,.ref l2])->g l1=some (.lst ((bf e).map V.int))->g l2=some (.lst ((bI e).map V.int))->Q (.ref p) g
theorem Ca :Nm WB (ak nu):=by decide
theorem Cb :aK WB WB (ak nu):=#[rfl,rfl,rfl,by decide,rfl,by decide,by decide]
theorem Ea (F:ic K "_law_gaps" "_law_gaps" nu f j)(g:dH P w K mg base "parts" 3 Wi (nV K) gP pfd):bH P w K mg base eZ 4 f j WB (qb K):=by
 refine F.ok Cb (λl H Q E h=>?_) (λu A e s H l Q E hr h=>?_)
 .have(v,m,rfl,_):=h;rfl
 have(v,m,rfl,z,wf,d,k):=h;have r:=IW.of d;refine#[_,(Ze (Zo (@gy _ _ _ _ _ _ _ _ _ _ _ (ak nu) WB Wv [] rfl rfl rfl (by decide) (@cJ _ _ _ _ (Z0 g (Za (va Ca 0)))) (λ_ _ _ _=>(Z3 (i:=0) (show(Wv:List Str).Nodup by decide))) (λ_ _ _ _=>(@fE _ _ _ (Zj bR (Z9 (gM K rfl) (va (show Nm Wv _ by left) 0)) aB))) (λ_ _ _ _=>(Z9 (gM K rfl) (va (show Nm Wv _ by left) 0))) (by intro _;rfl)))),?_]
 right
 right
 ext;intro p C y o B t q;ext;exact B9 o t q d k
theorem jW :Nm WE (ak kY):=by decide
theorem Aa :aK WE WE (ak kY):=#[rfl,rfl,rfl,by decide,rfl,by decide,by decide]
theorem Cc (Z:1<=j)(hn:n<=100)(F:ic K "_law_opens" "_law_opens" kY f R)(M:dH P w K mg base "_law_opens" j WE (qp K n) gO ofd)(o:mg "int"=none):
  bH P w K mg base eZ (j+1) f R WE (qp K (n+1)):=by
 refine F.ok Aa (λS H Q E h=>?_) (λX A D s H S Q E hr h=>?_)
 .have(_,_,rfl,_):=h;rfl
 have(v,G,rfl,B,hd,k):=h;refine#[_,(Z5 (Zd (Zq (vQ hr.xW) (va jW 0) aB) (Ze (cH (bh ao)))) (Z5 (Zd (Zj bR (Z9 aZ (va jW 0)) aB) (Ze (Zo (Z0 M (Z1 (Z9 aZ (va jW 0)) ao))))) (Ze (Zo (Zm Hq (@bh _ _ _ _ (Z1 (Z9 aZ (va jW 0)) ao)) (Z6 kJ o O4 (Z1 (@pK _ _ _ _ _ _ _ _ bR (Z9 aZ (va jW 0)) aB (sA _)) ao))))))),?_]
 right
 right
 have dp:(cu G).dep<=150:=FA (jy G) ();have Y:Rp K H (.s "num") (.str "num"):=.s;ext
 cases G with
 |num =>
  refine xX (decide_eq_true rfl) ?_;ext;intro l O;exact k _ _ (ae O _) O af
 |row j =>
  refine oU (decide_eq_false nofun) ?_;have(a,N,p,rfl,y,u,L):=(show Rp K H (.t [.s "row",cu j]) v from B).t2;obtain rfl:=u.bj;have U:j.dep<n:=Nat.lt_of_succ_lt_succ hd;ext;intro l3 H3 T I W;exact k _ _ T I W
 |kd x =>
  refine oU (decide_eq_false nofun) ?_;have(a,N,p,rfl,y,u,L):=(show Rp K H (.t [.s "kind",.s x]) v from B).t2;obtain rfl:=u.bj;ext;intro q r;have g:=ae r (.lst [p]);have J:upd H q (.lst [p]) q=some (.lst [p]):=af;generalize upd H q (.lst [p])=H1 at g J|-;have z:=y.same g;ext;refine .inr #[_,rfl,?_];ext;intro C d;have e:(MU (if decide (V.str "kind"=V.str "open")=true then 1 else 0:Int).toNat [p]).flatten=[]:=by rw[if_neg (by decide)];rfl
  exact k C _ (g.trans (ae d _)) (g.free d) (by rw[e];exact af)
 |op m =>
  refine oU (decide_eq_false nofun) ?_;have(a,N,p,rfl,y,u,L):=(show Rp K H (.t [.s "open",.i m]) v from B).t2;obtain rfl:=u.bj;obtain rfl:=L.di;ext;intro q r;have g:=ae r (.lst [V.int m]);have J:upd H q (.lst [V.int m]) q=some (.lst [V.int m]):=af;generalize upd H q (.lst [V.int m])=H1 at g J|-;have z:=y.same g;ext;refine .inr #[_,rfl,?_];ext;intro C d;have e:(MU (if decide (V.str "open"=V.str "open")=true then 1 else 0:Int).toNat [V.int m]).flatten=[V.int m]:=by rw[if_pos (by decide)];rfl
  exact k C _ (g.trans (ae d _)) (g.free d) (by rw[e];exact af)
theorem fL :Nm VR (ak kZ):=by decide
theorem gY :Lm VR (ak kZ):=by decide
theorem fN :aK VR WU (ak kZ):=#[rfl,rfl,rfl,by decide,rfl,by decide,by decide]
theorem Eb (F:ic K "_law_there" "_law_there" kZ f fd)(Z:dH P w K mg base "_law_gaps" 4 WB (qb K) gG gfd)(av:dH P w K mg base "_law_opens" 105 WE (qp K 101) gO ofd):
  bH P w K mg base eZ 106 f fd WU (rY K):=by
 refine F.ok fN (λvs H Q E h=>?_) (λbn A ai s H vs Q E hr h=>?_)
 .have(_,_,_,rfl,_):=h;rfl
 have(v,kt,g,rfl,rv,C,aj,k):=h;refine#[_,(Z5 (sa fN.nd gY 1 (bh ao)) (Z5 (sa fN.nd gY 2 (bh ao)) (Z5 (Zk (@dZ _ _ _ _ (Z9 aZ (va fL 0))) (@iS _ _ _ _ _ (3) K rfl rfl (Zi (ga fN.nd gY 3) (Zi (ga fN.nd gY 4) (aJ (ga fN.nd gY 5) aX))) (by rfl) (by rfl)) (Z5 (@cC _ _ _ _ (Z8 Oc Od jF (va fL 1) (Z1 (Z0 Z (Za (va fL 5))) ao)) (by rfl)) (Ze (Zk (dZ (va fL 4)) (Zb (Zi (ga fN.nd gY 6) (aJ (ga fN.nd gY 7) aX))) (Ze (@cC _ _ _ _ (Z8 Oc Od jF (va fL 2) (Z1 (Z0 av (Za (va fL 7))) ao)) (by rfl))))))) (Ze (Zo (Zg (Z1 (va fL 1) (Za (va fL 2))))))))),?_]
 right
 right
 refine pZ ?_;intro N1 N2 N3 c1 c2 c3;have(pa,v0,v1,rfl,ah,a3,ad):=(show Rp K H (.t [kt,.t (g.map vW)]) v from rv).t2;have(da,as,rfl,X,Y):=ad.bq;have L:=Y.length;rw[bC]at L;ext;intro l1 B;have s1:=ae B (.lst []);have h1:upd H l1 (.lst []) l1=some (.lst []):=af;generalize upd H l1 (.lst [])=H1 at s1 h1|-;ext;intro l2 z;have s2:=ae z (.lst []);have h2:upd H1 l2 (.lst []) l2=some (.lst []):=af;have y:l1≠l2:=au h1 z;have W:=s2 _ _ h1;generalize upd H1 l2 (.lst [])=H2 at s2 h2 W|-;have p:=s1.free z;have u:=s1.trans s2;have a0:=ah.same u;have a1:=X.same u;ext;refine nT (K:=K) (xs:=as) (λi o H3=>(∃o3 o4 o5 o6 o7,o=[some (.ref pa),some (.ref l1),some (.ref l2),o3,o4,o5,o6,o7])/\GI H l1 l2 (bf (g.take i)) (bI (g.take i)) H3) #[#[_,_,_,_,_,rfl],#[u,W,h2]] ?_ ?_ ?_
 .rintro i o H3 _ ⟨_,l⟩;exact X.same l.s
 .rintro i xv o H3 hx ⟨⟨_,_,_,_,_,rfl⟩,l⟩;have(tx,N,rx):=Y.get' hx;rw[rj]at N;have(d,hd,rfl):=ur.mp N;have O:=t9 hd;have(az,ac,a4):=C.2 d O;have(xa,x1,x2,x3,rfl,ab,e1,e2,e3):=(show Rp K H (.t [.s d.1,.t (d.2.1.map vV),enc d.2.2]) xv from rx).t3;obtain rfl:=e1.bj;have(qa,ag,rfl,G,I):=e2.bq;have ax:=ab.same l.s;have bm:=e3.same l.s;have g1:=l.h1;have a2:d.2.2.size<=900:=()
  ext;intro l4 H4 r bg h4;have bk:=r _ _ g1;have R:=(ko.mp hd).1;have S:=(ko.mp hd).2;have ap:=vX R S;have ar:=vY R S;have a6:=yh (C.take i);have a9:=C9 (C.take i);have a5:(d.2.2.parts.filterMap dS).length<=100:=FA (NL _ _) (by rw[Tm.cX];exact ac);have bb:((bf (g.take i)).map V.int).length+((d.2.2.parts.filterMap dS).map V.int).length<=mC:=small (by rw[bC,bC];omega);have s5:=(l.s.trans r).tw B (.lst ((bf (g.take i)).map V.int++(d.2.2.parts.filterMap dS).map V.int));have U:upd H4 l1 (.lst ((bf (g.take i)).map V.int++(d.2.2.parts.filterMap dS).map V.int)) l1=some (.lst ((bf (g.take (i+1))).map V.int)):=by rw[ap,m3];exact af
  have T:upd H4 l1 (.lst ((bf (g.take i)).map V.int++(d.2.2.parts.filterMap dS).map V.int)) l2=some (.lst ((bI (g.take i)).map V.int)):=by rw[ay y.symm];exact r _ _ l.h2
  have D:=G.same s5;ext;generalize upd H4 l1 (.lst ((bf (g.take i)).map V.int++(d.2.2.parts.filterMap dS).map V.int))=H5 at s5 U T D|-;have J:=I.length;rw[bC]at J;refine nT (K:=K) (xs:=ag) (λj o H6=>(∃o6 o7,o=[some (.ref pa),some (.ref l1),some (.ref l2),some (.str d.1),some (.ref qa),some x3,o6,o7])/\GI H l1 l2 (bf (g.take (i+1))) (bI (g.take i)++jz (d.2.1.take j)) H6) #[#[_,_,rfl],#[s5,U,by rw[OH];simpa[jz]using T]] ?_ ?_ ?_
  .rintro j o H6 _ ⟨_,m⟩;exact G.same m.s
  .rintro j yv o H6 hy ⟨⟨_,_,rfl⟩,m⟩;have(ty,M,ry):=I.get' hy;rw[rj]at M;have(q,hq,rfl):=ur.mp M;have ak:=t9 hq;have(ya,y1,y2,rfl,aa,f1,f2):=(show Rp K H (.t [.s q.1,cu q.2]) yv from ry).t2;obtain rfl:=f1.bj;have aw:=aa.same m.s;have bl:=f2.same m.s;have am:=m.h2;have bc:q.2.dep<101:=UU (aj d O q ak);ext;intro l7 H7 s7 be h7;have bi:=s7 _ _ am;have a7:(jz (d.2.1.take j)).length<=8:=FA (NL _ _) (by rw[we];omega);have a8:q.2.qw.toList.length<=1:=by cases q.2.qw<;>simp
   have ba:((bI (g.take i)++jz (d.2.1.take j)).map V.int).length+(q.2.qw.toList.map V.int).length<=mC:=small (by rw[bC,bC,j3];omega)
   have eo:jz (d.2.1.take (j+1))=jz (d.2.1.take j)++q.2.qw.toList:=by
    unfold jz;rw[fZ hq,O2]
    cases e:q.2.qw<;>simp[e]
   have an:GI H l1 l2 (bf (g.take (i+1))) (bI (g.take i)++jz (d.2.1.take (j+1))) (upd H7 l2 (.lst ((bI (g.take i)++jz (d.2.1.take j)).map V.int++q.2.qw.toList.map V.int))):=#[(m.s.trans s7).tw p _,by rw[ay y];exact s7 _ _ m.h1,by rw[af,eo,<-M6,m3 (l₁:=bI (g.take i)++jz (d.2.1.take j))]];ext;exact an
  .rintro o H6 ⟨⟨_,_,rfl⟩,m⟩;rw[J,MS,<-ar]at m;exact#[#[_,_,_,_,_,rfl],m]
 rintro o H3 ⟨⟨_,_,_,_,_,rfl⟩,l⟩;rw[L,MS]at l;ext;intro p4 al;have r:=ae al (.tup [.ref l1,.ref l2]);exact k p4 l1 l2 _ (l.s.trans r) B p y af (r _ _ l.h1) (r _ _ l.h2)
def Ls(ft:List (Int×Tm)):Prop:=ft.length<=4/\∀p∈ft,Tok p.2/\p.2.size<=12
def Lu(fk:List (Int×Kk)):Prop:=fk.length<=3/\∀p∈fk,p.2.dep<=2/\KWd p.2
def tV(K:bA):Sp:=λz H Q _=>∃(f d:Addr) (u:V) (S:fu) (y:List Str) (o:Kl) (B:List (Str×List Kk×Kk)) (r:List V) (e:List (Str×List (Str×Kk)×Tm)) (l:List (Int×Kk)) (q:List Int),z=[.ref f,u,.ref d]/\FS K H f d S y o B r (bf e) q/\Rp K H (oH (nL o) e) u/\rm e/\(∀d∈e,∀p∈d.2.1,p.2.dep<=100)/\oA K H S.x2 l/\rF (kn o) l/\bI e=l.map (·.1)/\(bf e).Nodup/\q.length<=10/\S.ex=[(ky "opens",.ref S.x2)]/\S.x2≠f/\S.x2≠S.lg /\
 ∀(p:Addr) (w v:V) (j:Hp) (ft:List (Int×Tm)) (fk:List (Int×Kk)) (m:Int) (g A:List Int),bS [d,S.lg,S.la] f H j->uD H j d S (bf e) m g->g.length<=q.length+4->j p=some (.tup [w,v])->Rp K j (.t (ft.map (kH enc))) w->Rp K j (.t (fk.map (kH cu))) v->Ls ft->Lu fk->B0 lK (bf e) g ft->(ft.map (·.1)).Nodup->B0 tS (bI e) A fk->(fk.map (·.1)).Nodup->Q (.ref p) j
structure L1(K:bA) (f d:Addr) (S:fu) (g0:List Int) (n0:Nat) (H:Hp) (lt lf lo:Addr) (gk:List V) (i:Nat) (H':Hp):Prop where
 x:∃(ft:List (Int×Tm)) (us:List V) (L:List Int) (m:Int) (gs:List Int),bS [d,S.lg,S.la] f H H'/\uD H H' d S g0 m gs/\gs.Nodup/\gs.length<=n0+i/\H' lt=some (.lst (L.map V.int))/\H' lf=some (.lst us)/\H' lo=some (.lst gk)/\bN K H' (ft.map (kH enc)) us/\ft.length=i/\L.length+i=g0.length/\(L.map id++ft.map (·.1)).Nodup/\(∀x∈L,x∈g0)/\B0 lK g0 gs ft/\∀p∈ft,Tok p.2/\p.2.size<=12
theorem qt (d:0<=i)(h:i.toNat<n):RX i n=some i.toNat:=by
 unfold RX;have e:¬i<0:=()
 have g:i<(n:Int):=()
 simp[e,d,g]
theorem vA {d e:Type}(f:d->e)(L:List d)(k:Nat):(L.map f).eraseIdx k=(L.eraseIdx k).map f:=by
 rw[NR,NR,m3,NS,Qy]
theorem Cd (k:Nat)(h:bN K H xs d):bN K H (xs.eraseIdx k) (d.eraseIdx k):=by
 rw[NR,NR];exact(h.take k).append (h.drop (k+1))
theorem GB (hn:n<=3)(l:Nat):((Nj n).map (nQ 4)++(Nj l).map (λj:Nat=>60+(j:Int))).Nodup:=by
 refine NZ.mpr #[?_,?_,λx g y d e=>?_]
 .rcases(show n=0\/n=1\/n=2\/n=3 by omega)with e|e|e|e<;>rw[e]<;>decide
 .exact Ur.map _ (λa b h e=>h ()) List.nodup_range
 .subst e;have(a,m,rfl):=NV.mp g;have(b,o,e):=NV.mp d;have:=QM.mp m;rw[show nQ 4 a=5*(a:Int)+2 from rfl]at e;omega
theorem Ce (d:rF ns m)(t:∀x∈ns,Wd x)(E:l<=3)(A:o∈m)(nn:o.1∉fk.map (·.1))(B:B0 tS (m.map (·.1)) (m.map (·.1)++(Nj l).map (λj:Nat=>60+(j:Int))) fk)(h:p=(Nj l).map (λj:Nat=>60+(j:Int))/\(g=o.2\/g=.row o.2\/g=.op o.1)\/p=(Nj l).map (λj:Nat=>60+(j:Int))++[60+(((Nj l).map (λj:Nat=>60+(j:Int))).length:Int)]/\(g=.op (60+(((Nj l).map (λj:Nat=>60+(j:Int))).length:Int))\/g=.row (.op (60+(((Nj l).map (λj:Nat=>60+(j:Int))).length:Int))))):∃v,v<=l+1/\p=(Nj v).map (λj:Nat=>60+(j:Int))/\B0 tS (m.map (·.1)) (m.map (·.1)++(Nj v).map (λj:Nat=>60+(j:Int))) (fk++[(o.1,g)])/\g.dep<=2/\KWd g:=by
 have(ok,H):=d.2.2 o A;have no:o.2.qw=none:=Kk.zY ok;have sub:∀x∈m.map (λo:Int×Kk=>o.1),x∈m.map (λo:Int×Kk=>o.1)++(Nj l).map (λj:Nat=>60+(j:Int)):=λx C=>M8 _ C;have r:o.1∈m.map (·.1):=Ni A;rcases h with⟨e,hk⟩|⟨e,hk⟩
 .have u:((m.map (λo:Int×Kk=>o.1)++(Nj l).map (λj:Nat=>60+(j:Int)))++[]).Nodup:=by
   rw[M5,d.2.1];exact GB d.1 l
  have w:(tS g).Sublist []\/tS g=[o.1]:=by
   rcases hk with rfl|rfl|rfl
   .exact .inl (by unfold tS;rw[no];exact .slnil)
   .exact .inl (by unfold tS;rw[show(Kk.row o.2).qw=o.2.qw from rfl,no];exact .slnil)
   .exact .inr rfl
  have q:=B.snoc r nn sub u w;rw[M5]at q;refine#[l,(),e,q,?_];have z:KWd o.2:=Kk.kwd t ok;rcases hk with rfl|rfl|rfl
  .exact#[(),z]
  .exact#[by show o.2.dep+1<=2;omega,z]
  .refine#[MP _,?_];rw[d.2.1]at r;have(a,G,e):=NV.mp r;have D:=QM.mp G;have l3:=d.1;rw[show nQ 4 a=5*(a:Int)+2 from rfl]at e;show 0<=o.1/\o.1<1000;omega
 .rw[bC,UW]at e hk;have y:(Nj (l+1)).map (λj:Nat=>60+(j:Int))=(Nj l).map (λj:Nat=>60+(j:Int))++[60+(l:Int)]:=by rw[List.range_succ,m3];rfl
  have u:((m.map (λo:Int×Kk=>o.1)++(Nj l).map (λj:Nat=>60+(j:Int)))++[60+(l:Int)]).Nodup:=by
   rw[M6,<-y,d.2.1];exact GB d.1 (l+1)
  have w:(tS g).Sublist [60+(l:Int)]\/tS g=[o.1]:=by
   rcases hk with rfl|rfl
   .exact .inl (QX _)
   .exact .inl (QX _)
  have q:=B.snoc r nn sub u w;rw[M6,<-y]at q;refine#[l+1,mu _,by rw[y];exact e,q,?_];rcases hk with rfl|rfl
  .exact#[MP _,by show 0<=60+(l:Int)/\60+(l:Int)<1000;omega]
  .exact#[(by decide:1<=2),by show 0<=60+(l:Int)/\60+(l:Int)<1000;omega]
structure MC(K:bA) (f:Addr) (H:Hp) (os:List (Int×Kk)) (ln lk lm:Addr) (i:Nat) (H':Hp):Prop where
 x:∃(fk:List (Int×Kk)) (us:List V) (O:List (Int×Kk)) (ov:List V) (l:Nat),bS [] f H H'/\H' ln=some (.lst ov)/\bN K H' (O.map (kH cu)) ov/\H' lk=some (.lst us)/\bN K H' (fk.map (kH cu)) us/\H' lm=some (.lst (((Nj l).map (λj:Nat=>60+(j:Int))).map V.int))/\l<=i/\fk.length=i/\O.length+i=os.length/\(O.map (·.1)++fk.map (·.1)).Nodup/\(∀o∈O,o∈os)/\B0 tS (os.map (·.1)) (os.map (·.1)++(Nj l).map (λj:Nat=>60+(j:Int))) fk/\∀p∈fk,p.2.dep<=2/\KWd p.2
theorem aE :Nm VA (ak fX):=by decide
theorem cz :Lm VA (ak fX):=by decide
theorem bV :aK VA Wq (ak fX):=#[rfl,rfl,rfl,by decide,rfl,by decide,by decide]
theorem yK (h1:2<=j)(h2:jn<=j)(F:ic K "_law_fillings" "_law_fillings" fX f fd)(TK:dH P w K mg base "_law_take" 1 Vy eK gT tfd)(fy:dH P w K mg base "_law_there" jn WU (rY K) gH hfd)(f0:dH P w K mg base "_law_filling" j V6 (vz K) gF ffd)(fz:dH P w K mg base "_law_open_filling" 2 Wo (A5 K) gO ofd)(z_len:mg "len"=none)(b4:mg "min"=none)(z_range:mg "range"=none)(W:mg "tuple"=none):bH P w K mg base eZ (j+1) f fd Wq (tV K):=by
 refine F.ok bV (λvs H Q E h=>?_) (λg2 A ez s H vs Q E hr h=>?_)
 .have(_,_,_,_,_,_,_,_,_,_,_,rfl,_):=h;rfl
 have(U,d,vp,S,xs,kl,dl,g1,ds,os,gs,rfl,fs,rp,fw,Gs,(ov,ch,eq),cc,eh,eo,gw,fj,c9,c7,k):=h;refine#[_,(Z5 (Zp (Z0 fy (Za (va aE 1))) (Zb (Zi (ga bV.nd cz 3) (aJ (ga bV.nd cz 4) aX)))) (Z5 (sa bV.nd cz 5 (bh ao)) (Z5 (Zk (Zn (Z1 (@dQ _ _ _ _ _ _ _ _ _ (Bg rfl) (by left) b4 PyProof.Rows.boot_min (Z1 aq (Z1 (Z0 TK (Z1 (va aE 0) (Z1 (Zm cK (Z4 (Za (va aE 3))) aq) ao))) ao)) (by decide) (by decide) (by rfl) (by rfl)) ao)) (ga bV.nd cz 6) (Z5 (Z2 bV.nd cz 7 (Z8 OQ P4 xu (va aE 3) (Z1 (Z0 TK (Z1 (va aE 0) (Z1 (Z4 (Za (va aE 3))) ao))) ao))) (Ze (@cC _ _ _ _ (Z8 MN MO cQ (va aE 5) (Z1 (Zg (Z1 (va aE 7) (Z1 (Z0 f0 (Z1 (va aE 0) (Z1 (va aE 2) (Z1 (va aE 7) (Z1 (Zm cK aq (Z0 TK (cZ (va aE 0) (Za aq)))) (Z1 (Z0 TK (cZ (va aE 0) (Za aq))) ao)))))) ao))) ao)) (by rfl))))) (Z5 (Zf (ak fX) VA Wv [4] (@cJ _ _ _ _ (Zh (va aE 2))) (λ_ _ _ _=>(Z3 (i:=0) (show(Ww:List Str).Nodup by decide))) (λ_ _ _ _=>(@fE _ _ _ (@fh _ _ _ _ _ _ _ _ (zu K rfl) (Z9 (gM K rfl) (va (show Nm Ww _ by left) 0)) (va (show Nm Ww _ by left) 1) (by with_unfolding_all rfl)))) (λ_ _ _ _=>(va (show Nm Ww _ by left) 0)) (ga bV.nd cz 8)) (Z5 (sa bV.nd cz 9 (bh ao)) (Z5 (sa bV.nd cz 10 (bh ao)) (Z5 (Zk (Zn (Z1 (Z0 TK (Z1 (va aE 0) (Z1 (Zm cK (Z4 (Za (va aE 8))) aq) ao))) ao)) (ga bV.nd cz 6) (Z5 (Zp (Z8 OQ P4 xu (va aE 8) (Z1 (Z0 TK (Z1 (va aE 0) (Z1 (Z4 (Za (va aE 8))) ao))) ao)) (Zb (Zi (ga bV.nd cz 7) (aJ (ga bV.nd cz 11) aX)))) (Ze (@cC _ _ _ _ (Z8 MN MO cQ (va aE 9) (Z1 (Z0 fz (Z1 (va aE 0) (Z1 (va aE 7) (Z1 (va aE 11) (Za (va aE 10)))))) ao)) (by rfl))))) (Ze (Zo (Zg (Z1 (Z6 aU W MJ (Za (va aE 5))) (Z1 (Z6 aU W MJ (Za (va aE 9))) ao)))))))))))),?_]
 right
 right
 have sc:=fs.sc;have dx:=sc.ff;have gf:=yh fw;ext;intro p1 lt lo H1 s1 a2 bt e1 go dm dp;ext;intro Y ar;have s2:=ae ar (.lst []);have d4:upd H1 Y (.lst []) Y=some (.lst []):=af;generalize upd H1 Y (.lst [])=H2 at s2 d4 |-;have cw:=s1.trans s2;have gx:=sc.ff.same cw;have bs:=s2 _ _ dm;have dn:=s2 _ _ dp;have f9:bu K H2 lt ((bf ds).map V.int)\/bQ K H2 lt ((bf ds).map V.int):=.inl (bu.of bs);have gl:((bf ds).map V.int).length=(bf ds).length:=bC _;ext;intro r H3 r0 r1 x3;obtain⟨mn,bo⟩:∃mn:Int,mn=if r<4 then r else 4:=#[_,rfl];have fg:0<=mn/\mn<=4/\mn<=(bf ds).length:=by rw[bo];split<;>omega
 have(gr,gq,gp):=fg;have b1:-(2 ^ 62)<=(if r<4 then r else 4:Int):=by rw[<-bo];omega
 have b2:(if r<4 then r else 4:Int)<2 ^ 62:=by rw[<-bo];omega
 have ge:Ext U H2 H3:=x3;have cs:Ext U H H3:=((Ext.refl dx).same cw).trans x3;have ax:NN S d lt:=sc.nn a2;have az:NN S d Y:=(sc.same s1).nn ar;have X:lt≠U:=(sc.no a2).1;have ai:lo≠U:=(sc.no bt).1;have J:Y≠U:=((sc.same s1).no ar).1;have dq:H Y=none:=s1.free ar;have a0:lt≠Y:=au dm ar;have ce:lo≠Y:=au dp ar;have bi:lt≠d/\lt≠S.lg/\lt≠S.la:=#[ax.1,ax.2.2.2.2.2.1,ax.2.2.2.2.2.2];have bj:Y≠d/\Y≠S.lg/\Y≠S.la:=#[az.1,az.2.2.2.2.2.1,az.2.2.2.2.2.2];have ca:lo≠d/\lo≠S.lg/\lo≠S.la:=by have:=sc.nn bt;exact#[this.1,this.2.2.2.2.2.1,this.2.2.2.2.2.2]
 have bk:d≠U/\S.lg≠U/\S.la≠U:=#[sc.nf.1,sc.nf.2.2.2.2.2];ext;rw[<-bo];refine eO (n:=mn.toNat) (λi σ H6=>(∃(y6 y7:Option V),σ=[some (.ref U),some vp,some (.ref d),some (.ref lt),some (.ref lo),some (.ref Y),y6,y7,none,none,none,none])/\L1 K U d S (bf ds) gs.length H lt Y lo ((bI ds).map V.int) i H6) #[#[_,_,rfl],#[[],[],bf ds,S.mo,gs,Ext.uo dx cs,fs.cur.ext cs bk,sc.Lh,mu _,x3.1 _ _ X bs,x3.1 _ _ J d4,x3.1 _ _ ai dn,.nil,rfl,rfl,by rw[List.map_id,Tj,M5];exact eo,λx hx=>hx,.nil,λ_ h=>nomatch h]] ?_ ?_
 .rintro i σ H6 hi ⟨⟨_,_,rfl⟩,⟨ft,us,L,m,cm,f6,c6,ed,fq,ck,cl,bm,r6,de,lL,bl,hL,cn,cd⟩⟩;have as:=f6.ff;have e5:(L.map V.int).length=L.length:=bC _;have dk:bu K H6 lt (L.map V.int)\/bQ K H6 lt (L.map V.int):=.inl (bu.of ck);ext;intro T H7 es gi x7;have d3:=x7.1 _ _ X ck;have cg:T.toNat<L.length:=()
  obtain⟨n,hn⟩:∃n,L[T.toNat]?=some n:=#[_,my cg]
  have e9:RX T (L.map V.int).length=some T.toNat:=by
   rw[e5];exact qt es cg
  have gz:(L.map V.int)[T.toNat]?=some (.int n):=by rw[rj,hn];rfl
  have fn:=x7.1 _ _ J cl;have fm:=x7.1 _ _ ai bm;have f8:=(f6.ext x7).BF (o:=.lst ((L.map V.int).eraseIdx T.toNat)) a2 X d3;have c8:=(c6.ext x7 bk).put (o:=.lst ((L.map V.int).eraseIdx T.toNat)) bi;have k8:Kt H7 (upd H7 lt (.lst ((L.map V.int).eraseIdx T.toNat))):=Kt.lst d3 _;have d1:upd H7 lt (.lst ((L.map V.int).eraseIdx T.toNat)) lt=some (.lst ((L.eraseIdx T.toNat).map V.int)):=by rw[vA];exact af
  have cj:upd H7 lt (.lst ((L.map V.int).eraseIdx T.toNat)) Y=some (.lst us):=by rw[ay a0.symm];exact fn
  have d2:upd H7 lt (.lst ((L.map V.int).eraseIdx T.toNat)) lo=some (.lst ((bI ds).map V.int)):=by rw[ay e1.symm];exact fm
  have du:=f8.ff;have q8:bu K (upd H7 lt (.lst ((L.map V.int).eraseIdx T.toNat))) Y us:=bu.of cj;ext;generalize upd H7 lt (.lst ((L.map V.int).eraseIdx T.toNat))=H8 at f8 c8 k8 d1 cj d2 du q8|-;intro r9 H9 gh gg x9;have dt:=x9.2;ext;intro bg cp c5 c4 ab;have I:=x9.trans ab;have eg:=f8.ext I;have el:=c8.ext I bk;have gd:=fs.at_ eg el;have e2:n∈bf ds:=hL n (t9 hn);ext;intro b6 aa tm mr e4 ee ej ev ct em fu f3;have D:bS [d,S.lg,S.la] U cp aa:=ee;have ac:=eg.trans D;have ek:=el.trans ej;have ba:=(fs.at_ ac ek).sc.Lh;have eb:=bS.get3 (M:=[]) D bi.1 bi.2.1 bi.2.2 X (I.1 _ _ X d1);have a9:=bS.get3 (M:=[]) D bj.1 bj.2.1 bj.2.2 J (I.1 _ _ J cj);have ec:=bS.get3 (M:=[]) D ca.1 ca.2.1 ca.2.2 ai (I.1 _ _ ai d2);have c2:=(((r6.kt (x7.kt as)).kt k8).kt (I.kt du)).kt D.kt;ext;intro C Z;have q:=ae Z (.tup [.int n,b6]);have g:Rp K (upd aa C (.tup [.int n,b6])) (kH enc (n,tm)) (.ref C):=Rp.new (K:=K) (xs:=[.i n,enc tm]) Z (.cons .i (.one ev));generalize upd aa C (.tup [.int n,b6])=B at q g|-;have b0:=q _ _ a9;have d8:=q _ _ eb;have d9:=q _ _ ec;have gj:us.length<mC:=bD (by rw[r6.length,bC];omega);have bc:=(ac.same q).BF (o:=.lst (us++[.ref C])) dq J b0;have fx:=(ek.same q).put (o:=.lst (us++[.ref C])) bj;have ap:Kt B (upd B Y (.lst (us++[.ref C]))):=Kt.lst b0 _;have e0:n∉ft.map (·.1):=λz=>(NZ.mp bl).2.2 n (by rw[List.map_id];exact t9 hn) n z rfl;ext;refine#[ft++[(n,tm)],us++[.ref C],L.eraseIdx T.toNat,e4,cm++mr,bc,fx,ba,by rw[j3];omega,by rw[ay a0];exact d8,af,by rw[ay ce];exact d9,?_,by rw[j3,de];rfl,by rw[Sm cg];omega,?_,λx hx=>hL x (SJ hx),cn.snoc e2 e0 c6.sub ba fu,λp hp=>?_]
  .rw[m3];exact((c2.same q).kt ap).snoc (g.kt ap)
  .rw[m3];exact DN hn bl
  .rcases MH.mp hp with z|z
   .exact cd p z
   .rw[pD.mp z];exact#[ct,em]
 .rintro σ H6 ⟨⟨_,_,rfl⟩,⟨ft,us,L,m,cm,f6,c6,ed,fq,ck,cl,bm,r6,de,lL,bl,hL,cn,cd⟩⟩;have as:=f6.ff;have fQ:=(fs.at_ f6 c6).sc;have dy:{S with mo:=m}.ex=[(ky "opens",.ref S.x2)]:=fj;have gv:=fQ.get (wN dy);have(gn,dr,_):=sc.la;have fp:=bS.get3 (M:=[]) f6 (cI ch sc.sd nofun) c7 (cI ch dr nofun) c9 ch
  have er:=eq.kt f6.kt;have gk:=cc.1;have g0:=gb (bI ds);have dk:bu K H6 lo ((bI ds).map V.int)\/bQ K H6 lo ((bI ds).map V.int):=.inl (bu.of bm);ext;refine eR (e:=kH cu) (φ:=λo=>[kH cu o]) (λσ=>∃x,σ=[x,some (.ref lo)]) fp er () (λ_=>mu _) #[_,rfl] ?_ ?_
  .rintro o ho x _ H7 N s7 ⟨_,rfl⟩ rx kN;have(xa,x1,x2,rfl,cq,q1,q2):=(show Rp K H7 (.t [.i o.1,cu o.2]) x from rx).t2;obtain rfl:=q1.di
   have fi:rK (.int o.1) ((bI ds).map V.int)=true:=by
    rw[eh];exact(iH (n:=o.1) (ns:=os.map (·.1))).trans (decide_eq_true (Ni ho))
   have f7:bu K H7 lo ((bI ds).map V.int)\/bQ K H7 lo ((bI ds).map V.int):=.inl (bu.of (s7 _ _ bm));have fo:mJ (.int o.1)=true:=rfl;ext;rw[if_neg (by decide),fi];ext;exact kN _ _ _ #[#[_,rfl],aF.refl _,.one rx]
  intro u H7 ws s7 bv h7 T;rw[kE (kH cu)]at T;ext;intro y a5;have s8:=ae a5 (.lst []);have ci:upd H7 y (.lst []) y=some (.lst []):=af;generalize upd H7 y (.lst [])=H8 at s8 ci|-;ext;intro G an;have s9:=ae an (.lst []);have d0:upd H8 G (.lst []) G=some (.lst []):=af;generalize upd H8 G (.lst [])=H9 at s9 d0|-;have b7:=s8.trans s9;have cv:=s7.trans b7;have dz:=b7 _ _ h7;have fl:=s9 _ _ ci;have cx:=T.same b7;have e6:=cx.length;rw[bC]at e6;have dt:=as.same cv;have f5:bu K H9 u ws\/bQ K H9 u ws:=.inl (bu.of dz);have dc:u≠y:=au h7 a5;have da:u≠G:=au (s8 _ _ h7) an;have dd:y≠G:=au ci an;have a4:H6 y=none:=s7.free a5;have a3:H6 G=none:=(s7.trans s8).free an;have aj:u≠U:=(fQ.no bv).1;have al:y≠U:=(fQ.no a4).1;have bp:G≠U:=(fQ.no a3).1;ext;intro bg cp c5 c4 ab;have cr:Ext U H6 cp:=((Ext.refl as).same cv).trans ab;have b1:-(2 ^ 62)<=bg:=()
  have b2:bg<2 ^ 62:=()
  have e3:(os.map (λo:Int×Kk=>o.1)++[]).Nodup:=by rw[M5];exact cc.nodup
  ext;refine eO (n:=bg.toNat) (λi σ f1=>(∃(y6 y7 en:Option V),σ=[some (.ref U),some vp,some (.ref d),some (.ref lt),some (.ref lo),some (.ref Y),y6,y7,some (.ref u),some (.ref y),some (.ref G),en])/\MC K U H6 os u y G i f1) #[#[_,_,_,rfl],#[[],[],os,ws,0,Ext.uo as cr,ab.1 _ _ aj dz,cx.kt (ab.kt dt),ab.1 _ _ al fl,.nil,ab.1 _ _ bp d0,mu _,rfl,rfl,e3,λo h=>h,.nil,λ_ h=>nomatch h]] ?_ ?_
  .rintro i σ aa hi ⟨⟨_,_,_,rfl⟩,⟨fk,R,O,v,l,ac,a7,ag,a8,ah,b3,hl,df,lO,am,hO,bb,be⟩⟩;have dw:=ac.ff;have e7:=ag.length;rw[bC]at e7;have fc:bu K aa u v\/bQ K aa u v:=.inl (bu.of a7);ext;intro g B c1 f2 av;have bz:=av.1 _ _ aj a7;have bq:g.toNat<O.length:=()
   obtain⟨o,ho⟩:∃o,O[g.toNat]?=some o:=#[_,my bq];obtain⟨ou,fa⟩:∃ou,v[g.toNat]?=some ou:=#[_,my ()];have e9:RX g v.length=some g.toNat:=qt c1 ();have dg:=av.kt dw;have(ty,dh,ep):=ag.get' fa;rw[rj,ho]at dh;obtain rfl:kH cu o=ty:=by injection dh
   have ap:Kt B (upd B u (.lst (v.eraseIdx g.toNat))):=Kt.lst bz _;have(xa,x1,x2,rfl,cq,q1,q2):=(show Rp K _ (.t [.i o.1,cu o.2]) ou from(ep.kt dg).kt ap).t2;obtain rfl:=q1.di;have bc:=(ac.ext av).BF (o:=.lst (v.eraseIdx g.toNat)) bv aj bz;have bx:upd B u (.lst (v.eraseIdx g.toNat)) u=some (.lst (v.eraseIdx g.toNat)):=af;have a6:upd B u (.lst (v.eraseIdx g.toNat)) y=some (.lst R):=by rw[ay dc.symm];exact av.1 _ _ al a8
   have d7:upd B u (.lst (v.eraseIdx g.toNat)) G=some (.lst (((Nj l).map (λj:Nat=>60+(j:Int))).map V.int)):=by rw[ay da.symm];exact av.1 _ _ bp b3
   have dv:=bc.ff;have ew:bu K (upd B u (.lst (v.eraseIdx g.toNat))) y R:=bu.of a6;have ll:((Nj l).map (λj:Nat=>60+(j:Int))).length<=3:=by rw[bC,UW];omega
   ext;generalize upd B u (.lst (v.eraseIdx g.toNat))=H13 at ap cq q1 q2 bc bx a6 d7 dv ew|-;intro b5 co e8 gc bn d6 et fb;have db:o.1∉fk.map (·.1):=λz=>(NZ.mp am).2.2 o.1 (Ni (t9 ho)) o.1 z rfl;have(l',gt,rfl,ef,ei):=Ce cc (λ_ h=>sc.LH h) () (hO o (t9 ho)) db bb fb;have fr:bS [] U H6 co:=(bc.more.trans bn).drop a3;have d5:=bn.gu da aj bx;have bw:=bn.gu dd al a6;have a1:=(dg.trans ap).trans bn.kt;have f4:R.length<mC:=bD (by rw[ah.length,bC];omega);have fv:=fr.BF (o:=.lst (R++[b5])) a4 al bw;have cf:Kt co (upd co y (.lst (R++[b5]))):=Kt.lst bw _;have cy:=(Cd g.toNat ag).kt (a1.trans cf);rw[vA]at cy;ext;refine#[fk++[(o.1,e8)],R++[b5],O.eraseIdx g.toNat,v.eraseIdx g.toNat,l',fv,by rw[ay dc];exact d5,cy,af,?_,by rw[ay dd.symm];exact d6,(),by rw[j3,df];rfl,by rw[Sm bq];omega,?_,λx hx=>hO x (SJ hx),ef,λp hp=>?_]
   .rw[m3];exact(ah.kt (a1.trans cf)).snoc (et.kt cf)
   .rw[m3];exact DN (f:=λo:Int×Kk=>o.1) (n:=o) ho am
   .rcases MH.mp hp with z|z
    .exact be p z
    .rw[pD.mp z];exact ei
  .rintro σ aa ⟨⟨_,_,_,rfl⟩,⟨fk,R,O,v,l,ac,a7,ag,a8,ah,b3,hl,df,lO,am,hO,bb,be⟩⟩;have ad:=ac.ex;have a9:=ad.1 _ _ J cl;have c3:=r6.kt (ad.kt as);ext;refine .inl #[bu.of a9,λC Z=>?_];have q:=ae Z (.tup us);have g:=Rp.new (K:=K) Z c3;generalize upd aa C (.tup us)=B at q g|-;have ea:=q _ _ a8;ext;refine .inl #[bu.of ea,λcb br=>?_];have b9:=ae br (.tup R);have c0:=Rp.new (K:=K) br (ah.same q);generalize upd B cb (.tup R)=H13 at b9 c0|-;ext;intro ey dj;have b8:=ae dj (.tup [.ref C,.ref cb]);have aw:=(q.trans b9).trans b8;refine k ey (.ref C) (.ref cb) _ ft fk m cm _ ((f6.ext ad).same aw) ((c6.ext ad bk).same aw) () af (g.same (b9.trans b8)) (c0.same b8) #[(),cd] #[(),be] cn ?_ (by rw[eh];exact bb) ?_
   .exact(NZ.mp bl).2.1
   .exact(NZ.mp am).2.1
end G34
namespace L2
open PySem
theorem Ec {d:Pos}{E D C B A z o m l j g e:Expr}{t1 t2 t3 t4 q p y w v u t r:TE}(S:PE X E t1)(M:PE X o y)(R:PE X D t2)(L:PE X m w)(Q:PE X C t3)(J:PE X l v)(P:PE X B t4)(I:PE X j u)(O:PE X A q)(H:PE X g t)(N:PE X z p)(G:PE X e r):
  PE X (.Dict [some E,some D,some C,some B,some A,some z] [o,m,l,j,g,e] d) (Gq [(t1,y),(t2,w),(t3,v),(t4,u),(q,t),(p,r)]) :=
 EL (kO S M (kO R L (kO Q J (kO P I (kO O H (kO N G EK)))))) rfl rfl (List.cons_ne_nil _ _) (by show 6<=15;decide)
end L2
namespace G34
open PySem L2
def A6(K:bA):Sp:=λj H Q _=>∃(f:Addr) (mo:Int),j=[.ref f,.int mo]/\cg H f/\0<=mo/\mo<=5 /\
 ∀(d:Addr) (e:Hp) (S:fu) (g:List Str) (l:Kl),Ext f H e->(S.mo=mo/\S.ex=[]/\S.kb=13/\S.pb=24)->bx K e f d S g l [] []->H S.lg=none->H S.la=none->H S.ld=none->H d=none->Q (.ref d) e
noncomputable def fQ(kd g d e j:Addr)(mo:Int):List (Key×V):=[(.inr "kinds",.ref kd),(.inr "defs",.ref g),(.inr "names",.ref d),(.inr "gaps",.ref e),(.inr "most",.int mo),(.inr "asked",.ref j)]
theorem Iv (kd g d e j:Addr)(mo:Int):fD [] (fQ kd g d e j mo)=fQ kd g d e j mo:=by kernel_rfl
theorem MD (kd g d e j:Addr)(mo:Int)(v:V):putK (fQ kd g d e j mo) (ky "turn") v=fQ kd g d e j mo++[(ky "turn",v)]:=by kernel_rfl
theorem ME (kd j e g l:Addr)(mo:Int)(d v:V):putK (fQ kd j e g l mo++[(ky "turn",d)]) (ky "called") v=fQ kd j e g l mo++[(ky "turn",d),(ky "called",v)]:=by kernel_rfl
theorem MF (kd l g j m:Addr)(mo:Int)(e d v:V):putK (fQ kd l g j m mo++[(ky "turn",e),(ky "called",d)]) (ky "params") v=fQ kd l g j m mo++[(ky "turn",e),(ky "called",d),(ky "params",v)]:=by kernel_rfl
theorem cO :Nm V1 (ak kX):=by decide
theorem pB :Lm V1 (ak kX):=by decide
theorem mD :aK V1 WC (ak kX):=#[rfl,rfl,rfl,by decide,rfl,by decide,by decide]
theorem Ed (hj:2<=j)(F:ic K "_law_scene" "_law_scene" kX f fd)(TK:dH P w K mg base "_law_take" 1 Vy eK gT tfd)(NM:dH P w K mg base "_law_names" 2 Vy AZ gN nfd)(KI:dH P w K mg base "_law_kinds" j Wr (A0 K) gK kfd):bH P w K mg base eZ (j+1) f fd WC (A6 K):=by
 refine F.ok mD (λvs H Q E h=>?_) (λcj A bo s H vs Q E hr h=>?_)
 .have(_,_,rfl,_):=h;rfl
 have(X,mo,rfl,hf,b1,b0,k):=h;refine#[_,(Z5 (Z2 mD.nd pB 2 (Z0 NM (cZ (va cO 0) (Za aq)))) (Z5 (Z2 mD.nd pB 3 (Z0 KI (Z1 (va cO 0) (Z1 (bZ iC (va cO 2) cW (bL aq)) (Z1 (bZ iC (va cO 2) (bL aq) (bL aq)) ao))))) (Z5 (Z2 mD.nd pB 4 (@Ec _ _ _ _ _ _ _ _ _ _ _ _ _ _ _ _ _ _ _ _ _ _ _ _ _ _ aB (va cO 3) aB (bh ao) aB (bZ iC (va cO 2) (bL aq) (bL aq)) aB (bh ao) aB (va cO 1) aB (@CM _ _))) (Z5 (@j6 _ _ _ _ _ _ _ _ _ (mK hr) (va cO 4) aB (Z0 TK (cZ (va cO 0) (Za aq))) (by rfl)) (Z5 (@j6 _ _ _ _ _ _ _ _ _ (mK hr) (va cO 4) aB (bZ iC (va cO 2) (bL aq) (bL aq)) (by rfl)) (Z5 (@j6 _ _ _ _ _ _ _ _ _ (mK hr) (va cO 4) aB (bZ iC (va cO 2) (bL aq) (bL aq)) (by rfl)) (Ze (cH (va cO 4))))))))),?_]
 right
 right
 ext;intro br H1 g x1 be bz lx lo un
 replace lx:g.length=26:=lx
 have ci:=x1.2;have ar:br≠X:=b9 hf be;have cc:(g.map V.str).length=26:=by rw[bC];exact lx
 have e1:iW (g.map V.str) none (some 3)=(g.take 3).map V.str:=by rw[show(some (3:Int))=some ((3:Nat):Int)from rfl,fY,NS]
 have e2:iW (g.map V.str) (some 3) (some 12)=((g.drop 3).take 9).map V.str:=by
  rw[show(some (3:Int))=some ((3:Nat):Int)from rfl,show(some (12:Int))=some ((12:Nat):Int)from rfl,qf _ _ _ () (),NS,Qy]
 have e3:iW (g.map V.str) (some 12) (some 18)=((g.drop 12).take 6).map V.str:=by
  rw[show(some (12:Int))=some ((12:Nat):Int)from rfl,show(some (18:Int))=some ((18:Nat):Int)from rfl,qf _ _ _ () (),NS,Qy]
 have e4:iW (g.map V.str) (some 18) (some 21)=((g.drop 18).take 3).map V.str:=by
  rw[show(some (18:Int))=some ((18:Nat):Int)from rfl,show(some (21:Int))=some ((21:Nat):Int)from rfl,qf _ _ _ () (),NS,Qy]
 have e5:iW (g.map V.str) (some 21) (some 24)=((g.drop 21).take 3).map V.str:=by
  rw[show(some (21:Int))=some ((21:Nat):Int)from rfl,show(some (24:Int))=some ((24:Nat):Int)from rfl,qf _ _ _ () (),NS,Qy]
 ext;intro l2 b3;rw[e1];have s2:=ae b3 (.lst ((g.take 3).map V.str));have h2:upd H1 l2 (.lst ((g.take 3).map V.str)) l2=some (.lst ((g.take 3).map V.str)):=af;generalize upd H1 l2 (.lst ((g.take 3).map V.str))=H2 at s2 h2|-;have bx:=s2 _ _ bz;ext;intro l3 b2;rw[e2];have s3:=ae b2 (.lst (((g.drop 3).take 9).map V.str));have h3:upd H2 l3 (.lst (((g.drop 3).take 9).map V.str)) l3=some (.lst (((g.drop 3).take 9).map V.str)):=af;have b5:=s3 _ _ h2;generalize upd H2 l3 (.lst (((g.drop 3).take 9).map V.str))=H3 at s3 h3 b5|-;have x3:Ext X H H3:=(x1.same s2).same s3;have ch:=x3.2;have ce:(g.take 3).length=3:=by rw[we];omega
 have cd:((g.drop 3).take 9).length=9:=by rw[we,Oj];omega
 ext;intro v4 H4 kl x4 bp bs r4;have bw:=x4.1 _ _ ar (s3 _ _ bx);have C:=x3.trans x4;ext;intro d hd;have T:=ae hd (.dK []);have h5:upd H4 d (.dK []) d=some (.dK []):=af;generalize upd H4 d (.dK [])=H5 at T h5|-;have bv:=T _ _ bw;have r5:=r4.same T;have(kd,cf,rfl,cg,cb):=r4.bq;ext;intro m av;have Y:=ae av (.lst []);have h6:upd H5 m (.lst []) m=some (.lst []):=af;generalize upd H5 m (.lst [])=H6 at Y h6|-;have bt:=Y _ _ bv;ext;intro p as;rw[e3];have S:=ae as (.lst (((g.drop 12).take 6).map V.str));have h7:upd H6 p (.lst (((g.drop 12).take 6).map V.str)) p=some (.lst (((g.drop 12).take 6).map V.str)):=af;generalize upd H6 p (.lst (((g.drop 12).take 6).map V.str))=H7 at S h7|-;ext;intro l U;have Z:=ae U (.lst []);have h8:upd H7 l (.lst []) l=some (.lst []):=af;generalize upd H7 l (.lst [])=H8 at Z h8|-;ext;intro q N;have s9:=ae N (.dK []);have h9:upd H8 q (.dK []) q=some (.dK []):=af;have aw:=s9 _ _ (Z _ _ (S _ _ (Y _ _ h5)));have y:=s9 _ _ (Z _ _ (S _ _ h6));have ai:=s9 _ _ (Z _ _ h7);have u:=s9 _ _ h8;have W:=s9 _ _ (Z _ _ (S _ _ bt));have an:aF H4 _:=(((T.trans Y).trans S).trans Z).trans s9;have r9:=r4.same an;have bc:d≠q:=λz=>by rw[<-z]at N;rw[Z _ _ (S _ _ (Y _ _ h5))]at N;cases N
 generalize upd H8 q (.dK [])=H9 at s9 h9 aw y ai u W an r9|-;have a3:=C.same an;have b4:=a3.2;have nl:∀{c:Addr}{us:List V},H9 c=some (.lst us)->c≠d:=λe=>cI e aw nofun
 have M:d≠X:=b9 C.2 hd;have free:∀{c:Addr},H4 c=none->H c=none:=λe=>Ext.free C e;have I:m≠X:=b9 ((C.same T).2) av;have ad:p≠X:=b9 ((C.same (T.trans Y)).2) as;have G:l≠X:=b9 ((C.same ((T.trans Y).trans S)).2) U;have ah:q≠X:=b9 ((C.same (((T.trans Y).trans S).trans Z)).2) N;have a7:p≠l:=au h7 U;have a8:m≠l:=au (S _ _ h6) U;ext
 .exact(show _=(fQ kd m p l q mo).map (λkv=>(kV kv.1,kv.2))from rfl)
 refine#[by show 6<=15;decide,?_];rw[Iv];have a1:bS [d] X H9 (upd H9 d (.dK (fQ kd m p l q mo))):=(bS.refl b4).um (.head _) M aw;have bk:upd H9 d (.dK (fQ kd m p l q mo)) d=some (.dK (fQ kd m p l q mo)):=af;generalize upd H9 d (.dK (fQ kd m p l q mo))=H10 at a1 bk|-;have ca:=a1.ff;ext;intro t bn t0 t1 a2;have b6:=a1.ext a2;have bj:=a2.1 _ _ M bk;have pp:=lT.k (k:=ky "turn") (v:=.int t) bj (bD (by show 6<=1000;decide));rw[MD]at pp;have R:=b6.um (o:=.dK (fQ kd m p l q mo++[(ky "turn",.int t)])) (.head _) M bj;have bi:upd bn d (.dK (fQ kd m p l q mo++[(ky "turn",.int t)])) d=some (.dK (fQ kd m p l q mo++[(ky "turn",.int t)])):=af;generalize upd bn d (.dK (fQ kd m p l q mo++[(ky "turn",.int t)]))=H12 at pp R bi;have b8:=R.gu (nl W) ar W;ext;intro r ac;rw[e4];have ap:=ae ac (.lst (((g.drop 18).take 3).map V.str));have az:upd H12 r (.lst (((g.drop 18).take 3).map V.str)) r=some (.lst (((g.drop 18).take 3).map V.str)):=af;have L:=ap _ _ bi;have bm:=R.same ap;generalize upd H12 r (.lst (((g.drop 18).take 3).map V.str))=H13 at ap az L bm|-;have pq:=lT.k (k:=ky "called") (v:=.ref r) L (bD (by show 7<=1000;decide));rw[ME]at pq;have O:=bm.um (o:=.dK (fQ kd m p l q mo++[(ky "turn",.int t),(ky "called",.ref r)])) (.head _) M L;have bg:upd H13 d (.dK (fQ kd m p l q mo++[(ky "turn",.int t),(ky "called",.ref r)])) d=some (.dK (fQ kd m p l q mo++[(ky "turn",.int t),(ky "called",.ref r)])):=af;have ag:r≠d:=cI az L nofun
 have am:upd H13 d (.dK (fQ kd m p l q mo++[(ky "turn",.int t),(ky "called",.ref r)])) r=some (.lst (((g.drop 18).take 3).map V.str)):=by rw[ay ag];exact az
 generalize upd H13 d (.dK (fQ kd m p l q mo++[(ky "turn",.int t),(ky "called",.ref r)]))=H14 at pq O bg am;have b7:=O.gu (nl W) ar W;ext;intro B ab;rw[e5];have aa:=ae ab (.lst (((g.drop 21).take 3).map V.str));have ax:upd H14 B (.lst (((g.drop 21).take 3).map V.str)) B=some (.lst (((g.drop 21).take 3).map V.str)):=af;have J:=aa _ _ bg;have al:=aa _ _ am;have bl:=O.same aa;generalize upd H14 B (.lst (((g.drop 21).take 3).map V.str))=H15 at aa ax J al bl|-;have pr:=lT.k (k:=ky "params") (v:=.ref B) J (bD (by show 8<=1000;decide));rw[MF]at pr;have D:=bl.um (o:=.dK (jc #[kd,m,p,l,q,r,B,mo,t,d,d,[],13,24])) (.head _) M J;have bf:upd H15 d (.dK (jc #[kd,m,p,l,q,r,B,mo,t,d,d,[],13,24])) d=some (.dK (jc #[kd,m,p,l,q,r,B,mo,t,d,d,[],13,24])):=af;have ak:upd H15 d (.dK (jc #[kd,m,p,l,q,r,B,mo,t,d,d,[],13,24])) r=some (.lst (((g.drop 18).take 3).map V.str)):=by rw[ay ag];exact al
 have aj:upd H15 d (.dK (jc #[kd,m,p,l,q,r,B,mo,t,d,d,[],13,24])) B=some (.lst (((g.drop 21).take 3).map V.str)):=by rw[ay (cI ax J nofun)];exact ax
 replace pr:lT H15 d (kV (ky "params")) (.ref B) (upd H15 d (.dK (jc #[kd,m,p,l,q,r,B,mo,t,d,d,[],13,24]))):=pr
 generalize upd H15 d (.dK (jc #[kd,m,p,l,q,r,B,mo,t,d,d,[],13,24]))=H16 at pr D bf ak aj;ext;have a0:∀{c:Addr}{us:List V},c≠X->H9 c=some (.lst us)->H16 c=some (.lst us):=λn e=>D.gu (nl e) n e;have bb:r≠X:=b9 R.ff ac;have a6:B≠X:=b9 O.ff ab;have ba:r≠l:=(au (R.gu (nl u) G u) ac).symm;have a5:B≠l:=(au (O.gu (nl u) G u) ab).symm;have a9:r≠m:=(au (R.gu (nl y) I y) ac).symm;have a4:B≠m:=(au (O.gu (nl y) I y) ab).symm;refine k d H16 #[kd,m,p,l,q,r,B,mo,t,d,d,[],13,24] g kl ?_ #[rfl,rfl,rfl,rfl] #[bf,r9.kt D.kt,bp,bs,lx,#[un,lo],a0 ad ai,ak,aj,#[[],a0 I y,rfl],#[MP _,λd h=>nomatch h],a0 G u,#[[],D.gu bc.symm ah h9,mu _,λ_ h=>nomatch h],b1,Int.le_trans b0 (by decide),λ_ _ h=>by simp at h,?_,D.ff,#[M,ad,bb,a6,I,G,ah],#[a7,ba,a5,a8],#[(au h6 as).symm,a9,a4],bc,by show 13<=20/\24<=40/\13<=13;decide] (free (((T.trans Y).trans S).free U)) (free ((((T.trans Y).trans S).trans Z).free N)) (free (T.free av)) (free hd)
 .refine#[λb o n e=>?_,D.ff];have e9:=a3.1 b o n e;exact D.gu (λz=>by rw[z]at e;rw[free hd]at e;cases e) n e9
 .show t=0\/t=1;omega
theorem Cf (h:S.ex=[])(lo:Addr):putK (jc S) (ky "opens") (.ref lo)=jc {S with ex:=[(ky "opens",.ref lo)],x2:=lo}:=by
 have(_,_,_,_,_,_,_,_,_,_,_,_,_,_):=S;dsimp only at h;subst h
 kernel_rfl
theorem bx.opens (s:bx K H f d S xs kl [] [])(fr:bS [d] f H H')(h:H' d=some (.dK (jc {S with ex:=e,x2:=lo}))):bx K H' f d {S with ex:=e,x2:=lo} xs kl [] []:=by
 have g:∀{b ws},H b=some (.lst ws)->b≠f->H' b=some (.lst ws):=λh n=>fr.gu (cI h s.sd nofun) n h
 have(j,q,l):=s.la;have(B,y,w,v,u,t,r):=s.nf;have(m,o,A):=s.ld;exact#[h,s.kd.kt fr.kt,s.ok,s.k3,s.lx,s.un,g s.ln y,g s.lc w,g s.lp v,#[m,g o u,A],s.dl,g s.lg t,#[j,fr.gu s.na.symm r q,l],s.mm,s.mo,s.gn,s.tn,fr.ff,s.nf,s.ng,s.nd,s.na,s.bb]
theorem bS.new (s:aF H H1)(fr:bS M f H1 H2)(g:∀m∈M,H m=none)(e:H f=none):aF H H2:=λb o h=>fr.oth b o (λz=>by rw[g b z]at h;cases h) (λz=>by rw[z,e]at h;cases h) (s b o h)
theorem iw.less (a:iw K H f S kl ys dvs p)(h:∀z∈e,z∈ys):iw K H f S kl e dvs p:=by
 have(g,y,w,k,m,i,C,j,l,ok,kd,E,o,B,A,D,t,r,q,v,u):=a;exact#[g,y,w,k,m,i,C,j,l,ok,kd,E,o,B,A,D,t,r,q,λz=>v (h _ z),λz=>u (h _ z)]
theorem FS.mk' (o:bx K H f d S xs kl dl gs)(as:mz K H f S kl ys gs)(r:S.lg∈ys)(sub:∀n∈g0,n∈gs)(kb:S.kb=13)(pb:S.pb=24)(ex:∃v,S.ex=[(ky "opens",v)]):∃dvs,FS K H f d S xs kl dl dvs g0 gs:=by
 have(dvs,g,C,B,A,y):=as;refine#[dvs,o,C,sub,λn t=>?_,kb,pb,ex];have u:(Sum.inl n:Key)∈g.map (·.1):=by rw[A];exact Ni (sub n t)
 have(l,w,e):=NV.mp u
 obtain⟨j,m⟩:∃j,g.find? (λl=>decide (l.1=Sum.inl n))=some j:=by
  cases hc:g.find? (λl=>decide (l.1=Sum.inl n))with
  |some z=>exact#[z,rfl]
  |none=>exact absurd (decide_eq_true e) (List.find?_eq_none.mp hc l w)
 have(p,D,E):=y j (List.mem_of_find?_eq_some m);exact#[g,p,B,by unfold eF;rw[m];exact congrArg some D,E.less (λz q=>by rw[pD.mp q];exact r)]
structure MG(K:bA) (H:Hp) (f d:Addr) (vp:V) (S:fu) (xs:List Str) (kl:Kl) (dl:List (Str×List Kk×Kk)) (dvs:List V) (ds:List (Str×List (Str×Kk)×Tm)) (os:List (Int×Kk)) (gs:List Int):Prop where
 fs:FS K H f d S xs kl dl dvs (bf ds) gs
 rp:Rp K H (oH (nL kl) ds) vp
 d1:1<=ds.length
 d3:ds.length<=3
 dok:∀dd∈ds,Ln dd
 op:oA K H S.x2 os
 oso:rF (kn kl) os
 kg:bI ds=os.map (·.1)
 nd:(bf ds).Nodup
 ex:S.ex=[(ky "opens",.ref S.x2)]
 nf:S.x2≠f
 ng:S.x2≠S.lg
def A7(K:bA):Sp:=λr H Q _=>∃(a:Addr) (l:List Int) (n:Int),r=[.ref a,.int n]/\bu K H a (l.map V.int)/\l.length<=63/\0<=n/\n<=3 /\
 ∀(p d f:Addr) (j:V) (e:Hp) (S:fu) (q:List Str) (u:Kl) (w:List (Str×List Kk×Kk)) (g:List V) (v:List (Str×List (Str×Kk)×Tm)) (t:List (Int×Kk)) (o:List Int),aF H e->e p=some (.tup [j,.ref d])->MG K e f d j S q u w g v t o->o.length<=5->(∀m∈[d,S.lg,S.la],H m=none)->H f=none->Q (.ref p) e
theorem dX :Nm VW (ak k7):=by decide
theorem jX :Lm VW (ak k7):=by decide
theorem iP :aK VW WV (ak k7):=#[rfl,rfl,rfl,by decide,rfl,by decide,by decide]
theorem Ef (h1:1<=j)(h2:js<=j)(F:ic K "_law_drawn" "_law_drawn" k7 f fd)(FD:dH P w K mg base "_law_feed" 1 WJ (zx K) gF ffd)(TK:dH P w K mg base "_law_take" 1 Vy eK gT tfd)(SN:dH P w K mg base "_law_scene" js WC (A6 K) gS sfd)(PO:dH P w K mg base "_law_program_of" j We (qY K) gP pfd):bH P w K mg base eZ (j+1) f fd WV (A7 K):=by
 refine F.ok iP (λvs H Q E h=>?_) (λbv A ag s H vs Q E hr h=>?_)
 .have(_,_,_,rfl,_):=h;rfl
 have(a,ns,n,rfl,hS,bl,n0,n3,k):=h;refine#[_,(Z5 (Z2 iP.nd jX 2 (Z0 FD (Z1 (va dX 0) (Za (va dX 1))))) (Z5 (Z2 iP.nd jX 3 (Z0 SN (Z1 (va dX 2) (Z1 (Zm cK aq (Z0 TK (cZ (va dX 2) (Za aq)))) ao)))) (Z5 (j6 (mK hr) (va dX 3) aB (bh ao) (by rfl)) (Z5 (Zp (Z0 PO (Z1 (va dX 2) (Z1 (va dX 3) (Z1 (Zm cK aq (Z0 TK (cZ (va dX 2) (Za aq)))) (Za aq))))) (@iS _ _ _ _ _ (3) K rfl rfl (Zi (ga iP.nd jX 4) (Zi (ga iP.nd jX 5) (aJ (ga iP.nd jX 6) aX))) (by rfl) (by rfl))) (Ze (Zo (Zg (Z1 (va dX 4) (Za (va dX 3)))))))))),?_]
 right
 right
 ext;intro M H1 Y u bp;ext;intro r2 H2 be bc x2;have bo:=x2.2;ext;intro d H3 S xs kl x3 ⟨bs,N,ax,aw⟩ sc3 hlg hla hld hdn;have bn:=sc3.ff;ext;intro t B;have X:=ae B (.lst []);have h4:upd H3 t (.lst []) t=some (.lst []):=af;have y:=sc3.nn B;have p:=(sc3.no B).1;generalize upd H3 t (.lst [])=H4 at X h4|-;have v:=sc3.same X;have al:=v.nf.1;have sl:(jc S).length=9:=by unfold jc;rw[N];rfl
 obtain⟨O,bg,f5,ar⟩:∃O,lT H4 d (.str "opens") (.ref t) O/\bS [d] M H4 O/\O d=some (.dK (jc {S with ex:=[(ky "opens",.ref t)],x2:=t})):=by
  refine#[upd H4 d (.dK (jc {S with ex:=[(ky "opens",.ref t)],x2:=t})),?_,(bS.refl v.ff).um (.head _) al v.sd,af];rw[<-Cf N t];exact lT.k (k:=ky "opens") v.sd (by rw[sl];exact bD ())
 have C:=v.opens f5 ar;have as:=f5.gu y.1 p h4;have bm:=C.ff;obtain⟨e,T⟩:∃e:fu,e={S with ex:=[(ky "opens",.ref t)],x2:=t}:=#[_,rfl];rw[<-T]at C;have e5:e.x2=t/\e.ex=[(ky "opens",.ref t)]/\e.lg=S.lg/\e.la=S.la/\e.ld=S.ld/\e.kb=13/\e.pb=24/\e.mo=S.mo:=by rw[T];exact#[rfl,rfl,rfl,rfl,rfl,ax,aw,rfl]
 have(rfl,e6,e7,e8,e9,a0,az,bt):=e5;have ak:NN e d e.x2:=by rw[T];rw[T]at y;exact y
 have V:Ext M H1 H4:=((x2.trans x3).same X)
 have l:∀q,H2 q=none->H q=none:=λq hq=>by
  cases hc:H q with
  |none=>rfl
  |some o =>
   have au:=Y _ _ hc
   by_cases c:q=M
   .subst c;rw[u]at hc;cases hc
   .have:=x2.1 _ _ c au;rw[hq]at this;cases this
 have ac:aF H H4:=λb o I=>V.1 b o (λz=>by rw[z,u]at I;cases I) (Y b o I);have bi:20<=e.pb:=()
 ext;intro r6 H6 bb ba U;have fQ:=C.ext U;have br:=U.1 _ _ p as;have a9:0<=4+r6:=()
 have a8:4+r6<=1000:=()
 ext;intro p7 a7 R wv gv H7 ds os dl gs f7 bq g bk ad a4 a3 a2 aj ah an J a6;ext;intro p8 ap;have D:=ae ap (.tup [R,.ref d]);have W:=g.same D
 have a5:mz K (upd H7 p8 (.tup [R,.ref d])) M {e with x1:=a7} kl [a7,e.x2,e.ld,e.lg] gs:=by
  have(kv,hk,_):=g.la;exact a6.go (g.ow.same D) ((D _ _ hk).trans hk.symm) #[g.ng.2.2.2,g.nf.2.2.2.2.1]
 have(a1,av):=FS.mk' (g0:=bf ds) W a5 (.tail _ (.tail _ (.tail _ (.head _)))) (λn hn=>J.subset hn) a0 az #[_,e6];have ab:aF H O:=bS.new ac f5 (λm G=>by rw[pD.mp G];exact l _ hdn) u;have aa:aF H H6:=λb o I=>U.1 b o (λz=>by rw[z,u]at I;cases I) (ab b o I)
 have L:H e.x2=none:=by
  cases hc:H e.x2 with
  |none=>rfl
  |some o =>
   have:=(x2.trans x3).1 _ _ p (Y _ _ hc);rw[B]at this;cases this
 have Z:aF H H7:=bS.new aa f7 (λm G=>by
  simp only[vy,MK,or_false]at G;rcases G with rfl|rfl|rfl|rfl
  .exact L
  .rw[e7];exact l _ hlg
  .rw[e8];exact l _ hla
  .rw[e9];exact l _ hld) u
 have ai:oA K (upd H7 p8 (.tup [R,.ref d])) e.x2 os:=by
  have(ov,h,r):=aj;exact#[ov,D _ _ h,r.same D]
 have am:=g.mm;have bj:(gs.length:Int)<=e.mo:=am;refine k p8 d M R _ {e with x1:=a7} xs kl dl a1 ds os gs (Z.trans D) af #[av,ad.same D,a4,a3,a2,ai,ah,an,g.Lh.sublist J,e6,p,ak.2.2.2.2.2.1] () (λm G=>?_) u;simp only[vy,MK,or_false]at G;rcases G with rfl|rfl|rfl
 .exact l _ hdn
 .show H e.lg=none;rw[e7];exact l _ hlg
 .show H e.la=none;rw[e8];exact l _ hla
end G34
namespace L2
open PySem
end L2
namespace G34
open PySem L2
noncomputable def jm(d:List Int):List Int->Option Int
 | []=>none
 |x::r=>if x∈d then some x else jm (d++[x]) r
theorem vB {xs:List Int}(h:xs[i]?=some x):jm (xs.take i) (xs.drop i)=if x∈xs.take i then some x else jm (xs.take (i+1)) (xs.drop (i+1)):=by
 rw[mq h,fZ h];rfl
theorem vC {xs:List Int}(h:xs[j]?=some x)(B:List Int):jm (A++xs.take j) (xs.drop j++B)=if x∈A++xs.take j then some x else jm (A++xs.take (j+1)) (xs.drop (j+1)++B):=by
 rw[mq h,fZ h,<-M6];rfl
noncomputable def qJ{g:Type}(gf:g->List Int)(d:List Int)(e:List (Int×g)):Option (Bool×Int) :=
 match(e.map (·.1)).find? (λn=>!decide (n∈d))with
 |some n=>some (true,n)
 |none=>match jm [] (e.map (·.1))with
  |some n=>some (false,n)
  |none=>match jm (d.filter λn=>!decide (n∈e.map (·.1))) (e.flatMap λp=>gf p.2)with
   |some n=>some (false,n)
   |none=>none
structure Ew{α:Type}(gf:α->List Int) (okA:α->Prop) (there:List Int) (fl:List (Int×α)):Prop where
 len:fl.length<=8
 tl:there.length<=900
 ok:∀p∈fl,okA p.2/\(gf p.2).length<=50
def wO{g:Type}(K:bA)(tr:g->T)(gf:g->List Int)(okA:g->Prop)(m p o:Addr):Sp:=λl H Q E=>∃(v:V) (lt:Addr) (d:List Int) (e:List (Int×g)),l=[v,.ref lt,.ref m]/\Rp K H (.t (e.map (kH tr))) v/\H lt=some (.lst (d.map V.int))/\Ew gf okA d e /\
 (∀n,qJ gf d e=some (true,n)->Told E H p "number" (.int n))/\(∀n,qJ gf d e=some (false,n)->Told E H o "name" (.int n))/\(qJ gf d e=none->∀j,aF H j->Q .gq j)
theorem Cg {L:List Int}(h:L[i]?=some x)(n:q x=false):(L.drop i).find? q=(L.drop (i+1)).find? q:=by
 rw[mq h,QY (by rw[n];exact FG)]
theorem Eg {L:List Int}(h:L[i]?=some x)(n:q x=true):(L.drop i).find? q=some x:=by
 rw[mq h,QZ n]
theorem aI :Nm VN (ak dm):=by decide
theorem cE :Lm VN (ak dm):=by decide
theorem bX :aK VN Wx (ak dm):=#[rfl,rfl,rfl,by decide,rfl,by decide,by decide]
theorem yL {tr:α->T}{gf:α->List Int}{okA:α->Prop}(F:ic K "look_fillings" "look_fillings" dm f fd)(GO:bH P w K mg base eZ 4 gG gfd [x] aa)(kG:NF K (.ref gG)=true)(bG:Binds K gfd [x] [])(hsp:∀(v:V) (y:α) (H:Hp) (Q:VK),Rp K H (tr y) v->okA y->(∀l H',aF H H'->H l=none->H' l=some (.lst ((gf y).map V.int))->Q (.ref l) H')->aa [v] H Q E0)(NoGap:Kq P w K mg base "NoGap" "number" cG fG dG)(Twice:Kq P w K mg base "Twice" "name" cT fT dT)(z_enumerate:mg "enumerate"=none):
  bH P w K mg base (Eu P w) 5 f fd Wx (wO K tr gf okA gG cG cT):=by
 refine F.JR bX (λvs H Q E h=>?_) (λbn A ap s H vs Q E hr h=>?_)
 .have(_,_,_,_,rfl,_):=h;rfl
 have(v,lt,d,o,rfl,rv,ax,fo,av,ah,k):=h;refine#[_,(Z5 (Z2 bX.nd cE 3 (Zc (ak dm) VN ["n","put"] [] (dZ (va aI 0)) (λ_ _ _ _=>(Zb (Zi (Z3 (i:=0) (show(["n","put"]:List Str).Nodup by decide)) (aJ (Z3 (i:=1) (show(["n","put"]:List Str).Nodup by decide)) aX)))) (λ_ _ _ _=>(va (show Nm ["n","put"] _ by left) 0)))) (Z5 (@qA _ _ _ _ _ _ _ _ (nJ rfl rfl rfl) rfl (cJ (va aI 3)) (ga bX.nd cE 4) (Ze (Zd (fh pS (va aI 4) (va aI 1) (by with_unfolding_all rfl)) (Ze (@tQ _ _ _ _ _ rfl (@wB _ _ _ _ _ _ _ _ _ _ _ _ _ _ _ _ _ NoGap.k NoGap.ok (hr.mono ()) (by left) NoGap.m NoGap.bd .nil kL (Za (va aI 4)) (by decide) (by rfl) (by rfl)))))) (by intro _;rfl)) (Z5 (@qA _ _ _ _ _ _ _ _ (nJ rfl rfl rfl) rfl (Fw K rfl (by left) z_enumerate (Za (va aI 3))) (Zb (Zi (ga bX.nd cE 5) (aJ (ga bX.nd cE 4) aX))) (Ze (Zd (@fh _ _ _ _ _ _ _ _ jE (va aI 4) (@bZ _ _ _ _ _ _ _ _ _ _ iC (va aI 3) cW (bL (va aI 5))) (by with_unfolding_all rfl)) (Ze (@tQ _ _ _ _ _ rfl (@wB _ _ _ _ _ _ _ _ _ _ _ _ _ _ _ _ _ Twice.k Twice.ok (hr.mono ()) (by left) Twice.m Twice.bd .nil kL (Za (va aI 4)) (by decide) (by rfl) (by rfl)))))) (by intro _;rfl)) (Z5 (Zf (ak dm) VN ["n"] [3] (cJ (va aI 1)) (λ_ _ _ _=>(Z3 (i:=0) (show(["n","numbers"]:List Str).Nodup by decide))) (λ_ _ _ _=>(@fE _ _ _ (fh (iT K rfl) (va (show Nm ["n","numbers"] _ by left) 0) (va (show Nm ["n","numbers"] _ by left) 1) (by with_unfolding_all rfl)))) (λ_ _ _ _=>(va (show Nm ["n","numbers"] _ by left) 0)) (ga bX.nd cE 6)) (Ze (@qA _ _ _ _ _ _ _ _ (nJ rfl rfl rfl) rfl (dZ (va aI 0)) (Zb (Zi (ga bX.nd cE 4) (aJ (ga bX.nd cE 7) aX))) (Ze (@qA _ _ _ _ _ _ _ _ (nJ rfl rfl rfl) rfl (@cJ _ _ _ _ (@tu _ (λf sp=>f=gG/\sp=aa) _ _ _ _ _ _ _ (λf sp h=>by have(rfl,rfl):=h;exact#[4,_,_,GO,hr.mono (),kG,bG]) (va aI 2) (Za (va aI 7)) (by rfl) (by rfl))) (ga bX.nd cE 8) (Z5 (Zd (fh jE (va aI 8) (va aI 6) (by with_unfolding_all rfl)) (Ze (@tQ _ _ _ _ _ rfl (@wB _ _ _ _ _ _ _ _ _ _ _ _ _ _ _ _ _ Twice.k Twice.ok (hr.mono ()) (by left) Twice.m Twice.bd .nil kL (Za (va aI 8)) (by decide) (by rfl) (by rfl))))) (Ze (@cC _ _ _ _ (Z8 MN MO cQ (va aI 6) (Za (va aI 8))) (by rfl)))) (by intro _;rfl))) (by intro _;rfl))))))),?_]
 right
 try dsimp only[cxE_K,cxo_K]
 refine lB ?_;intro N1 N2 N3 N4 c1 c2 c3 c4;have(a,us,rfl,sq,rs):=rv.bq;have ag:=rs.length;rw[bC]at ag;have bh:=fo.len;ext;refine jH (K:=K) (e:=kH tr) (φ:=λp=>[.i p.1]) (λr=>∃y0 y1,r=[y0,y1]) sq rs () (λ_=>mu _) #[_,_,rfl] ?_ ?_
 .rintro p I xv _ G N s2 ⟨_,_,rfl⟩ rx kN;have(xa,x1,x2,rfl,ac,e1,e2):=(show Rp K G (.t [.i p.1,tr p.2]) xv from rx).t2;obtain rfl:=e1.di;ext;exact kN _ _ _ #[#[_,_,rfl],aF.refl _,.one .i]
 intro S H1 ba s1 bg h1 r1;rw[kE,show(λp:Int×α=>T.i p.1)=T.i ∘ (·.1)from rfl,<-Ph]at r1;obtain rfl:=r1.jb;have bk:=gb (o.map (·.1));have flt:=gb d;have X:=s1 _ _ ax;ext;refine mW (K:=K) (xs:=(o.map (·.1)).map V.int) (λi r G=>(∃o4,r=[some (.ref a),some (.ref lt),some (.ref gG),some (.ref S),o4,none,none,none,none])/\G=H1/\(o.map (·.1)).find? (λn=>!decide (n∈d))=((o.map (·.1)).drop i).find? (λn=>!decide (n∈d))) #[#[_,rfl],rfl,rfl] ?_ ?_ ?_
 .rintro i r G _ ⟨_,rfl,_⟩;exact bu.of h1
 .rintro i xv r G hx ⟨⟨_,rfl⟩,rfl,B⟩;rw[rj]at hx;have(n,I,rfl):=ur.mp hx;have u:=iH (n:=n) (ns:=d);have ab:bu K G lt (d.map V.int)\/bQ K G lt (d.map V.int):=.inl (bu.of X);ext
  by_cases J:n∈d
  .rw[decide_eq_true J]at u;refine oU (by show(!rK (V.int n) (d.map V.int))=false;rw[u];rfl) ?_;exact#[#[_,rfl],rfl,B.trans (Cg I (by simp[J]))]
  .rw[decide_eq_false J]at u;refine xX (by show(!rK (V.int n) (d.map V.int))=true;rw[u];rfl) ?_;have e0:=B.trans (Eg I (by simp[J]));have tt:=(av n (by unfold qJ;rw[e0])).same s1;ext;exact tR NoGap.c tt
 rintro r G ⟨⟨o4,rfl⟩,rfl,B⟩;rw[bC,OF,List.find?_nil]at B;have bi:oi K false G S ((o.map (·.1)).map V.int):=bu.of h1;ext;refine DE (K:=K) (xs:=(o.map (·.1)).map V.int) (λi r H3=>(∃o4 o5,r=[some (.ref a),some (.ref lt),some (.ref gG),some (.ref S),o4,o5,none,none,none])/\aF G H3/\jm [] (o.map (·.1))=jm ((o.map (·.1)).take i) ((o.map (·.1)).drop i)) #[#[_,_,rfl],aF.refl _,rfl] ?_ ?_ ?_
 .rintro i r H3 _ ⟨_,D,_⟩;exact bu.of (D _ _ h1)
 .rintro i xv r H3 p hx ⟨⟨_,_,rfl⟩,D,Y⟩ I;rw[rj]at hx;have(n,hn,rfl):=ur.mp hx;have R:=ae I (.tup [.int (i:Int),.int n]);have h4:bQ K (upd H3 p (.tup [.int (i:Int),.int n])) p [.int (i:Int),.int n]:=bQ.of af;generalize upd H3 p (.tup [.int (i:Int),.int n])=H4 at R h4|-;have bj:=R _ _ (D _ _ h1);rw[vB hn]at Y;ext;intro p5 aw;rw[fY,<-NS (f:=V.int)];have C:=ae aw (.lst (((o.map (·.1)).take i).map V.int));have h5:bu K (upd H4 p5 (.lst (((o.map (·.1)).take i).map V.int))) p5 (((o.map (·.1)).take i).map V.int):=bu.of af;generalize upd H4 p5 (.lst (((o.map (·.1)).take i).map V.int))=O at C h5|-;have ab:bu K O p5 (((o.map (·.1)).take i).map V.int)\/bQ K O p5 (((o.map (·.1)).take i).map V.int):=.inl h5;have bm:=gb ((o.map (·.1)).take i);have u:=iH (n:=n) (ns:=(o.map (·.1)).take i);ext
  by_cases z:n∈(o.map (·.1)).take i
  .rw[decide_eq_true z]at u;rw[if_pos z]at Y;refine xX (by show rK _ _=true;exact u) ?_;have tt:=(ah n (by unfold qJ;rw[B];simp only[Y])).same (s1.trans ((D.trans R).trans C));ext;exact tR Twice.c tt
  .rw[decide_eq_false z]at u;rw[if_neg z]at Y;refine oU (by show rK _ _=false;exact u) ?_;exact#[#[_,_,rfl],(D.trans R).trans C,Y]
 rintro r H3 ⟨⟨bc,o5,rfl⟩,D,Y⟩;rw[bC,OF]at Y;have am:jm [] (o.map (·.1))=none:=Y;have aj:=D _ _ X;have a3:=D _ _ h1;ext;refine eR (K:=K) (e:=T.i) (φ:=λn=>if n∈o.map (·.1)then []else [.i n]) (λr=>∃y,r=[y,some (.ref S)]) aj (bN.AF _) fo.tl (λn=>by by_cases h:n∈o.map (·.1)<;>simp[h]) #[_,rfl] ?_ ?_
 .rintro n hn xv _ H4 N R ⟨_,rfl⟩ rx kN;obtain rfl:=rx.di;have ab:bu K H4 S ((o.map (·.1)).map V.int)\/bQ K H4 S ((o.map (·.1)).map V.int):=.inl (bu.of (R _ _ a3));have u:=iH (n:=n) (ns:=o.map (·.1));ext
  by_cases h:n∈o.map (·.1)
  .rw[decide_eq_true h]at u;refine oU (by show(!rK _ _)=false;rw[u];rfl) ?_;exact kN _ _ _ #[#[_,rfl],aF.refl _,by rw[if_pos h];exact .nil]
  .rw[decide_eq_false h]at u;refine xX (by show(!rK _ _)=true;rw[u];rfl) ?_;ext;exact kN _ _ _ #[#[_,rfl],aF.refl _,by rw[if_neg h];exact .one .i]
 intro U H4 a9 R az h4 r4;rw[AX]at r4;obtain rfl:=r4.jb;have ad:=(s1.trans D).trans R;have al:H U=none:=(s1.trans D).free az;have bf:(d.filter λn=>!decide (n∈o.map (·.1))).length<=900:=FA (O3 ..) fo.tl;have bb:=sq.same ad;have a8:(d.filter λn=>!decide (n∈o.map (·.1))).length+50*8<1400:=()
 ext;refine nT (K:=K) (xs:=us) (λi r O=>(∃o4 o5 o7 o8,r=[some (.ref a),some (.ref lt),some (.ref gG),some (.ref S),o4,o5,some (.ref U),o7,o8])/\aF H O/\O U=some (.lst (((d.filter λn=>!decide (n∈o.map (·.1)))++(o.take i).flatMap λp=>gf p.2).map V.int))/\jm (d.filter λn=>!decide (n∈o.map (·.1))) (o.flatMap λp=>gf p.2)=jm ((d.filter λn=>!decide (n∈o.map (·.1)))++(o.take i).flatMap λp=>gf p.2) ((o.drop i).flatMap λp=>gf p.2)) #[#[_,_,_,_,rfl],ad,by rw[OH];simpa using h4,by simp] ?_ ?_ ?_
 .rintro i r O _ ⟨_,C,_⟩;exact sq.same C
 .rintro i xv r O hx ⟨⟨_,_,_,_,rfl⟩,C,h5,d5⟩;have(tx,ai,rx):=rs.get' hx;rw[rj]at ai;have(p,I,rfl):=ur.mp ai;have(xa,x1,x2,rfl,ac,e1,e2):=(show Rp K H (.t [.i p.1,tr p.2]) xv from rx).t2;obtain rfl:=e1.di;have(ar,be):=fo.ok p (t9 I);have a7:=ac.same C;have a6:=hsp x2 p.2 O;have a4:=e2.same C;generalize hA:(d.filter λn=>!decide (n∈o.map (·.1)))++(o.take i).flatMap (λp=>gf p.2)=A at h5 d5;rw[mq I,NJ]at d5
  have lA:A.length<=900+8*50:=by
   rw[<-hA,j3];have h1:((o.take i).flatMap λp=>gf p.2).length<=(o.take i).length*50:=tE λq hq=>(fo.ok q (MT hq)).2;rw[we]at h1;omega
  ext;refine a6 _ a4 ar λl6 H6 s6 a0 h6=>?_;have an:=C.trans s6;have a2:=s6 _ _ h5;have as:U≠l6:=au h5 a0;ext;refine mW (K:=K) (xs:=(gf p.2).map V.int) (λj r Z=>(∃o5 o8,r=[some (.ref a),some (.ref lt),some (.ref gG),some (.ref S),some (.int p.1),o5,some (.ref U),some x2,o8])/\aF H Z/\Z l6=some (.lst ((gf p.2).map V.int))/\Z U=some (.lst ((A++(gf p.2).take j).map V.int))/\jm (d.filter λn=>!decide (n∈o.map (·.1))) (o.flatMap λp=>gf p.2)=jm (A++(gf p.2).take j) ((gf p.2).drop j++(o.drop (i+1)).flatMap λp=>gf p.2)) #[#[_,_,rfl],an,h6,by rw[OH,M5];exact a2,by rw[OH,M5];exact d5] ?_ ?_ ?_
  .rintro j r Z _ ⟨_,_,h,_,_⟩;exact bu.of h
  .rintro j yv r Z hy ⟨⟨w,_,rfl⟩,s7,a1,L,M⟩;rw[rj]at hy;have(g,hg,rfl):=ur.mp hy;rw[vC hg]at M;have u:=iH (n:=g) (ns:=A++(gf p.2).take j);have ab:bu K Z U ((A++(gf p.2).take j).map V.int)\/bQ K Z U ((A++(gf p.2).take j).map V.int):=.inl (bu.of L);have bl:=gb (A++(gf p.2).take j);have hz:((A++(gf p.2).take j).map V.int).length<mC:=zo (show _<1500 by rw[bC,j3,we];omega) (by decide);ext
   by_cases z:g∈A++(gf p.2).take j
   .rw[decide_eq_true z]at u;rw[if_pos z]at M;refine xX (by show rK _ _=true;exact u) ?_;have tt:=(ah g (by unfold qJ;rw[B];simp only[am,M])).same s7;ext;exact tR Twice.c tt
   rw[decide_eq_false z]at u;rw[if_neg z]at M;refine oU (by show rK _ _=false;exact u) ?_
   have e9:(A++(gf p.2).take (j+1)).map V.int=(A++(gf p.2).take j).map V.int++[V.int g]:=by
    rw[fZ hg,<-M6,m3];rfl
   ext
   .exact s7.tw al _
   exact#[by rw[ay as.symm];exact a1,by rw[af,e9],M]
  .rintro r Z ⟨⟨_,_,rfl⟩,s7,_,L,M⟩;rw[bC,MS]at L M;rw[OF,PR]at M
   have eA:(d.filter λn=>!decide (n∈o.map (·.1)))++(o.take (i+1)).flatMap (λp=>gf p.2)=A++gf p.2:=by
    rw[<-hA,fZ I,Nv,<-M6];simp
   exact#[#[_,_,_,_,rfl],s7,by rw[L,eA],by rw[M,eA]]
 rintro r O ⟨⟨_,_,_,_,rfl⟩,C,h5,d5⟩;have e5:us.length=o.length:=ag;rw[e5,OF]at d5;have a5:jm (d.filter λn=>!decide (n∈o.map (·.1))) (o.flatMap λp=>gf p.2)=none:=d5;ext;exact k (by unfold qJ;rw[B];simp only[am,a5]) _ C
theorem yM :∀{kvs acc:List (Key×V)},((acc++kvs).map (·.1)).Nodup->fD acc kvs=acc++kvs
 | [],acc,_=>(M5 acc).symm
 |kv::r,acc,h=>by
  have g:∀q∈acc,q.1≠kv.1:=by
   intro q d e;rw[m3,NZ]at h;exact h.2.2 q.1 (Ni d) kv.1 (Ni (.head _)) e
  show fD (putK acc kv.1 kv.2) r=_;rw[A2 g,yM (by rw[M6];exact h),M6];rfl
theorem yN (K:bA)(g:X.K=K)(e:X.calm=true):j4 X (.type "dict") (λxs H Q=>∃p ys kvs,xs=[.ref p]/\(H p=some (.lst ys)\/bQ K H p ys)/\sZ K H kvs ys/\∀d,H d=none->Q (.ref d) (upd H d (.dK (fD [] kvs)))):=by
 subst g;exact tq e
noncomputable def yS{d:Type}(e:List (Int×d))(n:Int):Option d:=(e.find? λp=>decide (p.1=n)).map (·.2)
theorem yO {tr:j->T}:∀{d:List (Int×j)}{us:List V},bN K H (d.map (kH tr)) us->∃kvs:List (Key×V),sZ K H kvs us/\kvs.map (·.1)=d.map (λp=>(Sum.inl p.1:Key))/\∀n,(∀y,yS d n=some y->∃v,eF kvs (Sum.inl n)=some v/\Rp K H (tr y) v)/\(yS d n=none->eF kvs (Sum.inl n)=none)
 | [],us,h=>by
  obtain rfl:=h.iE;exact#[[],.nil,rfl,λn=>#[λy e=>(by cases e),λ_=>rfl]]
 |p::d,us,h=>by
  have(u,q,rfl,m,o):=h.inv;have(a,D,g,rfl,l,B,A):=(show Rp K H (.t [.i p.1,tr p.2]) u from m).t2;obtain rfl:=B.di;have(kvs,C,w,r):=yO o;refine#[(Sum.inl p.1,g)::kvs,.cons #[a,rfl,l] C,by rw[M0,w];rfl,λn=>?_]
  by_cases e:p.1=n
  .have l1:yS (p::d) n=some p.2:=by unfold yS;rw[QZ (by simpa using e)];rfl
   have l2:eF ((Sum.inl p.1,g)::kvs) (Sum.inl n)=some g:=by unfold eF;rw[QZ (by simpa using e)];rfl
   rw[l1,l2];exact#[λy z=>by cases z;exact#[g,rfl,A],λz=>by cases z]
  .have l1:yS (p::d) n=yS d n:=by unfold yS;rw[QY (by simpa using e)]
   have l2:eF ((Sum.inl p.1,g)::kvs) (Sum.inl n)=eF kvs (Sum.inl n):=by unfold eF;rw[QY (by simpa using e)]
   rw[l1,l2];exact r n
theorem A8 {tr:g->T}{j:List (Int×g)}(r:Rp K H (.t (j.map (kH tr))) v)(w:(j.map (·.1)).Nodup):∃p ys kvs,v=.ref p/\(H p=some (.lst ys)\/bQ K H p ys)/\sZ K H kvs ys/\∀d,H d=none->nA K tr (upd H d (.dK (fD [] kvs))) d (yS j):=by
 have(a,m,rfl,o,q):=r.bq;have(kvs,D,A,l):=yO q
 have z:fD [] kvs=kvs:=by
  have:=yM (acc:=[]) (kvs:=kvs) (by
   rw[PR,A,show(λp:Int×g=>(Sum.inl p.1:Key))=Sum.inl ∘ (·.1)from rfl,<-Ph];exact(List.pairwise_map.mpr (w.imp λh e=>h (Vb e))))
  simpa using this
 refine#[a,m,kvs,rfl,.inr o,D,λd hd=>#[kvs,by rw[z];exact af,λn=>#[λy e=>?_,(l n).2]]];have(u,C,B):=(l n).1 y e;exact#[u,C,B.same (ae hd _)]
noncomputable def putD(pt:Int->Option Tm)(e:Int->Option Kk)(d:Str×List (Str×Kk)×Tm):Str×List (Str×Kk)×Tm:=(d.1,d.2.1.map (λp=>(p.1,uf e p.2)),nI pt d.2.2)
noncomputable def mE(d e:List Int)(ft:List (Int×Tm))(fk:List (Int×Kk)):Option (Bool×Int):=match qJ tS e fk with
 |some x=>some x
 |none=>qJ lK d ft
theorem GC {gf:j->List Int}{l:List (Int×j)}(h:qJ gf d l=none):(l.map (·.1)).Nodup:=by
 have g:∀L A:List Int,jm A L=none->L.Nodup/\∀x∈L,x∉A:=by
  intro L
  induction L with
  |nil=>exact λA _=>#[Ua,λ_ z=>nomatch z]
  |cons x r ih =>
   intro A h;unfold jm at h
   split at h
   .cases h
   rename_i m
   have(a,b):=ih _ h;refine#[O9.mpr #[λz=>b x z (I0 _ (.head _)),a],λy hy=>?_];rcases vy.mp hy with rfl|hy
   .exact m
   .exact λz=>b y hy (M8 _ z)
 unfold qJ at h
 split at h
 .cases h
 split at h
 .cases h
 rename_i e
 exact(g _ _ e).1
def GD(k:Kk):Prop:=k.dep<=100
def yP(K:bA)(Pt r q:Addr):Sp:=λm H Q E=>∃(v j l:V) (kt:T) (e:List (Str×List (Str×Kk)×Tm)) (ft:List (Int×Tm)) (fk:List (Int×Kk)),m=[v,j,l]/\Rp K H (oH kt e) v/\rm e/\(∀d∈e,∀p∈d.2.1,p.2.dep<=100)/\Rp K H (.t (ft.map (kH enc))) j/\Rp K H (.t (fk.map (kH cu))) l/\Ew lK Gz (bf e) ft/\Ew tS GD (bI e) fk/\jD H Pt om iK /\
 (∀n,mE (bf e) (bI e) ft fk=some (true,n)->Told E H r "number" (.int n))/\(∀n,mE (bf e) (bI e) ft fk=some (false,n)->Told E H q "name" (.int n)) /\
 (mE (bf e) (bI e) ft fk=none->∀o g,rA Pt H g->jD g Pt om iK->Q o g)
theorem gj (g:jD H Pt d q)(s:aF H e):jD e Pt d q:=by
 rcases g with h|⟨c,h1,h2⟩
 .exact .inl (s _ _ h)
 .exact .inr #[c,s _ _ h1,s _ _ h2]
theorem JX (j:jD H Pt g q)(h:H d=none):Pt≠d:=by
 rcases j with e|⟨c,e,_⟩<;>exact au e h
theorem A9 (j:jD H Pt g q)(h:H d=some (.lst xs)):d≠Pt:=λz=>by
 subst z;rcases j with e|⟨c,e,_⟩<;>(rw[h]at e;cases e)
theorem Iw (j:jD H Pt g q)(h:H d=some (.lst xs))(ys:List V):jD (upd H d (.lst ys)) Pt g q:=by
 have n:=A9 j h;rcases j with e|⟨c,e1,e2⟩
 .exact .inl (by rw[ay n.symm];exact e)
 .refine .inr #[c,by rw[ay n.symm];exact e1,?_];rw[ay (λz=>by subst z;rw[h]at e2;unfold mR at e2;cases e2)];exact e2
theorem Eh (pt:Int->Option Tm)(e:Int->Option Kk)(d:Str×List (Str×Kk)×Tm):vW (putD pt e d)=.t [.s d.1,.t (d.2.1.map λp=>.t [.s p.1,cu (uf e p.2)]),enc (nI pt d.2.2)]:=by
 unfold vW putD;rw[Ph];rfl
structure FI(K:bA) (Pt:Addr) (H:Hp) (ld:Addr) (ts:List T) (H':Hp):Prop where
 g:rA Pt H H'
 tb:jD H' Pt om iK
 l:∃us,H' ld=some (.lst us)/\bN K H' ts us
theorem dj :Nm VM (ak kU):=by decide
theorem iQ :Lm VM (ak kU):=by decide
theorem iu :aK VM WS (ak kU):=#[rfl,rfl,rfl,by decide,rfl,by decide,by decide]
theorem Ci (F:ic K "filled" "filled" kU f fd)(GS:dH P w K mg base "gaps" 5 ["program"] (Dc K) gG gfd)(mA:mg "gaps_in"=some (.ref gA))(mO:mg "opens_in"=some (.ref gO))(I:FH P w K mg base "look_fillings" 5 Wx (wO K cu tS GD gO cG cT) gL lfd)(G:FH P w K mg base "look_fillings" 5 Wx (wO K enc lK Gz gA cG cT) gL lfd)(b0:dH P w K mg base "kind_put" 2 ["kind","puts"] (De K) gP pfd)(bz:dH P w K mg base "with_gaps_put" 6 ["term","puts"] (DA K Pt) gW wfd)(j:mg "tuple"=none)(m:mg "dict"=none):
  bH P w K mg base (Eu P w) 7 f fd WS (yP K Pt cG cT):=by
 refine F.JR iu (λvs H Q E h=>?_) (λcr A be s H vs Q E hr h=>?_)
 .have(_,_,_,_,_,_,_,rfl,_):=h;rfl
 have(v,vt,vk,kt,D,ft,fk,rfl,rv,a6,bn,ag,ah,cn,co,tb,kG,kT,k):=h;refine#[_,(Z5 (Zp (Z0 GS (Za (va dj 0))) (Zb (Zi (ga iu.nd iQ 3) (aJ (ga iu.nd iQ 4) aX)))) (Z5 (@cC _ _ _ _ (@iA _ _ _ _ _ _ _ _ _ _ _ _ _ _ _ _ I.ok (hr.mono ()) (by left) I.at' I.kp I.bd .nil DJ (Z1 (va dj 2) (Z1 (va dj 4) (Za (dh (v:=.ref gO) (by left) mO rfl)))) (by decide) (by rfl) (by rfl)) (by rfl)) (Z5 (@cC _ _ _ _ (@iA _ _ _ _ _ _ _ _ _ _ _ _ _ _ _ _ G.ok (hr.mono ()) (by left) G.at' G.kp G.bd .nil DJ (Z1 (va dj 1) (Z1 (va dj 3) (Za (dh (v:=.ref gA) (by left) mA rfl)))) (by decide) (by rfl) (by rfl)) (by rfl)) (Z5 (sa iu.nd iQ 5 (bh ao)) (Z5 (@qA _ _ _ _ _ _ _ _ (nJ rfl rfl rfl) rfl (@dZ _ _ _ _ (Z9 aZ (va dj 0))) (@iS _ _ _ _ _ (3) K rfl rfl (Zi (ga iu.nd iQ 6) (Zi (ga iu.nd iQ 7) (aJ (ga iu.nd iQ 8) aX))) (by rfl) (by rfl)) (Z5 (Z2 iu.nd iQ 9 (Z6 aU j MJ (Z1 (Zc (ak kU) VM WT [2] (dZ (va dj 7)) (λ_ _ _ _=>(Zb (Zi (Z3 (i:=0) (show(Wy:List Str).Nodup by decide)) (aJ (Z3 (i:=1) (show(Wy:List Str).Nodup by decide)) aX)))) (λ_ _ _ _=>(Zg (Z1 (va (show Nm Wy _ by left) 0) (Z1 (Z0 b0 (Z1 (va (show Nm Wy _ by left) 1) (Z1 (Z6 (yN K rfl rfl) m Tu (Za (va (show Nm Wy _ by left) 2))) ao))) ao))))) ao))) (Ze (@cC _ _ _ _ (Z8 MN MO cQ (va dj 5) (Z1 (Zg (Z1 (va dj 6) (Z1 (va dj 9) (Z1 (Z0 bz (Z1 (va dj 8) (Z1 (Z6 (tq rfl) m Tu (Za (va dj 1))) ao))) ao)))) ao)) (by rfl)))) (by intro _;rfl)) (Ze (Zo (Zg (Z1 (Z9 aZ (va dj 0)) (Z1 (Z6 aU j MJ (Za (va dj 5))) ao)))))))))),?_]
 right
 try dsimp only[cxE_K,cxo_K]
 refine sX ?_;intro N1 N2 N3 N4 N5 c1 c2 c3 c4 c5;ext;intro p1 l1 l2 H1 s1 ci ch ce bt bs cm;have cl:=bQ.of (K:=K) bt;have b4:=ah.same s1;have aG:∀n,qJ tS (bI D) fk=some (true,n)->Told E H1 cG "number" (.int n):=λn e=>(kG n (by unfold mE;rw[e])).same s1;have aT:∀n,qJ tS (bI D) fk=some (false,n)->Told E H1 cT "name" (.int n):=λn e=>(kT n (by unfold mE;rw[e])).same s1;ext;intro ek H2 s2;have B:=s1.trans s2;have b3:=ag.same B;have ck:=s2 _ _ bs;have bx:mE (bf D) (bI D) ft fk=qJ lK (bf D) ft:=by unfold mE;rw[ek]
 rw[bx]at kG kT k;have bG:∀n,qJ lK (bf D) ft=some (true,n)->Told E H2 cG "number" (.int n):=λn e=>(kG n e).same B;have bT:∀n,qJ lK (bf D) ft=some (false,n)->Told E H2 cT "name" (.int n):=λn e=>(kT n e).same B;ext;intro et H3 s3;have bk:=GC ek;have bi:=GC et;have ad:=B.trans s3;ext;intro T az;have s4:=ad.trans (ae az (.lst []));have h4:upd H3 T (.lst []) T=some (.lst []):=af;have ax:=ad.free az;generalize upd H3 T (.lst [])=H4 at s4 h4|-;have(pa,v0,v1,rfl,am,cb,a9):=(show Rp K H (.t [kt,.t (D.map vW)]) v from rv).t2;have(da,bw,rfl,a4,a5):=a9.bq;have ap:=a5.length;rw[bC]at ap;have b6:=am.same s4;have b7:=a4.same s4;ext;refine nT (K:=K) (xs:=bw) (λi W H5=>(∃o6 o7 o8 o9,W=[some (.ref pa),some vt,some vk,some (.ref l1),some (.ref l2),some (.ref T),o6,o7,o8,o9])/\FI K Pt H T (((D.take i).map (putD (yS ft) (yS fk))).map vW) H5) #[#[_,_,_,_,rfl],#[λb o _ e=>s4 _ _ e,gj tb s4,[],h4,.nil]] ?_ ?_ ?_
 .rintro i W H5 _ ⟨_,fi⟩;exact a4.kt (mh tb fi.g)
 .rintro i xv W H5 hx ⟨⟨_,_,_,_,rfl⟩,fi⟩;have L:=mh tb fi.g;have(us,h5,r5):=fi.l;have(tx,as,rx):=a5.get' hx;rw[rj]at as;have(d,hd,rfl):=ur.mp as;have a0:=t9 hd;have(b2,b9,cd):=a6.2 d a0;have(xa,x1,x2,x3,rfl,a7,e1,e2,e3):=(show Rp K H (.t [.s d.1,.t (d.2.1.map vV),enc d.2.2]) xv from rx).t3;obtain rfl:=e1.bj;have(qa,cc,rfl,bb,bc):=e2.bq;have b1:=a7.kt L;have al:=bb.kt L;ext;refine jH (K:=K) (e:=vV) (φ:=λp=>[.t [.s p.1,cu (uf (yS fk) p.2)]]) (λW=>∃y0 y1,W=[y0,y1,some vk]) al (bc.kt L) () (λ_=>mu _) #[_,_,rfl] ?_ ?_
  .rintro p hp yv _ H6 N R ⟨_,_,rfl⟩ ry kN;have(ya,y1,y2,rfl,b8,g1,g2):=(show Rp K H6 (.t [.s p.1,cu p.2]) yv from ry).t2;obtain rfl:=g1.bj;have(ka,bm,r,rfl,bp,bo,u):=A8 ((ah.kt L).same R) bk;have cj:=bn d a0 p hp;ext;intro d7 a1;have X:=u d7 a1;have y:=ae a1 (.dK (fD [] r));have bv:=g2.same y;generalize upd H6 d7 (.dK (fD [] r))=H7 at X y bv|-;ext
   try refine#[yS fk,?_]
   ext;intro v8 H8 J r8;ext;intro p9 av;exact kN _ _ _ #[#[_,_,rfl],(y.trans J).trans (ae av _),.one (Rp.new (K:=K) (xs:=[.s p.1,cu (uf (yS fk) p.2)]) av (.cons .s (.one r8)))]
  intro l6 H6 Z R cg h6 r6;rw[kE]at r6;ext;refine .inl #[bu.of h6,λX C=>?_];have y:=ae C (.tup Z);have r7:=Rp.new (K:=K) C r6;generalize upd H6 X (.tup Z)=H7 at y r7|-;have z:=R.trans y;have ab:=gj fi.tb z;have(ka,bm,r,rfl,bp,bo,u):=A8 ((ag.kt L).same z) bi;have a2:=z _ _ h5;ext;intro d8 U;have p8:=u d8 U;have n8:=JX ab U;have J:=ae U (.dK (fD [] r));generalize upd H7 d8 (.dK (fD [] r))=H8 at p8 J|-;have S:=z.trans J;have cp:=(e3.kt L).same S;have aa:=gj ab J;have ca:d.2.2.size<=400:=()
  ext
  try refine#[yS ft,?_]
  ext;intro v9 H9 g9 a8 r9;have k9:=mh aa g9;have bg:T≠Pt:=A9 aa (J _ _ a2);have br:=g9 _ _ bg (J _ _ a2);have ba:=(r7.same J).kt k9;ext;intro an M;have q:=ae M (.tup [.str d.1,.ref X,v9]);have aj:=Rp.new (K:=K) (xs:=[.s d.1,.t (d.2.1.map λp=>.t [.s p.1,cu (uf (yS fk) p.2)]),enc (nI (yS ft) d.2.2)]) M (.cons .s (.cons ba (.one r9)));generalize upd H9 an (.tup [.str d.1,.ref X,v9])=H10 at q aj|-;have O:=q _ _ br;have ac:=gj a8 q;have ai:=((r5.same S).kt k9).same q;have bl:=r5.length;have cq:=a6.1;have cf:us.length<mC:=bD (by rw[bl,bC,bC,we];omega);have a3:rA Pt H H10:=λb o Y e=>q _ _ (g9 _ _ Y (S _ _ (fi.g _ _ Y e)));ext;have ar:Kt H10 (upd H10 T (.lst (us++[V.ref an]))):=Kt.lst O _;refine#[λb o Y e=>by rw[ay (au e ax)];exact a3 _ _ Y e,Iw ac O _,_,af,?_];rw[fZ hd,m3,m3,Sf,Sf,Eh];exact(ai.kt ar).snoc (aj.kt ar)
 rintro W H5 ⟨⟨_,_,_,_,rfl⟩,fi⟩;rw[ap,MS]at fi;have(us,h5,r5):=fi.l;have L:=mh tb fi.g;have b5:=am.kt L;ext;refine .inl #[bu.of h5,λp6 aw=>?_];have R:=ae aw (.tup us);have r6:=Rp.new (K:=K) aw r5;generalize upd H5 p6 (.tup us)=H6 at R r6|-;ext;intro X C;have y:=ae C (.tup [v0,.ref p6]);exact k et _ _ (λb o Y e=>y _ _ (R _ _ (fi.g _ _ Y e))) (gj (gj fi.tb R) y)
inductive uE(H:Hp):Option (Bool×Int)->V->Prop
 |none:uE H none .gq
 |some {b:Bool}{n:Int}{p:Addr}:H p=some (.tup [.str (if b then "no gap" else "twice"),.int n])->uE H (some (b,n)) (.ref p)
theorem uE.same (a:uE H o v)(s:aF H d):uE d o v:=by
 cases a with
 |none=>exact .none
 |some h=>exact .some (s _ _ h)
def wQ{e:Type}(K:bA)(tr:e->T)(gf:e->List Int)(okA:e->Prop)(o:Addr):Sp:=λm H Q _=>∃(v:V) (lt:Addr) (d:List Int) (g:List (Int×e)),m=[.ref lt,v,.ref o]/\Rp K H (.t (g.map (kH tr))) v/\H lt=some (.lst (d.map V.int))/\Ew gf okA d g /\
 ∀l j,aF H j->uE j (qJ gf d g) l->Q l j
theorem bJ :Nm Vu (ak ig):=by decide
theorem gZ :Lm Vu (ak ig):=by decide
theorem fO :aK Vu Wg (ak ig):=#[rfl,rfl,rfl,by decide,rfl,by decide,by decide]
theorem yQ {tr:α->T}{gf:α->List Int}{okA:α->Prop}(F:ic K "_law_amiss" "_law_amiss" ig f fd)(GO:bH P w K mg base eZ jw gG gfd [x] X)(kG:NF K (.ref gG)=true)(bG:Binds K gfd [x] [])(hsp:∀(v:V) (y:α) (H:Hp) (Q:VK),Rp K H (tr y) v->okA y->(∀l H',aF H H'->H l=none->H' l=some (.lst ((gf y).map V.int))->Q (.ref l) H')->X [v] H Q E0)(z_len:mg "len"=none)(z_range:mg "range"=none):
  bH P w K mg base eZ (jw+1) f fd Wg (wQ K tr gf okA gG):=by
 refine F.ok fO (λvs H Q E h=>?_) (λbw A ar s H vs Q E hr h=>?_)
 .have(_,_,_,_,rfl,_):=h;rfl
 have(v,lt,d,m,rfl,rv,a1,fo,k):=h;refine#[_,(Z5 (Z2 fO.nd gZ 3 (Zc (ak ig) Vu WQ [] (dZ (va bJ 1)) (λ_ _ _ _=>(Zb (Zi (Z3 (i:=0) (show(WQ:List Str).Nodup by decide)) (aJ (Z3 (i:=1) (show(WQ:List Str).Nodup by decide)) aX)))) (λ_ _ _ _=>(va (show Nm WQ _ by left) 0)))) (Z5 (Zf (ak ig) Vu ["_law_n"] [0] (cJ (va bJ 3)) (λ_ _ _ _=>(Z3 (i:=0) (show(Wz:List Str).Nodup by decide))) (λ_ _ _ _=>(@fE _ _ _ (fh (iT K rfl) (va (show Nm Wz _ by left) 0) (va (show Nm Wz _ by left) 1) (by with_unfolding_all rfl)))) (λ_ _ _ _=>(va (show Nm Wz _ by left) 0)) (ga fO.nd gZ 4)) (Z5 (Zd (Zj mH (Z4 (Za (va bJ 4))) aq) (Ze (Zo (Zg (Z1 aB (Z1 (Z9 aN (va bJ 4)) ao)))))) (Z5 (Zk (Zn (Z1 (Z4 (Za (va bJ 3))) ao)) (ga fO.nd gZ 5) (Ze (Zd (@fh _ _ _ _ _ _ _ _ jE (gm aN (va bJ 3) (va bJ 5) (λ_ _=>rfl)) (@bZ _ _ _ _ _ _ _ _ _ _ iC (va bJ 3) cW (bL (va bJ 5))) (by with_unfolding_all rfl)) (Ze (Zo (Zg (Z1 aB (Z1 (gm aN (va bJ 3) (va bJ 5) (λ_ _=>rfl)) ao)))))))) (Z5 (Zf (ak ig) Vu ["_law_n"] [3] (cJ (va bJ 0)) (λ_ _ _ _=>(Z3 (i:=0) (show(WH:List Str).Nodup by decide))) (λ_ _ _ _=>(@fE _ _ _ (fh (iT K rfl) (va (show Nm WH _ by left) 0) (va (show Nm WH _ by left) 1) (by with_unfolding_all rfl)))) (λ_ _ _ _=>(va (show Nm WH _ by left) 0)) (ga fO.nd gZ 6)) (Z5 (Zk (dZ (va bJ 1)) (Zb (Zi (ga fO.nd gZ 7) (aJ (ga fO.nd gZ 8) aX))) (Ze (Zk (@cJ _ _ _ _ (@tu _ (λf sp=>f=gG/\sp=X) _ _ _ _ _ _ _ (λf sp h=>by have(rfl,rfl):=h;exact#[jw,_,_,GO,hr.mono (),kG,bG]) (va bJ 2) (Za (va bJ 8)) (by rfl) (by rfl))) (ga fO.nd gZ 9) (Z5 (Zd (fh jE (va bJ 9) (va bJ 6) (by with_unfolding_all rfl)) (Ze (Zo (Zg (Z1 aB (Za (va bJ 9))))))) (Ze (@cC _ _ _ _ (Z8 MN MO cQ (va bJ 6) (Za (va bJ 9))) (by rfl))))))) (bW (cH sj)))))))),?_]
 right
 right
 have(a,us,rfl,sq,rs):=rv.bq;have ag:=rs.length;rw[bC]at ag;have a5:=fo.len;refine xZ ?_;intro N1 N2 N3 N4 N5 N6 c1 c2 c3 c4 c5 c6;ext;refine jH (K:=K) (e:=kH tr) (φ:=λp=>[.i p.1]) (λo=>∃y0 y1,o=[y0,y1]) sq rs () (λ_=>mu _) #[_,_,rfl] ?_ ?_
 .rintro p hp xv _ H2 N Y ⟨_,_,rfl⟩ Z kN;have(xa,x1,x2,rfl,ac,e1,e2):=(show Rp K H2 (.t [.i p.1,tr p.2]) xv from Z).t2;obtain rfl:=e1.di;ext;exact kN _ _ _ #[#[_,_,rfl],aF.refl _,.one .i]
 intro G H1 bi s1 bn h1 r1;rw[kE,show(λp:Int×α=>T.i p.1)=T.i ∘ (·.1)from rfl,<-Ph]at r1;obtain rfl:=r1.jb;have bs:=gb (m.map (·.1));have flt:=gb d;have R:=s1 _ _ a1;ext;refine eR (K:=K) (e:=T.i) (φ:=λn=>if n∈d then []else [.i n]) (λo=>∃y,o=[y,some (.ref lt)]) h1 (bN.AF _) (by rw[bC];omega) (λn=>by by_cases h:n∈d<;>simp[h]) #[_,rfl] ?_ ?_
 .rintro n hn xv _ H4 N s4 ⟨_,rfl⟩ Z kN;obtain rfl:=Z.di;have aa:bu K H4 lt (d.map V.int)\/bQ K H4 lt (d.map V.int):=.inl (bu.of (s4 _ _ R));have u:=iH (n:=n) (ns:=d);ext
  by_cases h:n∈d
  .rw[decide_eq_true h]at u;refine oU (by show(!rK _ _)=false;rw[u];rfl) ?_;exact kN _ _ _ #[#[_,rfl],aF.refl _,by rw[if_pos h];exact .nil]
  .rw[decide_eq_false h]at u;refine xX (by show(!rK _ _)=true;rw[u];rfl) ?_;ext;exact kN _ _ _ #[#[_,rfl],aF.refl _,by rw[if_neg h];exact .one .i]
 intro l2 H2 bh Y bo h2 r2;rw[AX]at r2;obtain rfl:=r2.jb;have hh:((m.map (·.1)).filter λn=>!decide (n∈d)).head?=(m.map (·.1)).find? λn=>!decide (n∈d):=List.head?_filter ..;have lL:((m.map (·.1)).filter λn=>!decide (n∈d)).length<=8:=FA (O3 ..) (by rw[bC];exact a5);generalize(m.map (·.1)).filter (λn=>!decide (n∈d))=L at h2 hh lL;have br:bu K H2 l2 (L.map V.int):=bu.of h2
 cases L with
 |cons n r =>
  have e0:(m.map (·.1)).find? (λn=>!decide (n∈d))=some n:=hh.symm;have C:qJ gf d m=some (true,n):=by unfold qJ;rw[e0]
  ext;refine xX (by simp) ?_;have a0:jZ ((n::r).map V.int) 0=some (.int n):=bz (j:=0) rfl;ext;intro p hp;have D:=ae hp (.tup [.str "no gap",.int n]);exact k _ _ ((s1.trans Y).trans D) (by rw[C];exact .some af)
 |nil =>
  have e0:(m.map (·.1)).find? (λn=>!decide (n∈d))=none:=hh.symm;have ab:=Y _ _ h1;have hb:bu K H2 G ((m.map (·.1)).map V.int):=bu.of ab;have bk:((m.map (·.1)).map V.int).length=m.length:=by rw[bC,bC]
  ext;refine eO (n:=(((m.map (·.1)).map V.int).length:Int).toNat) (λi o H3=>(∃o5,o=[some (.ref lt),some (.ref a),some (.ref gG),some (.ref G),some (.ref l2),o5,none,none,none,none])/\aF H2 H3/\jm [] (m.map (·.1))=jm ((m.map (·.1)).take i) ((m.map (·.1)).drop i)) #[#[_,rfl],aF.refl _,rfl] ?_ ?_
  .rintro i o H3 hi ⟨⟨_,rfl⟩,D,S⟩;have a4:i<(m.map (·.1)).length:=by rw[bC];omega
   have hn:(m.map (·.1))[i]?=some (m.map (·.1))[i]:=my a4;generalize(m.map (·.1))[i]=n at hn;rw[vB hn]at S;have am:=D _ _ ab;have bp:bu K H3 G ((m.map (·.1)).map V.int):=bu.of am;have ai:jZ ((m.map (·.1)).map V.int) (0+(i:Int))=some (.int n):=by rw[Qk];exact bz (by rw[rj,hn];rfl)
   ext;intro p5 az;rw[Qk,fY,<-NS (f:=V.int)];rw[Qk]at ai;have B:=ae az (.lst (((m.map (·.1)).take i).map V.int));have h5:bu K (upd H3 p5 (.lst (((m.map (·.1)).take i).map V.int))) p5 (((m.map (·.1)).take i).map V.int):=bu.of af;have a6:bu K _ G ((m.map (·.1)).map V.int):=bu.of (B _ _ am);generalize upd H3 p5 (.lst (((m.map (·.1)).take i).map V.int))=M at B h5 a6|-;have aa:bu K M p5 (((m.map (·.1)).take i).map V.int)\/bQ K M p5 (((m.map (·.1)).take i).map V.int):=.inl h5;have bv:=gb ((m.map (·.1)).take i);have u:=iH (n:=n) (ns:=(m.map (·.1)).take i);ext
   by_cases z:n∈(m.map (·.1)).take i
   .rw[decide_eq_true z]at u;rw[if_pos z]at S;refine xX (by show rK _ _=true;exact u) ?_;have C:qJ gf d m=some (false,n):=by unfold qJ;rw[e0];simp only[S]
    ext;intro p6 ax;exact k _ _ ((s1.trans ((Y.trans D).trans B)).trans (ae ax _)) (by rw[C];exact .some af)
   .rw[decide_eq_false z]at u;rw[if_neg z]at S;refine oU (by show rK _ _=false;exact u) ?_;exact#[#[_,rfl],D.trans B,S]
  rintro o H3 ⟨⟨o5,rfl⟩,D,S⟩;rw[show((((m.map (·.1)).map V.int).length:Int).toNat)=(m.map (·.1)).length by rw[bC];omega,OF]at S;have an:jm [] (m.map (·.1))=none:=S;have aj:=D _ _ (Y _ _ R);have a9:=D _ _ ab;ext;refine eR (K:=K) (e:=T.i) (φ:=λn=>if n∈m.map (·.1)then []else [.i n]) (λo=>∃y,o=[y,some (.ref G)]) aj (bN.AF _) fo.tl (λn=>by by_cases h:n∈m.map (·.1)<;>simp[h]) #[_,rfl] ?_ ?_
  .rintro n hn xv _ H4 N s4 ⟨_,rfl⟩ Z kN;obtain rfl:=Z.di;have aa:bu K H4 G ((m.map (·.1)).map V.int)\/bQ K H4 G ((m.map (·.1)).map V.int):=.inl (bu.of (s4 _ _ a9));have u:=iH (n:=n) (ns:=m.map (·.1));ext
   by_cases h:n∈m.map (·.1)
   .rw[decide_eq_true h]at u;refine oU (by show(!rK _ _)=false;rw[u];rfl) ?_;exact kN _ _ _ #[#[_,rfl],aF.refl _,by rw[if_pos h];exact .nil]
   .rw[decide_eq_false h]at u;refine xX (by show(!rK _ _)=true;rw[u];rfl) ?_;ext;exact kN _ _ _ #[#[_,rfl],aF.refl _,by rw[if_neg h];exact .one .i]
  intro O H4 bg s4 a2 h4 r4;rw[AX]at r4;obtain rfl:=r4.jb;have ad:=(s1.trans (Y.trans D)).trans s4;have al:H O=none:=(s1.trans (Y.trans D)).free a2;have bm:(d.filter λn=>!decide (n∈m.map (·.1))).length<=900:=FA (O3 ..) fo.tl;have bj:=sq.same ad;have bf:(d.filter λn=>!decide (n∈m.map (·.1))).length+50*8<1400:=()
  ext;refine nT (K:=K) (xs:=us) (λi o M=>(∃o5 o7 o8 o9,o=[some (.ref lt),some (.ref a),some (.ref gG),some (.ref G),some (.ref l2),o5,some (.ref O),o7,o8,o9])/\aF H M/\M O=some (.lst (((d.filter λn=>!decide (n∈m.map (·.1)))++(m.take i).flatMap λp=>gf p.2).map V.int))/\jm (d.filter λn=>!decide (n∈m.map (·.1))) (m.flatMap λp=>gf p.2)=jm ((d.filter λn=>!decide (n∈m.map (·.1)))++(m.take i).flatMap λp=>gf p.2) ((m.drop i).flatMap λp=>gf p.2)) #[#[_,_,_,_,rfl],ad,by rw[OH];simpa using h4,by simp] ?_ ?_ ?_
  .rintro i o M _ ⟨_,B,_⟩;exact sq.same B
  .rintro i xv o M hx ⟨⟨_,_,_,_,rfl⟩,B,h5,d5⟩;have(tx,ah,Z):=rs.get' hx;rw[rj]at ah;have(p,hp,rfl):=ur.mp ah;have(xa,x1,x2,rfl,ac,e1,e2):=(show Rp K H (.t [.i p.1,tr p.2]) xv from Z).t2;obtain rfl:=e1.di;have(as,bl):=fo.ok p (t9 hp);have be:=ac.same B;have bc:=hsp x2 p.2 M;have ba:=e2.same B;generalize hA:(d.filter λn=>!decide (n∈m.map (·.1)))++(m.take i).flatMap (λp=>gf p.2)=A at h5 d5;rw[mq hp,NJ]at d5
   have lA:A.length<=900+8*50:=by
    rw[<-hA,j3];have h1:((m.take i).flatMap λp=>gf p.2).length<=(m.take i).length*50:=tE λq hq=>(fo.ok q (MT hq)).2;rw[we]at h1;omega
   ext;refine bc _ ba as λl6 H6 s6 a3 h6=>?_;have ap:=B.trans s6;have a8:=s6 _ _ h5;have av:O≠l6:=au h5 a3;ext;refine mW (K:=K) (xs:=(gf p.2).map V.int) (λj o U=>(∃o5 o9,o=[some (.ref lt),some (.ref a),some (.ref gG),some (.ref G),some (.ref l2),o5,some (.ref O),some (.int p.1),some x2,o9])/\aF H U/\U l6=some (.lst ((gf p.2).map V.int))/\U O=some (.lst ((A++(gf p.2).take j).map V.int))/\jm (d.filter λn=>!decide (n∈m.map (·.1))) (m.flatMap λp=>gf p.2)=jm (A++(gf p.2).take j) ((gf p.2).drop j++(m.drop (i+1)).flatMap λp=>gf p.2)) #[#[_,_,rfl],ap,h6,by rw[OH,M5];exact a8,by rw[OH,M5];exact d5] ?_ ?_ ?_
   .rintro j o U _ ⟨_,_,h,_,_⟩;exact bu.of h
   .rintro j yv o U hy ⟨⟨w,_,rfl⟩,s7,a7,I,J⟩;rw[rj]at hy;have(g,hg,rfl):=ur.mp hy;rw[vC hg]at J;have u:=iH (n:=g) (ns:=A++(gf p.2).take j);have aa:bu K U O ((A++(gf p.2).take j).map V.int)\/bQ K U O ((A++(gf p.2).take j).map V.int):=.inl (bu.of I);have bt:=gb (A++(gf p.2).take j);have hz:((A++(gf p.2).take j).map V.int).length<mC:=zo (show _<1500 by rw[bC,j3,we];omega) (by decide);ext
    by_cases z:g∈A++(gf p.2).take j
    .rw[decide_eq_true z]at u;rw[if_pos z]at J;refine xX (by show rK _ _=true;exact u) ?_;have C:qJ gf d m=some (false,g):=by unfold qJ;rw[e0];simp only[an,J]
     ext;intro p8 aw;exact k _ _ (s7.trans (ae aw _)) (by rw[C];exact .some af)
    rw[decide_eq_false z]at u;rw[if_neg z]at J;refine oU (by show rK _ _=false;exact u) ?_
    have e9:(A++(gf p.2).take (j+1)).map V.int=(A++(gf p.2).take j).map V.int++[V.int g]:=by
     rw[fZ hg,<-M6,m3];rfl
    ext
    .exact s7.tw al _
    exact#[by rw[ay av.symm];exact a7,by rw[af,e9],J]
   .rintro o U ⟨⟨_,_,rfl⟩,s7,_,I,J⟩;rw[bC,MS]at I J;rw[OF,PR]at J
    have eA:(d.filter λn=>!decide (n∈m.map (·.1)))++(m.take (i+1)).flatMap (λp=>gf p.2)=A++gf p.2:=by
     rw[<-hA,fZ hp,Nv,<-M6];simp
    exact#[#[_,_,_,_,rfl],s7,by rw[I,eA],by rw[J,eA]]
  rintro o M ⟨⟨_,_,_,_,rfl⟩,B,h5,d5⟩;have e5:us.length=m.length:=ag;rw[e5,OF]at d5;have bb:jm (d.filter λn=>!decide (n∈m.map (·.1))) (m.flatMap λp=>gf p.2)=none:=d5;ext;exact k _ _ B (by rw[show qJ gf d m=none by unfold qJ;rw[e0];simp only[an,bb]];exact .none)
structure Iz{α:Type}(tr:α->T) (G:Int->α) (N:α) (sort:Str) (b:Bool) (ok:α->Prop):Prop where
 so:sort=if b then "open" else "gap"
 hG:∀n,tr (G n)=.t [.s sort,.i n]
 oG:∀n,ok (G n)
 hN:tr N=if b then .s "num" else .t [.s "num",.i 1]
 oN:ok N
 hW:b=true->∀n,∃z,ok z/\tr z=.t [.s "row",tr (G n)]
 hP:b=false->∀y,ok y->∃tm,tr y=enc tm/\Wf tm/\tm.size<=900/\(tm.size<10->∀n,(∃z,ok z/\tr z=.t [.s "op",.s "+",tr y,tr (G n)])/\∃z,ok z/\tr z=.t [.s "if",.t [.s "num",.i 0],tr (G n),tr y])
def yR(K:bA):Sp:=λu H Q _=>∃(g:Type) (j:g->T) (G:Int->g) (N:g) (d:Str) (b:Bool) (ok:g->Prop) (f m:Addr) (v:V) (o:List (Int×g)) (l:List Int),u=[.ref f,v,.ref m,.str d]/\Iz j G N d b ok/\cg H f/\Rp K H (.t (o.map (kH j))) v/\o.length<=3/\(∀p∈o,ok p.2)/\H m=some (.lst (l.map V.int))/\m≠f/\1<=l.length/\l.length<=900 /\
 ∀(r:V) (q:Hp) (e:List (Int×g)),Ext f H q->Rp K q (.t (e.map (kH j))) r->e.length<=4->(∀p∈e,ok p.2)->Q r q
theorem wR {u:Nat}(hi:o[i]?=some (some (.ref a)))(hj:o[j]?=some (some (.int (u:Int))))(P:bQ K H a g)(lw:g.length<=100)(hta:∀d e,aF H d->e x d->G o d e)(htb:∀d e,aF H d->e y d->E o d e)(htc:∀d e,aF H d->e (.int (m:Int)) d->D o d e)(k:∀p q d,aF H d->bQ K d q [x,y]->bQ K d p (g.take u++[.ref q]++g.drop m)->Q (.ref p) d):
  Cy (C7 K) (Cy (C7 K) (KR (HV K) (mV i) vG (CD (mV j))) (xo (mZ (xo (mZ G (mZ E xn))) xn))) (KR (HV K) (mV i) (CD D) vG) o H Q:=by
 ext;intro p1 N z M;rw[fY]at M;ext;refine hta _ _ z ?_;ext;refine htb _ _ z ?_;ext;intro q S;have w:=ae S (.tup [x,y]);have L:bQ K (upd N q (.tup [x,y])) q [x,y]:=bQ.of af;have r:=M.same w;generalize upd N q (.tup [x,y])=H2 at w L r|-;ext;intro A B;have t:=ae B (.tup [.ref q]);have Z:bQ K (upd H2 A (.tup [.ref q])) A [.ref q]:=bQ.of af;have C:=r.same t;generalize upd H2 A (.tup [.ref q])=H3 at t Z C|-;have l3:(g.take u).length+[V.ref q].length<=mC:=small (by rw[we];show _+1<=_;omega);ext;intro p4 H4 J Y;have l:=(z.trans w).trans (t.trans J);have O:=P.same l;ext;refine htc _ _ l ?_;ext;intro p5 H5 v U;rw[qG]at U;have X:=Y.same v;have l5:(g.take u++[V.ref q]).length+(g.drop m).length<=mC:=small (by rw[j3,we,Oj];show _+1+_<=_;omega);ext;intro R H6 I T;exact k R q H6 ((l.trans v).trans I) (L.same (((t.trans J).trans v).trans I)) T
theorem aA :Nm VP (ak jP):=by decide
theorem fP :Lm VP (ak jP):=by decide
theorem eI :aK VP Wh (ak jP):=#[rfl,rfl,rfl,by decide,rfl,by decide,by decide]
theorem Cj (F:ic K "_law_spoilt" "_law_spoilt" jP f fd)(TK:dH P w K mg base "_law_take" 1 Vy eK gT tfd)(ci:dH P w K mg base "parts" 3 Wi (nV K) gP pfd)(z_len:mg "len"=none)(am:mg "int"=none):bH P w K mg base eZ 4 f fd Wh (yR K):=by
 refine F.ok eI (λvs H Q E h=>?_) (λcx A b4 s H vs Q E hr h=>?_)
 .have(_,_,_,_,_,_,_,_,_,_,_,_,rfl,_):=h;rfl
 have(α,L,G,N,l,b,ok,fe,ln,v,fl,ns,rfl,so,hf,rv,l3,ax,ce,bg,cm,b5,k):=h;refine#[_,(Z5 (Z2 eI.nd fP 4 (Z0 TK (Z1 (va aA 0) (Z1 (Zm cK (Z4 (Za (va aA 1))) aq) ao)))) (Z5 (Z2 eI.nd fP 5 (Zl aN (va aA 2) (Z0 TK (Z1 (va aA 0) (Z1 (Z4 (Za (va aA 2))) ao))))) (Z5 (Z2 eI.nd fP 6 (Zl aN (@bh _ _ _ _ (Z1 (Zg (cZ aB (Za aq))) (Za aB))) (Z6 kJ am O4 (Z1 (pK bR (va aA 3) aB (sA _)) ao)))) (Z5 (Z2 eI.nd fP 7 (Z0 TK (cZ (va aA 0) (Za aq)))) (Z5 (Zd (PW.pt (@uH _ _ _ _ _ _ _ (Zq bR (va aA 7) aq) (@sr _ _ _ _ (Zj bR (va aA 4) (Z4 (Za (va aA 1))))))) (Ze (Zo (Zm jQ (Zm jQ (@bZ _ _ _ _ _ _ _ _ _ _ kh (va aA 1) cW (bL (va aA 4))) (Zg (Z1 (Zg (Z1 (va aA 5) (Za (va aA 6)))) ao))) (@bZ _ _ _ _ _ _ _ _ _ _ kh (va aA 1) (bL (va aA 4)) cW))))) (Z5 (Zd (Zq bR (va aA 7) aq) (Ze (Zo (Zm jQ (Zm jQ (@bZ _ _ _ _ _ _ _ _ _ _ kh (va aA 1) cW (bL (va aA 4))) (Zg (Z1 (Zg (Z1 (va aA 5) (Z1 (Zl aZ (gm aZ (va aA 1) (va aA 4) (λ_ _=>rfl)) aq) ao))) ao))) (@bZ _ _ _ _ _ _ _ _ _ _ kh (va aA 1) (@bL _ _ _ (aS cK (va aA 4) aq)) cW))))) (Z5 (Z2 eI.nd fP 8 (Zg (Z1 (va aA 3) (Za (va aA 5))))) (Z5 (@kI _ _ _ _ _ _ _ _ (Zq bR (va aA 3) aB) (Ze (Z2 eI.nd fP 8 (Zl aN (@bh _ _ _ _ (Z1 (va aA 8) (Z1 (Zg (Z1 aB (Za (va aA 8)))) ao))) (Z0 TK (cZ (va aA 0) (Za aq)))))) (Ze (Zd (Zj mY (Z4 (Z1 (Z0 ci (Z1 (Zl aZ (gm aZ (va aA 1) (va aA 4) (λ_ _=>rfl)) aq) ao)) ao)) aq) (Ze (Z2 eI.nd fP 8 (Zl aN (@bh _ _ _ _ (Z1 (Zg (Z1 aB (Z1 aB (Z1 (Zl aZ (gm aZ (va aA 1) (va aA 4) (λ_ _=>rfl)) aq) (Za (va aA 8)))))) (Z1 (Zg (Z1 aB (Z1 (Zg (cZ aB (Za aq))) (Z1 (va aA 8) (Z1 (Zl aZ (gm aZ (va aA 1) (va aA 4) (λ_ _=>rfl)) aq) ao))))) ao))) (aS bK (va aA 7) aq))))))) (Ze (Zo (Zm jQ (Zm jQ (@bZ _ _ _ _ _ _ _ _ _ _ kh (va aA 1) cW (bL (va aA 4))) (Zg (Z1 (Zg (Z1 (Zl aZ (gm aZ (va aA 1) (va aA 4) (λ_ _=>rfl)) aq) (Za (va aA 8)))) ao))) (@bZ _ _ _ _ _ _ _ _ _ _ kh (va aA 1) (@bL _ _ _ (aS cK (va aA 4) aq)) cW)))))))))))),?_]
 right
 right
 have(a,W,rfl,sq,rs):=id rv.bq;have lw:=rs.length;rw[bC]at lw;have co:bu K H a W\/bQ K H a W:=.inr sq;have hz:W.length<mC:=bD ()
 have eo:decide (V.str l=V.str (MI "open"))=b:=by
  rw[so.so];cases b<;>rfl
 refine sY ?_;intro N1 N2 N3 N4 N5 N6 N7 N8 c1 c2 c3 c4 c5 c6 c7 c8;ext;intro r1 H1 ab aa x1;have(o,rfl):=QJ ab;have cr:=x1.2;have bn:=x1.1 _ _ bg ce;have cz:bu K H1 ln (ns.map V.int):=bu.of bn;have b9:(ns.map V.int).length=ns.length:=bC ..;have cn:(ns.map V.int).length<mC:=QD (by rw[b9];exact b5) (by decide);ext;intro r2 H2 b3 cl x2;have(aj,rfl):=QJ b3;have hj:aj<ns.length:=()
 obtain⟨n,hn⟩:∃n,ns[aj]?=some n:=#[_,my hj];have an:jZ (ns.map V.int) (aj:Int)=some (.int n):=bz (by rw[rj,hn];rfl);have Y:=x1.trans x2;have cy:bu K H2 ln (ns.map V.int):=bu.of (x2.1 _ _ bg bn);ext;intro p3 bk;have s3:=ae bk (.tup [.str "num",.int 1]);have r3:=Rp.new (K:=K) (xs:=[.s "num",.i 1]) bk (.cons .s (.one .i));have x3:=Y.same s3;generalize upd H2 p3 (.tup [.str "num",.int 1])=H3 at s3 r3 x3|-;ext;intro p4 cd;have s4:=ae cd (.lst [.ref p3,.str "num"]);have h4:upd H3 p4 (.lst [.ref p3,.str "num"]) p4=some (.lst [.ref p3,.str "num"]):=af;have r4:=r3.same s4;have x4:=x3.same s4;generalize upd H3 p4 (.lst [.ref p3,.str "num"])=H4 at s4 h4 r4 x4|-;ext;rw[eo];refine .inr #[_,rfl,?_]
 obtain⟨u,hu,ru⟩:∃u,jZ [.ref p3,.str "num"] (if b=true then 1 else 0)=some u/\Rp K H4 (L N) u:=by
  rw[so.hN]
  cases b with
  |false=>exact#[.ref p3,bz (j:=0) rfl,r4]
  |true=>exact#[.str "num",bz (j:=1) rfl,.s]
 refine#[_,_,_,_,rfl,rfl,bu.of h4,hu,?_];have cg:=x4.2;ext;intro fm H5 cw cv x5;have g:=x4.trans x5;have b2:=ru.kt (x5.kt cg);have ck:=rs.kt (g.kt hf);have R:=sq.kt (g.kt hf)
 have a1:∀(Hx d:Hp) (p q:Addr) (z:α) (n':Int) (y:V) (m:Nat),Ext fe H Hx->aF Hx d->Rp K Hx (L z) y->ok z->o<=m->bQ K d q [.int n',y]->bQ K d p (W.take o++[.ref q]++W.drop m)->Q (.ref p) d:=by
  intro Hx d p q z n' y m x s ry oz hm hq hp;have xs:=x.same s;refine k _ _ (fl.take o++[(n',z)]++fl.drop m) xs ?_ ?_ λpr cc=>?_
  .refine Rp.t hp ?_;rw[m3,m3,NS,Qy];have r0:=rs.kt (xs.kt hf);exact((r0.take o).append (.one (Rp.t hq (.cons .i (.one (ry.same s)))))).append (r0.drop m)
  .rw[j3,j3,we,Oj];show _+1+_<=4;omega
  .rcases MH.mp cc with h|h
   .rcases MH.mp h with h|h
    .exact ax _ (MT h)
    .rw[pD.mp h];exact oz
   .exact ax _ (Pk h)
 refine c4.go ?_;refine zH (λb H6=>H6=H5/\(b=false->o<W.length/\fm≠0)) (λC hC=>?_) (λH6 h6=>?_) (λH6 h6=>?_)
 .ext;refine cM (λc=>?_) (λc=>?_)
  .exact hC _ _ #[rfl,λz=>nomatch z]
  have cj:bu K H5 a W\/bQ K H5 a W:=.inr R;ext;refine hC _ _ #[rfl,λz=>?_];have z':=of_decide_eq_false z;have:(o:Int)≠W.length:=λq=>z' (by rw[q]);exact#[(),λq=>c (decide_eq_true (by rw[q]))]
 .have(rfl,_):=h6;refine wR rfl rfl R () (x:=.int n) (y:=u) (m:=o) (λd Q' _ h=>by ext;exact h) (λd Q' _ h=>by ext;exact h) (λd Q' _ h=>by ext;exact h) λp q d s hq hp=>a1 _ d p q N n u o g s b2 so.oN (mu _) hq hp
 have(rfl,hl):=h6;have(cs,cu):=hl rfl;have bm:o<fl.length:=()
 obtain⟨M,bi⟩:∃M,fl[o]?=some M:=#[_,my bm];have(xv,ca,b1):=rs.get (i:=o) (x:=kH L M) (by rw[rj,bi];rfl);have(ga,u1,u2,rfl,bs,q1,q2):=(show Rp K H (.t [.i M.1,L M.2]) xv from b1).t2;obtain rfl:=q1.di;have bf:=ax M (t9 bi);have aw:jZ W (o:Int)=some (.ref ga):=bz ca;have al:=bs.kt (g.kt hf);have be:=q2.kt (g.kt hf);have cq:=g.2;refine c5.go ?_;ext;refine cM (λbt=>?_) (λbt=>?_)
 .refine wR rfl rfl R () (x:=.int n) (y:=u2) (m:=o+1) (λd Q' _ h=>by ext;exact h) (λd Q' s h=>by have gs:=al.same s;have ss:=R.same s;ext;exact h) (λd Q' _ h=>by ext;exact h) λp q d s hq hp=>a1 _ d p q M.2 n u2 (o+1) g s be bf (PJ _) hq hp
 ext;intro I bj;have s7:=ae bj (.tup [.str l,.int n]);have r7:=Rp.new (K:=K) (xs:=[.s l,.i n]) bj (.cons .s (.one .i));generalize upd H6 I (.tup [.str l,.int n])=H7 at s7 r7|-;rw[<-so.hG]at r7;have x7:=g.same s7;have cp:=x7.2
 have tail:∀(vf:V) (Hx:Hp) (z:α),Ext fe H Hx->Rp K Hx (L z) vf->ok z->N8 [some (.ref fe),some (.ref a),some (.ref ln),some (.str l),some (.int o),some (.int n),some u,some (.int fm),some vf] Hx:=by
  intro vf Hx z x rz oz;have a3:=sq.kt (x.kt hf);have bo:=bs.kt (x.kt hf);refine c8.go ?_;refine wR rfl rfl a3 () (x:=.int M.1) (y:=vf) (m:=o+1) (λd Q' s h=>by have gs:=bo.same s;have ss:=a3.same s;ext;exact h) (λd Q' _ h=>by ext;exact h) (λd Q' _ h=>by ext;exact h) λp q d s hq hp=>a1 _ d p q z M.1 vf (o+1) x s rz oz (PJ _) hq hp
 clear c8;refine c7.go ?_;have b0:=R.same s7;have br:=al.same s7;have bc:=be.same s7;ext;rw[eo]
 cases b with
 |true =>
  refine xX rfl ?_;have(z,oz,ez):=so.hW rfl n;ext;intro p8 az;have X:=ae az (.tup [.str "row",.ref I]);have r8:=Rp.new (K:=K) (xs:=[.s "row",L (G n)]) az (.cons .s (.one r7));have U:=r7.same X;have x8:=x7.same X;generalize upd H7 p8 (.tup [.str "row",.ref I])=H8 at X r8 U x8|-;rw[<-ez]at r8;ext;intro O J;have S:=ae J (.lst [.ref I,.ref p8]);have h9:upd H8 O (.lst [.ref I,.ref p8]) O=some (.lst [.ref I,.ref p8]):=af;have x9:=x8.same S;have T:=U.same S;have a7:=r8.same S;generalize upd H8 O (.lst [.ref I,.ref p8])=H9 at S h9 x9 T a7|-;have cf:=x9.2
  have b6:O≠fe:=λz=>by
   have(_,_,e):=x8.2;rw[z,e]at J
   cases J
  ext;intro r HA ra rb xA;have hA:=xA.1 _ _ b6 h9;have kA:=xA.kt cf;have bv:=x9.trans xA
  obtain⟨uA,cb,zA,ar,av⟩:∃uA,jZ [.ref I,.ref p8] r=some uA/\∃zA,Rp K HA (L zA) uA/\ok zA:=by
   rcases(show r=0\/r=1 by omega)with rfl|rfl
   .exact#[.ref I,bz (j:=0) rfl,_,T.kt kA,so.oG n]
   .exact#[.ref p8,bz (j:=1) rfl,_,a7.kt kA,oz]
  ext;exact tail _ _ _ bv ar av
 |false =>
  refine oU rfl ?_;have(tm,et,wt,bw,mk):=so.hP rfl M.2 bf;have bb:=bc;rw[et]at bb;have few:=IW.of bw;have r0:=rv.kt (x7.kt hf);ext;intro p8 H8 us X az h8 r8;have b7:=r8.length;rw[bC,Tm.cX]at b7;have b8:bu K H8 p8 us:=bu.of h8;have x8:=x7.same X;ext;refine cM (λc=>?_) (λc=>?_)
  rotate_left
  .ext;exact tail _ _ _ x8 (r7.same X) (so.oG n)
  have a2:tm.size<10:=by
   have:=of_decide_eq_true c;omega
  have((z1,o1,e1),z2,o2,e2):=mk a2 n;have bx:=b0.same X;have bp:=br.same X;have ba:=bc.same X;have U:=r7.same X;ext;intro O J;have S:=ae J (.tup [.str "op",.str "+",u2,.ref I]);have r9:=Rp.new (K:=K) (xs:=[.s "op",.s "+",L M.2,L (G n)]) J (.cons .s (.cons .s (.cons ba (.one U))));rw[<-e1]at r9;have a4:=bx.same S;have ak:=bp.same S;have a9:=ba.same S;have T:=U.same S;have x9:=x8.same S;generalize upd H8 O (.tup [.str "op",.str "+",u2,.ref I])=H9 at S r9 a4 ak a9 T x9|-;ext;intro au ah;have B:=ae ah (.tup [.str "num",.int 0]);have ab:=Rp.new (K:=K) (xs:=[.s "num",.i 0]) ah (.cons .s (.one .i));have a5:=a4.same B;have a0:=ak.same B;have ad:=a9.same B;have ac:=T.same B;generalize upd H9 au (.tup [.str "num",.int 0])=HA at B ab a5 a0 ad ac|-;ext;intro D ag;have ap:=ae ag (.tup [.str "if",.ref au,.ref I,u2]);have aa:=Rp.new (K:=K) (xs:=[.s "if",.t [.s "num",.i 0],L (G n),L M.2]) ag (.cons .s (.cons ab (.cons ac (.one ad))));rw[<-e2]at aa;generalize upd HA D (.tup [.str "if",.ref au,.ref I,u2])=HB at ap aa|-;ext;intro as bl;have Z:=ae bl (.lst [.ref O,.ref D]);have ch:bu K (upd HB as (.lst [.ref O,.ref D])) as [.ref O,.ref D]:=bu.of af;have a8:=aa.same Z;have a6:=((r9.same B).same ap).same Z;have Y:=((x9.same B).same ap).same Z;generalize upd HB as (.lst [.ref O,.ref D])=HC at Z ch a8 a6 Y|-;have ct:fm≠1:=λq=>bt (decide_eq_true (by rw[q]))
  obtain⟨uA,cb,zA,ar,av⟩:∃uA,jZ [.ref O,.ref D] (fm-2)=some uA/\∃zA,Rp K HC (L zA) uA/\ok zA:=by
   rcases(show fm-2=0\/fm-2=1 by omega)with e|e<;>rw[e]
   .exact#[.ref O,bz (j:=0) rfl,z1,a6,o1]
   .exact#[.ref D,bz (j:=1) rfl,z2,a8,o2]
  ext;exact tail _ _ _ Y ar av
end G34
namespace G34
open PySem L2 PyProof.Rows PySem.W
noncomputable abbrev qK(e d:Addr)(b:Bool):Addr:=if b then e else d
noncomputable abbrev IA(b:Bool):Str:=if b then "number" else "name"
def ET(m l:Addr)(o:Option (Bool×Int))(H:Hp):XK:=λd j g=>∃b n e,o=some (b,n)/\d=.ref (qK m l b)/\j=some e/\aF H g/\g e=some (.xd [(IA b,.int n)])
theorem _root_.L2.mj.same {H d:Hp}{x C:Addr}{fs:List (Str×V)}(e:mj H x C fs)(s:aF H d):mj d x C fs:=by
 rcases e with⟨e,h⟩|⟨dx,h1,h2⟩
 .exact .inl #[e,s _ _ h]
 .exact .inr #[dx,s _ _ h1,s _ _ h2]
structure LK(K:bA) (cG cT G:Addr) (oth:List Addr):Prop where
 sub:∀e,wC K (qK cG cT e) G
 g:∀e,DI K (qK cG cT e)
 one:∀e d,Sk K (.ref (qK cG cT e)) (.ref (qK cG cT d))=some (decide (e=d))
 any:∀e,kitAny K (.ref (qK cG cT e)) (oth.map Value.ref)=some false
 r:∀e,Ig K (qK cG cT e) (IA e)
def Ei(K:bA)(Pt:Addr):Sp:=λo H Q _=>∃(v j l:V) (kt:T) (e:List (Str×List (Str×Kk)×Tm)) (ft:List (Int×Tm)) (fk:List (Int×Kk)),o=[v,j,l]/\Rp K H (oH kt e) v/\rm e/\(∀d∈e,∀p∈d.2.1,p.2.dep<=100)/\Rp K H (.t (ft.map (kH enc))) j/\Rp K H (.t (fk.map (kH cu))) l/\Ew lK Gz (bf e) ft/\Ew tS GD (bI e) fk/\jD H Pt om iK /\
 ∀m g,rA Pt H g->jD g Pt om iK->uE g (mE (bf e) (bI e) ft fk) m->Q m g
theorem Ck (s:aF H d):rA Pt H d:=λ_ _ _ h=>s _ _ h
theorem eY :Nm V9 (ak nv):=by decide
theorem vD :Lm V9 (ak nv):=by decide
theorem nY :aK V9 VY (ak nv):=#[rfl,rfl,rfl,by decide,rfl,by decide,by decide]
theorem Gb {K:bA}(F:ic K "_law_told" "_law_told" nv f S)(l:FH P w K mg base "filled" 7 WS (yP K Pt cG cT) gI ifd)(C:LK K cG cT G [o0,o1,o2,o3,o4,o5,o6])(m_GapError:mg "GapError"=some (.ref G))(m_Twice:mg "Twice"=some (.ref cT))(m_NoGap:mg "NoGap"=some (.ref cG))(m_BadText:mg "BadText"=some (.ref o0))(m_Clash:mg "Clash"=some (.ref o1))(m_NoName:mg "NoName"=some (.ref o2))(m_NoRow:mg "NoRow"=some (.ref o3))(m_TooLong:mg "TooLong"=some (.ref o4))(m_TooMany:mg "TooMany"=some (.ref o5))(m_WrongCount:mg "WrongCount"=some (.ref o6))(z_isinstance:mg "isinstance"=none):bH P w K mg base eZ 8 f S VY (Ei K Pt):=by
 refine F.Le nY (λU H Q E h=>?_) (λag A J s H U Q E hr h=>?_)
 .have(_,_,_,_,_,_,_,rfl,_):=h;rfl
 have(v,vt,vk,kt,d,ft,fk,rfl,rv,ad,aa,X,Y,ab,ac,W,k):=h
 refine#[_,(vo (PS.top (sa nY.nd vD 3 sj))
  (vo (Ik (E':=(ET cG cT (mE (bf d) (bI d) ft fk) H)) (i:=4) rfl rfl rfl (Ze (@cC _ _ _ _ (@iA _ _ _ _ _ _ _ _ _ _ _ _ _ _ _ _ l.ok (hr.mono ()) (by left) l.at' l.kp l.bd .nil DJ (Z1 (va eY 0) (Z1 (va eY 1) (Za (va eY 2)))) (by decide) (by rfl) (by rfl)) (by rfl))) (by left) m_GapError nY.nd rfl (by kernel_rfl) (λ_=>(Ze (sa nY.nd vD 3 (va eY 4)))))
  (qy.top (Z5 (Zd (Zq CA (va eY 3) sj) (bW (cH sj))) (Z5 (Zd (@yT _ _ _ (@dQ _ _ _ _ _ _ _ _ _ wD (by left) z_isinstance PY (Z1 (va eY 3) (Z1 (Zg (Z1 (dh (v:=.ref o0) (by left) m_BadText rfl) (Z1 (dh (v:=.ref o1) (by left) m_Clash rfl) (Z1 (dh (v:=.ref o2) (by left) m_NoName rfl) (Z1 (dh (v:=.ref o3) (by left) m_NoRow rfl) (Z1 (dh (v:=.ref o4) (by left) m_TooLong rfl) (Z1 (dh (v:=.ref o5) (by left) m_TooMany rfl) (Za (dh (v:=.ref o6) (by left) m_WrongCount rfl))))))))) ao)) (by decide) (by decide) (by rfl) (by rfl)) (by intro _;rfl)) (Ze (Zo (Zg (cZ aB (Za aq)))))) (Z5 (Zd (PW.pt (@iL _ _ _ _ _ _ _ (@yT _ _ _ (@dQ _ _ _ _ _ _ _ _ _ qW (by left) z_isinstance PY (Z1 (va eY 3) (Za (dh (v:=.ref cG) (by left) m_NoGap rfl))) (by decide) (by decide) (by rfl) (by rfl)) (by intro _;rfl)) (@iz _ _ _ _ (@Cr _ _ _ _ (@yT _ _ _ (@dQ _ _ _ _ _ _ _ _ _ qW (by left) z_isinstance PY (Z1 (va eY 3) (Za (dh (v:=.ref cT) (by left) m_Twice rfl))) (by decide) (by decide) (by rfl) (by rfl)) (by intro _;rfl)))))) (Ze (Zo (Zg (Z1 aB (Za (yt (va eY 3)))))))) (Ze (Zo (Zg (Z1 aB (Za (yt (va eY 3))))))))))))),?_]
 right
 right
 have aG:∀n,mE (bf d) (bI d) ft fk=some (true,n)->Told (ET cG cT (mE (bf d) (bI d) ft fk) H) H cG "number" (.int n):=λn e j H' I h0 L=>#[true,n,j,e,rfl,rfl,I,L];have aT:∀n,mE (bf d) (bI d) ft fk=some (false,n)->Told (ET cG cT (mE (bf d) (bI d) ft fk) H) H cT "name" (.int n):=λn e j H' I h0 L=>#[false,n,j,e,rfl,rfl,I,L];ext
 .ext;intro hn v1 M g1 D;rw[hn]at k;ext;exact k _ _ g1 D .none
 rintro cls od M ⟨b,n,j,hf,rfl,rfl,O,R⟩;refine#[_,rfl,C.sub b,λx o=>?_];have nx:j≠x:=au R o;have y:=ae o (.ext (uu x (qK cG cT b) (some j)));have T:mj (upd M x (.ext (uu x (qK cG cT b) (some j)))) x (qK cG cT b) [(IA b,.int n)]:=.inr #[j,af,y _ _ R];generalize upd M x (.ext (uu x (qK cG cT b) (some j)))=H2 at y T|-;have g:=C.g b;have k1:Sk K (.ref (qK cG cT b)) (.ref cG)=_:=C.one b true;have k2:Sk K (.ref (qK cG cT b)) (.ref cT)=_:=C.one b false;have k4:=C.any b;have k6:=C.r b;rw[hf]at k;ext
 first|(intro z q)|(dsimp only[Ly,iJ,behind,Ends.wn];ext;intro z q)
 have u:=ae q (.tup [.ref o0,.ref o1,.ref o2,.ref o3,.ref o4,.ref o5,.ref o6]);have h4:bQ K (upd H2 z (.tup [.ref o0,.ref o1,.ref o2,.ref o3,.ref o4,.ref o5,.ref o6])) z ([o0,o1,o2,o3,o4,o5,o6].map V.ref):=bQ.of af;have e4:=T.same u;generalize upd H2 z (.tup [.ref o0,.ref o1,.ref o2,.ref o3,.ref o4,.ref o5,.ref o6])=H4 at u h4 e4|-;ext;have t:∀p B,aF H4 B->B p=some (.tup [.str (if b then "no gap" else "twice"),.int n])->Q (.ref p) B:=λp B N h5=>k _ _ (Ck (((O.trans y).trans u).trans N)) (gj W (((O.trans y).trans u).trans N)) (.some h5)
 cases b with
 |true =>
  ext;exact λZ m=>t _ _ (ae m _) af
 |false =>
  ext;exact λZ m=>t _ _ (ae m _) af
end G34
namespace G34
open PySem L2
def GF(K:bA):Sp:=λo H Q _=>∃(v j l:V) (kt:T) (e:List (Str×List (Str×Kk)×Tm)) (ft:List (Int×Tm)) (fk:List (Int×Kk)),o=[v,j,l]/\Rp K H (oH kt e) v/\rm e/\(∀d∈e,∀p∈d.2.1,p.2.dep<=100)/\Rp K H (.t (ft.map (kH enc))) j/\Rp K H (.t (fk.map (kH cu))) l/\Ew lK Gz (bf e) ft/\Ew tS GD (bI e) fk /\
 ∀m g,aF H g->uE g (mE (bf e) (bI e) ft fk) m->Q m g
theorem jY :Nm VZ (ak pX):=by decide
theorem qu :Lm VZ (ak pX):=by decide
theorem nR :aK VZ VY (ak pX):=#[rfl,rfl,rfl,by decide,rfl,by decide,by decide]
theorem IB (F:ic K "_law_due" "_law_due" pX f L)(z:dH P w K mg base "_law_there" j WU (rY K) gH hfd)(C:dH P w K mg base "_law_amiss" j Wg (wQ K cu tS GD gLO) gA afd)(B:dH P w K mg base "_law_amiss" j Wg (wQ K enc lK Gz gLG) gA afd)(q:mg "_law_opens"=some (.ref gLO))(r:mg "_law_gaps"=some (.ref gLG)):
  bH P w K mg base eZ (j+1) f L VY (GF K):=by
 refine F.ok nR (λM H Q E h=>?_) (λaa A p s H M Q E hr h=>?_)
 .have(_,_,_,_,_,_,_,rfl,_):=h;rfl
 have(v,vt,vk,kt,g,ft,fk,rfl,rv,Z,R,m,o,X,Y,k):=h;refine#[_,(Z5 (Zp (Z0 z (Za (va jY 0))) (Zb (Zi (ga nR.nd qu 3) (aJ (ga nR.nd qu 4) aX)))) (Z5 (Z2 nR.nd qu 5 (Z0 C (Z1 (va jY 4) (Z1 (va jY 2) (Za (dh (v:=.ref gLO) (by left) q rfl)))))) (Z5 (Zd (Zq CA (va jY 5) sj) (Ze (Z2 nR.nd qu 5 (Z0 B (Z1 (va jY 3) (Z1 (va jY 1) (Za (dh (v:=.ref gLG) (by left) r rfl)))))))) (Ze (cH (va jY 5)))))),?_]
 right
 right
 ext;intro p1 l1 l2 H1 G T S O u t W;have V:=bQ.of (K:=K) u;have J:=o.same G;ext;intro v2 H2 D l;have d:=G.trans D
 cases hk:qJ tS (bI g) fk with
 |none =>
  rw[hk]at l;have e:mE (bf g) (bI g) ft fk=qJ lK (bf g) ft:=by unfold mE;rw[hk]
  rw[e]at k
  cases l
  have I:=m.same d;have U:=D _ _ t;ext;intro v3 H3 N y;ext;exact k _ _ (d.trans N) y
 |some x =>
  rw[hk]at l;have e:mE (bf g) (bI g) ft fk=some x:=by unfold mE;rw[hk]
  rw[e]at k
  cases l with
  |some h =>
  ext;exact k _ _ d (.some h)
theorem dz.feed {S:fu}(r:dz K H (ys++S.nn f) m g)(e:aF H H2)(hn:H f2=none):dz K H2 (ys++S.nn f2) m g:=by
 refine(r.nn (n2:=ys++S.nn f2) λl o z j q=>?_).go (λb o z h=>e _ _ h) (Kt.same e);rcases MH.mp q with q|q
 .exact z (M8 _ q)
 .rcases vy.mp q with q|q
  .rw[q,hn]at j;cases j
  .exact z (I0 _ (.tail _ q))
theorem bx.feed {dl:List (Str×List Kk×Kk)}(s:bx K H f d S xs kl dl gs)(e:aF H H2)(hn:H f2=none)(q:cg H2 f2):bx K H2 f2 d S xs kl dl gs:=by
 have g:=s.same e;have(m,l,t):=s.ld;have(o,r,_):=s.la;have j:=dz.feed (ys:=[]) t e hn;exact#[g.sd,g.kd,s.ok,s.k3,s.lx,s.un,g.ln,g.lc,g.lp,#[m,e _ _ l,j],s.dl,g.lg,g.la,s.mm,s.mo,s.gn,s.tn,q,#[au s.sd hn,au s.ln hn,au s.lc hn,au s.lp hn,au l hn,au s.lg hn,au r hn],s.ng,s.nd,s.na,s.bb]
theorem iw.feed (a:iw K H f S kl ys dvs p)(e:aF H H2)(hn:H f2=none):iw K H2 f2 S kl ys dvs p:=by
 have(t,B,q,k,w,i,D,u,v,ok,kd,j,y,C,r,(E,l),G,A,z):=a;have(o,g,hr):=j.aa;have m:=dz.feed (ys:=[q]) E e hn;exact#[t,B,q,k,w,i,D,u.same e,v.same e,ok,kd,#[#[o,e _ _ g,hr.same e],au g hn,j.ng,j.na,j.pk,j.pl],y,C,e _ _ r,#[m,l],au r hn,A,z]
theorem FS.feed (s:FS K H f d S xs kl dl dvs g0 gs)(e:aF H H2)(hn:H f2=none)(j:cg H2 f2):FS K H2 f2 d S xs kl dl dvs g0 gs :=
 #[s.sc.feed e hn j,e _ _ s.hd,s.sub,λn h=>by have(g,p,o,m,l):=s.as n h;exact#[g,p,e _ _ o,m,l.feed e hn],s.kb,s.pb,s.ex]
structure Lv(H H':Hp):Prop where
 l:∀b ws,H b=some (.lst ws)->H' b=some (.lst ws)
 d:∀b kvs,H b=some (.dK kvs)->H' b=some (.dK kvs)
 k:Kt H H'
theorem bx.lv {dl:List (Str×List Kk×Kk)}(s:bx K H f d S xs kl dl gs)(v:Lv H H'):bx K H' f d S xs kl dl gs:=by
 have(m,q,t):=s.ld;have(g,r,j):=s.la;have(q1,o,e):=s.ff;exact#[v.d _ _ s.sd,s.kd.kt v.k,s.ok,s.k3,s.lx,s.un,v.l _ _ s.ln,v.l _ _ s.lc,v.l _ _ s.lp,#[m,v.l _ _ q,t.go (λb u _ h=>v.l _ _ h) v.k],s.dl,v.l _ _ s.lg,#[g,v.d _ _ r,j],s.mm,s.mo,s.gn,s.tn,#[q1,o,v.l _ _ e],s.nf,s.ng,s.nd,s.na,s.bb]
theorem iw.lv (a:iw K H f S kl ys dvs p)(v:Lv H H'):iw K H' f S kl ys dvs p:=by
 have(o,z,y,k,t,i,C,q,r,ok,kd,e,u,B,A,(D,j),w):=a;have(m,g,hr):=e.aa;exact#[o,z,y,k,t,i,C,q.kt v.k,r.kt v.k,ok,kd,#[#[m,v.l _ _ g,hr.kt v.k],e.nf,e.ng,e.na,e.pk,e.pl],u,B,v.l _ _ A,#[D.go (λb E _ h=>v.l _ _ h) v.k,j],w]
theorem FS.lv (s:FS K H f d S xs kl dl dvs g0 gs)(v:Lv H H'):FS K H' f d S xs kl dl dvs g0 gs :=
 #[s.sc.lv v,v.l _ _ s.hd,s.sub,λn h=>by have(e,p,m,j,g):=s.as n h;exact#[e,p,v.d _ _ m,j,g.lv v],s.kb,s.pb,s.ex]
theorem oA.lv (o:oA K H lo e)(v:Lv H H'):oA K H' lo e:=by
 have(g,h,r):=o;exact#[g,v.l _ _ h,r.kt v.k]
theorem Lv.same {d:Hp}(s:aF H d):Lv H d:=#[λ_ _ h=>s _ _ h,λ_ _ h=>s _ _ h,Kt.same s]
theorem Lv.grow (d:jD H Pt om iK)(g:rA Pt H j):Lv H j :=
 #[λb m h=>g _ _ (A9 d h) h,λb l h=>g _ _ (λz=>by subst z;rcases d with e|⟨c,e,_⟩<;>(rw[h]at e;cases e)) h,mh d g]
def Ks(t:Tm):Prop:=Wf t/\t.size<=12
theorem Ab (n:Int):Wf (.mk (.gap n) []):=.mk rfl λ_ h=>nomatch h
theorem Ej (n:Int):Wf (.mk (.num n) []):=.mk rfl λ_ h=>nomatch h
theorem spT :Iz enc (λn=>Tm.mk (.gap n) []) (.mk (.num 1) []) "gap" false Ks:=by
 refine#[rfl,λn=>by rw[cY];rfl,λn=>#[Ab n,O5 rfl],by rw[cY];rfl,#[Ej 1,O5 rfl],λz=>(nomatch z),λ_ y e=>#[y,rfl,e.1,by have:=e.2;omega,λh n=>#[#[.mk (.op "+") [y,.mk (.gap n) []],#[.mk rfl λk d=>?_,?_],?_],.mk .ife [.mk (.num 0) [],.mk (.gap n) [],y],#[.mk rfl λk d=>?_,?_],?_]]]
 .simp only[vy,MK,or_false]at d;rcases d with rfl|rfl
  .exact e.1
  .exact Ab n
 .rw[Tm.ju,Tm.b7,Tm.b7];show y.size+(1+0)+1<=12;omega
 .rw[cY];rfl
 .simp only[vy,MK,or_false]at d;rcases d with rfl|rfl|rfl
  .exact Ej 0
  .exact Ab n
  .exact e.1
 .rw[Tm.ju,Tm.b7,Tm.b7,Tm.b7];show 1+(1+(y.size+0))+1<=12;omega
 .rw[cY,show enc (.mk (.gap n) [])=_ from cY ..];show _=T.t [.s "if",enc (.mk (.num 0) []),enc (.mk (.gap n) []),enc y];rw[cY (.num 0),cY (.gap n)];rfl
theorem LL :Iz cu Kk.op Kk.num "open" true (λk=>k.dep<=2):=#[rfl,λ_=>rfl,λ_=>MP _,rfl,MP _,λ_ n=>#[.row (.op n),(by decide:1<=2),rfl],λz=>nomatch z]
theorem IC (t:Tm):(lK t).length<=t.size:=by
 unfold lK;exact FA (NL _ _) (by rw[Tm.cX];exact mu _)
structure ID(c:List (Int×Tm)×List (Int×Kk)):Prop where
 tl:c.1.length<=4
 kl:c.2.length<=4
 t:∀p∈c.1,Ks p.2
 k:∀p∈c.2,p.2.dep<=2
theorem ID.ft (h:ID c)(g:d.length<=900):Ew lK Gz d c.1 :=
 #[by have:=h.tl;omega,g,λp e=>#[#[(h.t p e).1,by have:=(h.t p e).2;omega],by have:=IC p.2;have:=(h.t p e).2;omega]]
theorem ID.fk (h:ID c)(e:d.length<=900):Ew tS GD d c.2 :=
 #[by have:=h.kl;omega,e,λp g=>#[by have:=h.k p g;show p.2.dep<=100;omega,by unfold tS;cases p.2.qw<;>simp]]
noncomputable def Ku(c:List (Int×Tm)×List (Int×Kk)):T:=.t [.t (c.1.map (kH enc)),.t (c.2.map (kH cu))]
noncomputable def LM:Option (Bool×Int)->T
 |none=>.n
 |some (b,n)=>.t [.s (if b then "no gap" else "twice"),.i n]
theorem uE.rp (a:uE H o v):Rp K H (LM o) v:=by
 cases a with
 |none=>exact .gq
 |some h=>exact Rp.t (bQ.of h) (.cons .s (.one .i))
theorem Gd (o:Option (Bool×Int)):(LM o).dep<=150:=by
 rcases o with _|⟨b,n⟩
 .show T.dep .n<=150;unfold T.dep;omega
 .show T.dep (.t _)<=150;unfold T.dep;unfold T.oh;unfold T.oh;unfold T.oh;unfold T.dep;simp
end G34
namespace L2
open PySem
end L2
namespace G34
open PySem L2
theorem Ge (d:jD H Pt om iK)(g:rA Pt H j)(h:bu K H a xs):bu K j a xs:=by
 rcases h with(h|⟨o,h⟩)|h
 .exact .inl (.inl (g _ _ (A9 d h) h))
 .exact .inl (.inr #[o,g _ _ (λz=>by subst z;rcases d with e|⟨c,e,_⟩<;>(rw[h]at e;cases e)) h])
 .exact .inr h
def Ba(Pt:Addr)(K:bA):Sp:=λe H Q _=>∃(a:Addr) (d:List Int),e=[.ref a]/\bu K H a (d.map V.int)/\d.length<=63/\jD H Pt om iK/\∀g,Q (.bl true) g
structure Gf(Pt:Addr) (H H':Hp):Prop where
 g:rA Pt H H'
 tb:jD H' Pt om iK
structure LW(K:bA) (Pt:Addr) (H:Hp) (d:Addr) (vp:V) (xs:List Str) (kl:Kl) (dl:List (Str×List Kk×Kk)) (dvs:List V) (ds:List (Str×List (Str×Kk)×Tm)) (os:List (Int×Kk)) (i:Nat) (H':Hp):Prop where
 x:∃(f:Addr) (S:fu) (gs:List Int),FS K H' f d S xs kl dl dvs (bf ds) gs/\gs.length<=5+4*i/\S.x2≠f/\S.x2≠S.lg/\S.ex=[(ky "opens",.ref S.x2)]/\oA K H' S.x2 os/\∀m∈[d,S.lg,S.la],H m=none
 g:Gf Pt H H'
 rp:Rp K H' (oH (nL kl) ds) vp
theorem GH (j:jD H Pt om iK)(h:∀b o,(∀g,o≠.lst g)->(∀kvs,o≠.dK kvs)->H b=some o->d b=some o):jD d Pt om iK:=by
 rcases j with e|⟨c,e1,e2⟩
 .exact .inl (h _ _ (λ_ z=>nomatch z) (λ_ z=>nomatch z) e)
 .exact .inr #[c,h _ _ (λ_ z=>nomatch z) (λ_ z=>nomatch z) e1,h _ _ (λ_ z=>by unfold mR at z;cases z) (λ_ z=>by unfold mR at z;cases z) e2]
theorem IE (g:jD H Pt om iK)(j:cg H f)(x:Ext f H d):jD d Pt om iK:=GH g λb o l _ h=>x.1 b o (λz=>by
 have(_,_,e):=j;rw[z,e]at h;injection h with h;exact l _ h.symm) h
theorem Gf.ext (g:Gf Pt d H)(hn:d f=none)(j:cg H f)(x:Ext f H e):Gf Pt d e:=#[λb o n h=>x.1 b o (au h hn) (g.g b o n h),IE g.tb j x]
theorem FS.ext (s:FS K H f d S xs kl dl dvs g0 gs)(x:Ext f H H'):FS K H' f d S xs kl dl dvs g0 gs:=s.at_ (Ext.uo s.sc.ff x) (s.cur.ext x #[s.sc.nf.1,s.sc.nf.2.2.2.2.2])
theorem oA.ext (o:oA K H lo e)(j:cg H f)(n:lo≠f)(x:Ext f H H'):oA K H' lo e:=by
 have(g,h,r):=o;exact#[g,x.1 _ _ n h,r.kt (x.kt j)]
structure TI(K:bA) (f:Addr) (H:Hp) (v1 v2:V) (H':Hp):Prop where
 x:∃ft fk,ID (ft,fk)/\Rp K H' (.t (ft.map (kH enc))) v1/\Rp K H' (.t (fk.map (kH cu))) v2
 e:Ext f H H'
theorem cA :Nm Vx (ak pY):=by decide
theorem iI :Lm Vx (ak pY):=by decide
theorem hU :aK Vx ["_law_script"] (ak pY):=#[rfl,rfl,rfl,by decide,rfl,by decide,by decide]
theorem IF (h8:8<=j)(fp:jd<=j)(F:ic K "law" "law" pY f fd)(FD:dH P w K mg base "_law_feed" 1 WJ (zx K) gF ffd)(TK:dH P w K mg base "_law_take" 1 Vy eK gT tfd)(ed:dH P w K mg base "_law_drawn" jd WV (A7 K) gD dfd)(eb:dH P w K mg base "_law_there" j WU (rY K) gH hfd)(ec:dH P w K mg base "_law_fillings" j Wq (tV K) gL lfd)(cr:dH P w K mg base "_law_spoilt" 4 Wh (yR K) gS sfd)(ef:dH P w K mg base "_law_due" j VY (GF K) gU ufd)(ea:dH P w K mg base "_law_told" 8 VY (Ei K Pt) gI ifd)(z_range:mg "range"=none):bH P w K mg base eZ (j+1) f fd ["_law_script"] (Ba Pt K):=by
 refine F.ok hU (λvs H Q E h=>?_) (λf5 A db s H vs Q E hr h=>?_)
 .have(_,_,rfl,_):=h;rfl
 have(a,ns,rfl,hS,fa,tb,k):=h;refine#[_,(Z5 (Zp (Z0 ed (cZ (va cA 0) (Za aq))) (Zb (Zi (ga hU.nd iI 1) (aJ (ga hU.nd iI 2) aX)))) (Z5 (Zp (Z0 eb (Za (va cA 1))) (Zb (Zi (ga hU.nd iI 3) (aJ (ga hU.nd iI 4) aX)))) (Z5 (Zk (uI (by left) z_range (Za aq)) (ga hU.nd iI 5) (Z5 (Z2 hU.nd iI 6 (Z0 FD (Z1 (va cA 0) (Z1 (aS cK aq (va cA 5)) ao)))) (Z5 (Zp (Z0 ec (Z1 (va cA 6) (Z1 (va cA 1) (Za (va cA 2))))) (Zb (Zi (ga hU.nd iI 7) (aJ (ga hU.nd iI 8) aX)))) (Z5 (Z2 hU.nd iI 9 (Zg (Z1 (va cA 7) (Za (va cA 8))))) (Z5 (Zk (Zn (Z1 (Zm cK aq (Z0 TK (cZ (va cA 6) (Za aq)))) ao)) (ga hU.nd iI 10) (Z5 (Z2 hU.nd iI 11 (Zm sJ (Zm sJ (Zh (va cA 2)) (Zc (ak pY) Vx WR [] (@cJ _ _ _ _ (Zh (va cA 2))) (λ_ _ _ _=>(Zb (Zi (Z3 (i:=0) (show(WR:List Str).Nodup by decide)) (aJ (Z3 (i:=1) (show(WR:List Str).Nodup by decide)) aX)))) (λ_ _ _ _=>(va (show Nm WR _ by left) 0)))) (@bh _ _ _ _ (Z1 (Z0 TK (cZ (va cA 6) (Za aq))) ao)))) (Ze (@kI _ _ _ _ _ _ _ _ (Zj mH (Z0 TK (cZ (va cA 6) (Za aq))) aq) (Ze (Z2 hU.nd iI 7 (Z0 cr (Z1 (va cA 6) (Z1 (bZ kh (va cA 7) cW (bL aq)) (cZ (va cA 11) (Za aB))))))) (Ze (Z2 hU.nd iI 8 (Z0 cr (Z1 (va cA 6) (Z1 (bZ kh (va cA 8) cW (bL aq)) (cZ (va cA 11) (Za aB))))))))))) (Ze (Zk (@cJ _ _ _ _ (@bh _ _ _ _ (Z1 (va cA 9) (Z1 (Zg (Z1 (va cA 7) (Za (va cA 8)))) (Z1 (va cA 9) (Z1 (Zg (Z1 (va cA 7) (Za (va cA 8)))) ao)))))) (ga hU.nd iI 12) (Ze (Zd (Zj (zq hr.xW) (Z0 ea (Z1 (va cA 1) (Z1 (Z9 aZ (va cA 12)) (Z1 (Z9 aZ (va cA 12)) ao)))) (Z0 ef (Z1 (va cA 1) (Z1 (Z9 aZ (va cA 12)) (Z1 (Z9 aZ (va cA 12)) ao))))) (bW (cH wY))))))))))) (bW (cH wY))))),?_]
 right
 right
 ext;intro p1 d fe vp H1 S xs kl dl d6 ds D gs s1 dq I fj hM fl;have(pa,e0,rfl,e3,e4):=(show Rp K H1 (.t [nL kl,.t (ds.map vW)]) vp from I.rp).bq;have q1:=bQ.of (K:=K) dq;have d7:rm ds:=#[by have:=I.d3;omega,λdd hd=>#[(I.dok dd hd).1.wf,by have:=(I.dok dd hd).2.1;omega,by have:=(I.dok dd hd).2.2.2.1;omega]];have Gs:∀dd∈ds,∀p∈dd.2.1,p.2.dep<=100:=λdd hd p hp=>by have:=((I.dok dd hd).2.2.2.2.1 p hp).1;omega
 have dn:(bI ds).length<=900:=by rw[I.kg,bC];have:=I.oso.1;omega
 have cs:(bf ds).length<=900:=yh d7;have c7:=I.rp;have dc:=I.oso;have fz:=I.kg;have em:=I.nd;have v:=I.ng;have U:=I.ex;have en:=gj tb s1;ext;intro p2 l1 l2 H2 s2 fg fc e7 d0 dz d1;have q2:=bQ.of (K:=K) d0;have ai:=Lv.same s2;have cn:=I.fs.lv ai;have b8:=I.op.lv ai;have az:=I.nf;clear dz d1;have bt:=s1.trans s2;have c6:=c7.kt ai.k;have cw:=gj tb bt;ext;refine eO (n:=(Int.toNat 2)) (λi W H6=>(∃(y5 y6 y7 y8 y9 ac ab aa:Option V),W=[some (.ref a),some (.ref pa),some (.ref d),some (.ref l1),some (.ref l2),y5,y6,y7,y8,y9,ac,ab,aa])/\LW K Pt H d (.ref pa) xs kl dl d6 ds D i H6) #[#[_,_,_,_,_,_,_,_,rfl],#[#[fe,S,gs,cn,(),az,v,U,b8,hM],#[λb o _ h=>bt _ _ h,cw],c6]] ?_ ?_;clear hM v U az b8 cn
 .rintro i W H6 hi ⟨⟨_,_,_,_,_,_,_,_,rfl⟩,⟨⟨f6,S6,d2,cm,fv,e6,v,U,a9,hM⟩,al,c5⟩⟩;have fi:i<2:=hi;have fq:=Ge tb al.g hS;have br:=al.tb;ext;intro f7 H7 s7 G cf;have an:=cm.feed s7 G cf;have a0:=Lv.same s7;have c4:=c5.kt a0.k;have b7:=a9.lv a0;have cv:=gj br s7;have fw:d2.length<=10:=()
  have y:S6.x2≠f7:=by
   have(ov,h,r):=a9;exact au h G
  ext;intro p8 v1 v2 H8 ft fk m8 m g2 R cp fr dp bz b4 bl co df dj dh dk;have bm:=an.at_ R cp;obtain⟨S8,eS⟩:∃S8:fu,S8={S6 with mo:=m8}:=#[_,rfl];rw[<-eS]at bm;have d5:S8.lg=S6.lg/\S8.la=S6.la/\S8.x2=S6.x2/\S8.ex=S6.ex:=by rw[eS];exact#[rfl,rfl,rfl,rfl]
  clear eS cp;have q8:=bQ.of (K:=K) dp;have c3:=c4.kt R.kt;have(e9,cg,_):=an.sc.la;have bs:=an.sc.sd;have dm:=an.sc.lg
  have ck:Gf Pt H H8:=by
   refine#[λb o hb h=>R.oth b o (λz=>?_) (au (al.g b o hb h) G) (s7 _ _ (al.g b o hb h)),GH cv λb o h1 h2 h=>R.oth b o (λz=>?_) (λz=>?_) h]
   .rw[hM b z]at h;cases h
   .simp only[vy,MK,or_false]at z;rcases z with rfl|rfl|rfl
    .rw[bs]at h;injection h with h;exact h2 _ h.symm
    .rw[dm]at h;injection h with h;exact h1 _ h.symm
    .rw[cg]at h;injection h with h;exact h2 _ h.symm
   .have(_,_,e):=cf;rw[z,e]at h;injection h with h;exact h1 _ h.symm
  have b6:oA K H8 S6.x2 D:=by
   have(ov,h,r):=b7;exact#[ov,bS.get3 (M:=[]) R (cI h bs nofun) v (cI h cg nofun) y h,r.kt R.kt]
  have(f1,f2,f3,f4):=d5;rw[<-f1,<-f2]at hM;rw[<-f3]at y b6 v U;rw[<-f1]at v;rw[<-f4]at U;clear f1 f2 f3 f4 df dj dh dk R an cm b7 a9;have bn:ID (ft,fk):=#[bl.1,Nat.le_succ_of_le co.1,λp hp=>#[(bl.2 p hp).1.wf,(bl.2 p hp).2],λp hp=>(co.2 p hp).1];have fo:=bm.sc.ff;ext;intro B cd;have s9:=ae cd (.tup [v1,v2]);have r9:Rp K (upd H8 B (.tup [v1,v2])) (Ku (ft,fk)) (.ref B):=Rp.new (K:=K) (xs:=[.t (ft.map (kH enc)),.t (fk.map (kH cu))]) cd (.cons bz (.one b4));have a4:=bz.same s9;have a5:=b4.same s9;generalize upd H8 B (.tup [v1,v2])=H9 at s9 r9 a4 a5|-;have ah:=Lv.same s9;have aw:=bm.lv ah;have b1:=c3.kt ah.k;have a8:=b6.lv ah;have cj:Gf Pt H H9:=#[λb o n h=>s9 _ _ (ck.g b o n h),gj ck.tb s9];have O:=aw.sc.ff;ext;intro rt HA er eq xA
  have dt:H f7=none:=by
   cases hc:H f7 with
   |none=>rfl
   |some o=>exact absurd (al.g f7 o (λz=>by subst z;rcases br with e|⟨c,e,_⟩<;>(rw[G]at e;cases e)) hc) (by rw[G];exact λz=>nomatch z)
  ext;refine eO (n:=(1+rt).toNat) (λi' W HB=>(∃(v1 v2:V) (ac ab aa:Option V),W=[some (.ref a),some (.ref pa),some (.ref d),some (.ref l1),some (.ref l2),some (.int (0+(i:Int))),some (.ref f7),some v1,some v2,some (.ref B),ac,ab,aa]/\TI K f7 H9 v1 v2 HB)) #[_,_,_,_,_,rfl,#[#[ft,fk,bn,a4.kt (xA.kt O),a5.kt (xA.kt O)],xA]] ?_ ?_
  .rintro i' W HB hi' ⟨w1,w2,_,_,_,rfl,⟨⟨q,u,C,ar,as⟩,xB⟩⟩;have am:=aw.ext xB;have a7:=a8.ext O y xB;have(e5,ce,ax):=a7;have gB:=am.sc.lg;have gb:bu K HB S8.lg (m.map V.int):=bu.of gB;have dg:=bx.get am.sc (tT _);have dx:=bx.get am.sc (wN U);have e8:D.length<=3:=dc.1;have fn:=xB.2;have ei:=ax.length;ext;refine eR (K:=K) (e:=kH cu) (φ:=λp=>[.i p.1]) (λW=>∃y0 y1,W=[y0,y1]) ce ax () (λ_=>mu _) #[_,_,rfl] ?_ ?_
   .rintro p hp xv _ HC N Z ⟨_,_,rfl⟩ rx kN;have(xa,x1,x2,rfl,bo,e1,e2):=(show Rp K HC (.t [.i p.1,cu p.2]) xv from rx).t2;obtain rfl:=e1.di;ext;exact kN _ _ _ #[#[_,_,rfl],aF.refl _,.one .i]
   intro lo HC ej Z fb hC rC;rw[kE,show(λp:Int×Kk=>T.i p.1)=T.i ∘ (·.1)from rfl,<-Ph]at rC;obtain rfl:=rC.jb;have gC:=Z _ _ gB;have f9:bu K HC S8.lg (m.map V.int):=bu.of gC;have f8:bu K HC lo ((D.map (·.1)).map V.int):=bu.of hC;have lC:(m.map V.int).length+((D.map (·.1)).map V.int).length<=mC:=small (by rw[bC,bC,bC];omega);have xC:=xB.same Z;ext;intro L Y;have sD:=ae Y (.lst (m.map V.int++(D.map (·.1)).map V.int));have hD:upd HC L (.lst (m.map V.int++(D.map (·.1)).map V.int)) L=some (.lst (m.map V.int++(D.map (·.1)).map V.int)):=af;have xD:=xC.same sD
   have nD:L≠f7:=λz=>by
    have(_,_,e):=xC.2;rw[z,e]at Y;cases Y
   generalize upd HC L (.lst (m.map V.int++(D.map (·.1)).map V.int))=HD at sD hD xD|-;have dv:=xD.2;ext;intro J HE ew ev a2;have xE:=xD.trans a2;have hE:=a2.1 _ _ nD hD;ext;intro pE bj;have X:=ae bj (.lst [.int J]);have dw:upd HE pE (.lst [.int J]) pE=some (.lst [.int J]):=af;have dy:=X _ _ hE;have xF:=xE.same X;generalize upd HE pE (.lst [.int J])=HF at X dy dw xF|-;have lF:(m.map V.int++(D.map (·.1)).map V.int).length+[V.int J].length<=mC:=small (by rw[j3,bC,bC,bC];show _+1<=_;omega);ext;intro pG bi;have sG:=ae bi (.lst (m.map V.int++(D.map (·.1)).map V.int++[.int J]));have hG:upd HF pG (.lst (m.map V.int++(D.map (·.1)).map V.int++[.int J])) pG=some (.lst ((m++D.map (·.1)++[J]).map V.int)):=by rw[af,m3,m3];rfl
   have xG:=xF.same sG
   have nG:pG≠f7:=λz=>by
    have(_,_,e):=xF.2;rw[z,e]at bi;cases bi
   generalize upd HF pG (.lst (m.map V.int++(D.map (·.1)).map V.int++[.int J]))=HG at sG hG xG|-;have du:=xG.2;have lG:(m++D.map (·.1)++[J]).length<=900:=by rw[j3,j3,bC];show _+1<=_;omega
   have bg:1<=(m++D.map (·.1)++[J]).length:=by rw[j3];exact Nat.le_add_left ..
   generalize m++D.map (·.1)++[J]=nsG at hG lG bg;ext;intro rH HH et es a1;have xH:=xG.trans a1;have hH:=a1.1 _ _ nG hG;have fm:=xH.2;have b9:Kt HB HH:=((((Kt.same (Z.trans sD)).trans (a2.kt dv)).trans (Kt.same (X.trans sG))).trans (a1.kt du));have bv:=ar.kt b9;have b2:=as.kt b9;have(at_,wt,rfl,eo,cz):=id bv.bq;have(gc,wk,rfl,ep,c0):=id b2.bq;ext;refine cM (λc=>?_) (λc=>?_)
   .ext;intro pI HI sI ag;rw[show iW wt none (some 3)=wt.take 3 from fY wt 3]at ag;have rI:Rp K HI (.t ((q.take 3).map (kH enc))) (.ref pI):=Rp.t ag (by rw[NS];exact(cz.same sI).take 3);have xI:=xH.same sI;have aj:=xI.2;have bk:=sI _ _ hH;have l3:(q.take 3).length<=3:=by rw[we];omega
    have bb:∀p∈q.take 3,Ks p.2:=λp hp=>C.t p (MT hp);have cx:=spT;ext;refine#[enc,_,_,_,_,Ks,f7,pG,.ref pI,q.take 3,nsG,rfl,spT,aj,rI,l3,bb,bk,nG,bg,lG,?_];intro vJ HJ fJ ad rJ lJ ba;have xJ:=xI.trans ad;ext;exact#[#[fJ,u,#[lJ,C.kl,ba,C.k],rJ,(b2.same sI).kt (ad.kt aj)],xJ]
   .ext;intro pI HI sI ag;rw[show iW wk none (some 3)=wk.take 3 from fY wk 3]at ag;have rI:Rp K HI (.t ((u.take 3).map (kH cu))) (.ref pI):=Rp.t ag (by rw[NS];exact(c0.same sI).take 3);have xI:=xH.same sI;have aj:=xI.2;have bk:=sI _ _ hH;have l3:(u.take 3).length<=3:=by rw[we];omega
    have bb:∀p∈u.take 3,p.2.dep<=2:=λp hp=>C.k p (MT hp);have cx:=LL;ext;refine#[cu,_,_,_,_,λk=>k.dep<=2,f7,pG,.ref pI,u.take 3,nsG,rfl,LL,aj,rI,l3,bb,bk,nG,bg,lG,?_];intro vJ HJ fJ ad rJ lJ ba;have xJ:=xI.trans ad;ext;exact#[#[q,fJ,#[C.tl,lJ,C.t,ba],(bv.same sI).kt (ad.kt aj),rJ],xJ]
  .rintro W HB ⟨w1,w2,_,_,_,rfl,⟨⟨q,u,C,ar,as⟩,xB⟩⟩;have am:=aw.ext xB;have a7:=a8.ext O y xB;have ci:=cj.ext dt O xB;have c2:=b1.kt (xB.kt O);have c8:=r9.kt (xB.kt O);clear aw a8 cj b1 r9 xB a4 a5;ext;intro pC cc;have Z:=ae cc (.tup [w1,w2]);have rC:Rp K (upd HB pC (.tup [w1,w2])) (Ku (q,u)) (.ref pC):=Rp.new (K:=K) (xs:=[.t (q.map (kH enc)),.t (u.map (kH cu))]) cc (.cons ar (.one as));have bw:=ar.same Z;have b3:=as.same Z;generalize upd HB pC (.tup [w1,w2])=HC at Z rC bw b3|-;ext;intro L Y;have sD:=ae Y (.tup [w1,w2]);have rD:Rp K (upd HC L (.tup [w1,w2])) (Ku (q,u)) (.ref L):=Rp.new (K:=K) (xs:=[.t (q.map (kH enc)),.t (u.map (kH cu))]) Y (.cons bw (.one b3));have b5:=rC.same sD;have a6:=c8.same (Z.trans sD);generalize upd HC L (.tup [w1,w2])=HD at sD rD b5 a6|-;ext;intro pE bj;have X:=ae bj (.lst [.ref B,.ref pC,.ref B,.ref L]);have hE:upd HD pE (.lst [.ref B,.ref pC,.ref B,.ref L]) pE=some (.lst [.ref B,.ref pC,.ref B,.ref L]):=af;have J:bN K (upd HD pE (.lst [.ref B,.ref pC,.ref B,.ref L])) ([(ft,fk),(q,u),(ft,fk),(q,u)].map Ku) [.ref B,.ref pC,.ref B,.ref L]:=.cons (a6.same X) (.cons (b5.same X) (.cons (a6.same X) (.one (rD.same X))))
   have JR:∀c∈[(ft,fk),(q,u),(ft,fk),(q,u)],ID c:=λc hc=>by
    simp only[vy,MK,or_false]at hc;rcases hc with rfl|rfl|rfl|rfl
    .exact bn
    .exact C
    .exact bn
    .exact C
   generalize upd HD pE (.lst [.ref B,.ref pC,.ref B,.ref L])=HE at X hE J|-;generalize [(ft,fk),(q,u),(ft,fk),(q,u)]=ca at J JR;have be:=Lv.same ((Z.trans sD).trans X);have d4:=am.lv be;have de:=a7.lv be;have b0:=c2.kt be.k;have ch:Gf Pt H HE:=#[λb o n h=>((Z.trans sD).trans X) _ _ (ci.g b o n h),gj ci.tb ((Z.trans sD).trans X)];have ap:=ch.tb;ext;refine mW (K:=K) (xs:=[.ref B,.ref pC,.ref B,.ref L]) (λi' W Hx=>(∃(ac ab aa:Option V),W=[some (.ref a),some (.ref pa),some (.ref d),some (.ref l1),some (.ref l2),some (.int (0+(i:Int))),some (.ref f7),some w1,some w2,some (.ref B),ac,ab,aa])/\Gf Pt HE Hx) #[#[_,_,_,rfl],λb o _ h=>h,ap] ?_ ?_ ?_
   .rintro i' W Hx hi' ⟨_,gi⟩;exact bu.of ((Lv.grow ap gi.g).l _ _ hE)
   .rintro i' xv W Hx hxv ⟨⟨_,_,_,rfl⟩,gi⟩;have(yv,cb,cy):=J.get' hxv;rw[rj]at cb;have(c,hc,rfl):=ur.mp cb;have cq:=JR c (t9 hc);have kx:=(Lv.grow ap gi.g).k;have(xa,x1,x2,rfl,bo,da,c9):=(show Rp K Hx (.t [.t (c.1.map (kH enc)),.t (c.2.map (kH cu))]) xv from cy.kt kx).t2;have c1:=b0.kt kx;have fx:=cq.ft cs;have fy:=cq.fk dn;have ct:=gi.tb;ext;intro el gd cl bp d9;have av:=mh ct cl;have eh:=c1.kt av;have ez:=da.kt av;have ey:=c9.kt av;have eg:=bo.kt av;ext;intro ek ee a3 d8;have m1:=(d9.same a3).rp (K:=K);have m2:=d8.rp (K:=K);have f0:=Gd (mE (bf ds) (bI ds) c.1 c.2);have gx:Gf Pt HE ee:=#[λb o n h=>a3 _ _ (cl b o n (gi.g b o n h)),gj bp a3];ext;refine cM (λc=>?_) (λc=>?_)
    .rw[decide_eq_true rfl]at c
     cases c
    .ext;exact gx
   .rintro W Hx ⟨⟨_,_,_,rfl⟩,gi⟩;have bc:=Lv.grow ap gi.g;ext;exact#[#[f7,S8,m,d4.lv bc,(),y,v,U,de.lv bc,hM],#[λb o n h=>gi.g b o n (ch.g b o n h),gi.tb],b0.kt bc.k]
 .rintro W H6 ⟨⟨_,_,_,_,_,_,_,_,rfl⟩,_⟩;ext;exact k _
def pR:Kk->Prop
 |.row k2=>cu k2≠T.s "num"
 |_=>False
theorem ah :Nm Vq (ak dB):=by decide
theorem aY :Lm Vq (ak dB):=by decide
theorem aW :aK Vq Vt (ak dB):=#[rfl,rfl,rfl,by decide,rfl,by decide,by decide]
theorem Ac (hn:n<=10)(hj:1<=j)(h1:ja<=j)(h2:jl<=j)(h3:jk<=j)(h4:je<=j)(F:ic K "_law_generic" "_law_generic" dB f fd)(TK:dH P w K mg base "_law_take" 1 Vy eK gT tfd)(AK:dH P w K mg base "_law_any_kind" jk VF (ik K 3) gG gfd)(BD:dH P w K mg base "_law_bound" 1 Ws (rV K) gB bfd)(TE:dH P w K mg base "_law_term" je Vt (pA K n) gE efd)(AR:dH P w K mg base "_law_arms" ja VI (DU K n) gA afd)(LF:dH P w K mg base "_law_leaf" jl VU (wK K) gL lfd)(z_len:mg "len"=none)(ad:mg "tuple"=none)(a3:mg "max"=none):bH P w K mg base eZ (j+1) f fd Vt (vq K (n+1)):=by
 refine F.ok aW (λvs H Q E h=>?_) (λgu A cx s H vs Q E hr h=>?_)
 .have(_,_,_,_,_,_,_,_,_,_,_,_,_,rfl,_):=h;rfl
 have(fe,d,ar,vk,p,as,S,xs,kl,dl,gs,ps,U,rfl,sc,ai,rk,ok,fv,gn,gl,e6,e5,fy,k):=h;refine#[_,(Z5 (Z2 aW.nd aY 6 (Z0 TK (cZ (va ah 0) (Za aq)))) (Z5 (Z2 aW.nd aY 7 (Zm j5 (aS bK (va ah 4) aq) aq)) (Z5 (Z2 aW.nd aY 8 (Zl aN (Zh (va ah 1)) (Z0 TK (cZ (va ah 0) (Za aq))))) (Z5 (Zd (Zq bR (va ah 6) aq) (Z5 (Z2 aW.nd aY 9 (Z0 AK (Z1 (va ah 0) (Z1 (Zc (ak dB) Vq VG [] (@dZ _ _ _ _ (Zh (va ah 1))) (λ_ _ _ _=>(Zb (Zi (Z3 (i:=0) (show(VG:List Str).Nodup by decide)) (aJ (Z3 (i:=1) (show(VG:List Str).Nodup by decide)) aX)))) (λ_ _ _ _=>(va (show Nm VG _ by left) 0))) (Za aq))))) (Z5 (Z2 aW.nd aY 10 (Z0 TE (Z1 (va ah 0) (Z1 (va ah 1) (Z1 (va ah 2) (Z1 (va ah 9) (Z1 (va ah 7) (Z1 (aS bK (va ah 5) aq) ao)))))))) (Z5 (Z2 aW.nd aY 11 (Z0 BD (Z1 (va ah 2) (Z1 (@bh _ _ _ _ (Z1 (Zg (Z1 (va ah 8) (Za (va ah 9)))) ao)) ao)))) (Ze (Zo (Zg (Z1 aB (Z1 (va ah 8) (Z1 (va ah 10) (Z1 (Z0 TE (Z1 (va ah 0) (Z1 (va ah 1) (Z1 (va ah 11) (Z1 (va ah 3) (Z1 (va ah 7) (Z1 (aS bK (va ah 5) aq) ao))))))) ao))))))))))) (Z5 (Zd (PW.pt (@uH _ _ _ _ _ _ _ (Zq bR (va ah 6) aq) (@sr _ _ _ _ (PW.pt (@iL _ _ _ _ _ _ _ (Zq bR (va ah 6) aq) (@iz _ _ _ _ (Zj bR (Z4 (Z1 (Zh (va ah 1)) ao)) aq))))))) (Z5 (Z2 aW.nd aY 12 (Z0 TE (Z1 (va ah 0) (Z1 (va ah 1) (Z1 (va ah 2) (Z1 aB (Z1 (va ah 7) (Z1 (aS bK (va ah 5) aq) ao)))))))) (Z5 (Z2 aW.nd aY 10 (Z0 TE (Z1 (va ah 0) (Z1 (va ah 1) (Z1 (va ah 2) (Z1 (va ah 3) (Z1 (va ah 7) (Z1 (aS bK (va ah 5) aq) ao)))))))) (Ze (Zo (Zg (Z1 aB (Z1 (va ah 12) (Z1 (va ah 10) (Z1 (Z0 TE (Z1 (va ah 0) (Z1 (va ah 1) (Z1 (va ah 2) (Z1 (va ah 3) (Z1 (va ah 7) (Z1 (aS bK (va ah 5) aq) ao))))))) ao)))))))))) (Z5 (Zd (Zq bR (va ah 6) aq) (Z5 (Z2 aW.nd aY 9 (Zg (Z1 aB (Z1 (Zl aZ (Zl aZ (Zh (va ah 1)) (Z0 TK (Z1 (va ah 0) (Z1 (Z4 (Z1 (Zh (va ah 1)) ao)) ao)))) aq) ao)))) (Z5 (Z2 aW.nd aY 10 (Z0 TE (Z1 (va ah 0) (Z1 (va ah 1) (Z1 (va ah 2) (Z1 (va ah 9) (Z1 (va ah 7) (Z1 (aS bK (va ah 5) aq) ao)))))))) (Ze (Zo (Zg (Z1 aB (Z1 (va ah 10) (Z1 (Z0 AR (Z1 (va ah 0) (Z1 (va ah 1) (Z1 (va ah 2) (Z1 (va ah 3) (Z1 (va ah 9) (Z1 (Zm j5 (aS bK (va ah 4) aq) aq) (Z1 (aS bK (va ah 5) aq) ao)))))))) ao))))))))) (Z5 (Zd (Zq bR (va ah 6) aq) (Z5 (Z2 aW.nd aY 9 (Z0 AK (Z1 (va ah 0) (Z1 (Zc (ak dB) Vq VG [] (@dZ _ _ _ _ (Zh (va ah 1))) (λ_ _ _ _=>(Zb (Zi (Z3 (i:=0) (show(VG:List Str).Nodup by decide)) (aJ (Z3 (i:=1) (show(VG:List Str).Nodup by decide)) aX)))) (λ_ _ _ _=>(va (show Nm VG _ by left) 0))) (Za aq))))) (Z5 (Z2 aW.nd aY 13 (Zl aN (Zh (va ah 1)) aq)) (Z5 (Z2 aW.nd aY 14 (Z0 TE (Z1 (va ah 0) (Z1 (va ah 1) (Z1 (va ah 2) (Z1 (Zg (Z1 aB (Za (va ah 9)))) (Z1 (va ah 7) (Z1 (aS bK (va ah 5) aq) ao)))))))) (Z5 (Z2 aW.nd aY 15 (Z0 TE (Z1 (va ah 0) (Z1 (va ah 1) (Z1 (va ah 2) (Z1 (va ah 3) (Z1 (va ah 7) (Z1 (aS bK (va ah 5) aq) ao)))))))) (Z5 (Z2 aW.nd aY 11 (Z0 BD (Z1 (va ah 2) (Z1 (@bh _ _ _ _ (Z1 (Zg (Z1 (va ah 8) (Za (va ah 9)))) (Z1 (Zg (Z1 (va ah 13) (Za (va ah 3)))) ao))) ao)))) (Ze (Zo (Zg (Z1 aB (Z1 (va ah 14) (Z1 (va ah 8) (Z1 (va ah 13) (Z1 (va ah 15) (Z1 (Z0 TE (Z1 (va ah 0) (Z1 (va ah 1) (Z1 (va ah 11) (Z1 (va ah 3) (Z1 (va ah 7) (Z1 (aS bK (va ah 5) aq) ao))))))) ao))))))))))))))) (Z5 (Zf (ak dB) Vq Wv [3] (@cJ _ _ _ _ (Zh (va ah 1))) (λ_ _ _ _=>(Z3 (i:=0) (show(WL:List Str).Nodup by decide))) (λ_ _ _ _=>(@fE _ _ _ (Zj (AD K rfl hr.xW) (Z9 (gM K rfl) (va (show Nm WL _ by left) 0)) (va (show Nm WL _ by left) 1)))) (λ_ _ _ _=>(va (show Nm WL _ by left) 0)) (ga aW.nd aY 16)) (Z5 (Zd (PW.pt (@iL _ _ _ _ _ _ _ (Zq bR (va ah 6) aq) (@iz _ _ _ _ (Zj mH (Z4 (Za (va ah 16))) aq)))) (Z5 (Zp (Zl aN (va ah 16) (Z0 TK (Z1 (va ah 0) (Z1 (Z4 (Za (va ah 16))) ao)))) (@iS _ _ _ _ _ (3) K rfl rfl (Zi (ga aW.nd aY 17) (Zi (ga aW.nd aY 18) (aJ (ga aW.nd aY 9) aX))) (by rfl) (by rfl))) (Z5 (Zf (ak dB) Vq Wv [0,1,2,4,5,18] (cJ (va ah 18)) (λ_ _ _ _=>(Z3 (i:=0) (show(Vv:List Str).Nodup by decide))) (λ_ _ _ _=>eN) (λ_ _ _ _=>(Z0 TE (Z1 (va (show Nm Vv _ by left) 1) (Z1 (va (show Nm Vv _ by left) 2) (Z1 (va (show Nm Vv _ by left) 3) (Z1 (va (show Nm Vv _ by left) 0) (Z1 (Zm j5 (aS bK (va (show Nm Vv _ by left) 4) aq) (@dQ _ _ _ _ _ _ _ _ _ (qB rfl) (by left) a3 Q7 (Z1 aq (Z1 (@dQ _ _ _ _ _ _ _ _ _ (ud K rfl) (by left) z_len Qa (Za (va (show Nm Vv _ by left) 6)) (by decide) (by decide) (by rfl) (by rfl)) ao)) (by decide) (by decide) (by rfl) (by rfl))) (Z1 (aS bK (va (show Nm Vv _ by left) 5) aq) ao)))))))) (ga aW.nd aY 19)) (Ze (Zo (Zg (Z1 aB (Z1 (va ah 17) (Z1 (Z6 aU ad MJ (Za (va ah 19))) ao))))))))) (Z5 (Zd (PW.pt (@iL _ _ _ _ _ _ _ (Zq (zq hr.xW) (va ah 3) aB) (@iL _ _ _ _ _ _ _ (Zj bR (Z9 aZ (va ah 3)) aB) (@iz _ _ _ _ (Zj (zq hr.xW) (Z9 aZ (va ah 3)) aB))))) (Ze (Zo (Z0 LF (Z1 (va ah 0) (Z1 (va ah 1) (Z1 (va ah 2) (Za (va ah 3))))))))) (Ze (Zo (Zg (Z1 aB (Z1 (Z0 TE (Z1 (va ah 0) (Z1 (va ah 1) (Z1 (va ah 2) (Z1 (Zg (Z1 aB (Za (va ah 3)))) (Z1 (aS bK (va ah 4) aq) (Z1 (aS bK (va ah 5) aq) ao))))))) ao))))))))))))))),?_]
 right
 right
 have eg:ps.length+2*n<=S.pb:=()
 have gc:=sc.ff;have(gx,gw,gv):=sc.bb;have ec:U.dep+n<=S.kb:=()
 have ew:-1<=(p-1) / 3:=()
 have ev:(p-1) / 3<=1000:=()
 have gt:0<=as-1:=()
 have gr:as-1<n:=()
 refine sY ?_;intro N1 N2 N3 N4 N5 N6 N7 N8 c1 c2 c3 c4 c5 c6 c7 c8;ext;intro fm H1 gi gh x1;have w1:Wk K fe d S xs kl dl H (n+3) [] [] gs H1:=(Wk.nil sc).ext x1;have gb:=w1.sc.get (rT S);have gd:=w1.sc.ff;ext;intro r2 H2 cv fc x2;have w2:=w1.ext x2;have ej:=w2.sc.ln;have(x,hx,wx):=w2.sc.name cv ();have(y,hy,wy):=w2.sc.name (r:=5) (by decide) (by decide);have o:=w2.sc;have b6:=o.ff;have g8:=w2.rW ai;have fb:=w2.rp rk;have f0:=o.get (mw S);have IY:=o.IY;have(ka,G,ek,aj,az):=o.kd.bq
 cases ek
 have br:=az.length;rw[bC]at br;have k3:=o.k3;ext
 have W:∀(h:Hd) (v:V) (H':Hp) (ts:List Tm) (J:List V) (g':List Int),Wk K fe d S xs kl dl H (n+3) ts J g' H'->fg h ts.length=true/\yz h->ts.length<=9->Rp K H' (oS h (ts.map enc)) v->Q v H':=λh v H' ts J g' w' ca l' r' =>
  k v H' (.mk h ts) g' w'.fr w'.sc (by rw[cY];exact r') (w'.tok ca l' ()).1 (w'.tok ca l' ()).2
 refine cM (λc=>?_) (λc=>?_)
 .ext;refine rX o λl3 Z s3 dj h3=>?_;have w3:=w2.same s3;have dm:=w3.sc.ff;have bs:(kn kl).length<=100:=()
  ext;intro v4 H4 M x4 r4 o4 d4;have B:=w3.ext x4;have R:=B.sc;have ax:=B.rW ai;have db:M.dep+n<=S.kb:=by have:(1:Int).toNat=1:=rfl;omega
  ext;intro v5 H5 ag g5 f5 L r5 O d5;have u:=B.snoc f5 L r5 O d5;have bm:=r4.kt f5.kt;ext;intro p6 b0;have s6:=ae b0 (.tup [.str x,v4]);have h6:=Rp.new (K:=K) (xs:=[.s x,cu M]) b0 (.cons .s (.one bm));generalize upd H5 p6 (.tup [.str x,v4])=H6 at s6 h6|-;have N:=u.same s6;ext;intro p7 ac;have s7:=ae ac (.lst [.ref p6]);have h7:yD K (upd H6 p7 (.lst [.ref p6])) p7 [(x,M)]:=#[_,af,.one (h6.same s7)];generalize upd H6 p7 (.lst [.ref p6])=H7 at s7 h7|-;have w7:=N.same s7;have cb:=w7.rW ai;have ha:=cb.aa;ext
  .show ps.length+1<=900;omega
  intro p8 H8 s8 Y a8;have w8:=w7.same s8;have fz:=qm ps [(x,M)];have gz:=cb.near (H6:=H8) w7.sc (λq hq=>by rw[pD.mp hq];exact#[o4,by show M.dep<=60;omega,wx]) (by show ps.length+1<=60;omega) Y a8;have e7:=w8.rp rk;have ex:=w8.sc;have ee:(ql ps [(x,M)]).length+2*n<=S.pb:=by have:[(x,M)].length=1:=rfl;omega
  ext;intro v9 H9 er g9 f9 cj r9 cg d9;have w9:=w8.snoc f9 cj r9 cg d9;ext;intro ab m;have I:=ae m (.tup [.str "let",.str x,v5,v9]);exact W (.lt x) _ _ _ _ _ (w9.same I) #[rfl,wx] (by show 2<=9;decide) (Rp.new (K:=K) m (.cons .s (.cons .s w9.r)))
 refine c4 _ _ ?_;refine AE (fm=1\/fm=2/\kl.length=0) (λC hA hB=>?_) (λp1=>?_) (λp1=>?_)
 .clear c4 c5 c6 c7 c8;have b3:bu K H2 S.kd G\/bQ K H2 S.kd G:=.inr aj;ext;refine cM (λc1=>?_) (λc1=>?_)
  .exact hA (.inl (by injection(of_decide_eq_true c1)))
  .ext;refine cM (λc2=>?_) (λc2=>?_)
   .ext;have e2:fm=2:=by injection(of_decide_eq_true c2)
    generalize hb:decide (V.int (G.length:Int)=V.int 0)=b
    cases b with
    |true =>
     have e3:=of_decide_eq_true hb;injection e3 with e3;exact hA (.inr #[e2,()])
    |false =>
     refine hB λz=>?_;rcases z with z|z
     .rw[z]at e2;cases e2
     .exact absurd (by rw[br,z.2];rfl) (of_decide_eq_false hb)
   .refine hB λz=>?_;rcases z with z|z
    .exact c1 (decide_eq_true (by rw[z]))
    .exact c2 (decide_eq_true (by rw[z.1]))
 .clear c4 c5 c6 c7 c8;have rN:Rp K H2 (cu .num) (.str "num"):=.s;have oN:Kk.ok (kn kl) .num:=True.intro;have dN:Kk.dep .num+n<=S.kb:=by show 0+n<=S.kb;omega
  ext;intro v3 Z et g3 f3 ba r3 ci d3;have w3:=w2.snoc f3 ba r3 ci d3;have g0:=w3.rW ai;have fa:=w3.rp rk;ext;intro v4 H4 es g4 f4 R r4 ch d4;have B:=w3.snoc f4 R r4 ch d4;have ax:=B.rW ai;have av:=B.rp rk;ext;intro v5 H5 ag g5 f5 L r5 O d5;have u:=B.snoc f5 L r5 O d5;ext;intro ab m;have I:=ae m (.tup [.str "if",v3,v4,v5]);exact W .ife _ _ _ _ _ (u.same I) #[rfl,True.intro] (by show 3<=9;decide) (Rp.new (K:=K) m (.cons .s u.r))
 clear c4;ext;refine cM (λc=>?_) (λc=>?_)
 .have e2:fm=2:=by injection(of_decide_eq_true c)
  have fu:(0:Int)<(G.length:Int):=by
   have:kl.length≠0:=λz=>p1 (.inr #[e2,z]);omega
  have b3:bu K H2 S.kd G\/bQ K H2 S.kd G:=.inr aj;have ft:(G.length:Int)<1073741824:=()
  clear c5 c6 c7 c8;ext;intro r3 Z ct cs x3;have w3:=w2.ext x3;have ba:=w3.sc;have ea:=aj.kt (x3.kt b6);have(v3,de,_):=nq (xs:=G) ct cs
  have bv:G[r3.toNat]?=some v3:=by
   have:=bz (xs:=G) (j:=r3.toNat) (v:=G[r3.toNat]'()) (my ());rw[show((r3.toNat:Nat):Int)=r3 by omega,de]at this;rw[my ()];exact this.symm
  have(t3,bx,cn):=az.get' bv;rw[rj]at bx;have(q3,dg,rfl):=ur.mp bx;have(qa,q1,q2,rfl,fi,g1,g2):=(show Rp K Z (.t [.s q3.1,.t (q3.2.map qi)]) v3 from cn.kt (x3.kt b6)).t2;obtain rfl:=g1.bj;have hq:q3.1∈kn kl:=Ni (t9 dg);have f8:=ba.get (mw S);ext;intro p4 b1;have s4:=ae b1 (.tup [.str "kind",.str q3.1]);have r4:Rp K (upd Z p4 (.tup [.str "kind",.str q3.1])) (cu (.kd q3.1)) (.ref p4):=Rp.new (K:=K) b1 (.cons .s (.one .s));generalize upd Z p4 (.tup [.str "kind",.str q3.1])=H4 at s4 r4|-;have B:=w3.same s4;have R:=B.sc;have ax:=B.rW ai;have oK:Kk.ok (kn kl) (.kd q3.1):=hq;have dK:Kk.dep (.kd q3.1)+n<=S.kb:=by show 0+n<=S.kb;omega
  ext;intro v5 H5 ag g5 f5 L r5 O d5;have u:=B.snoc f5 L r5 O d5;have cc:=u.rW ai;have e9:=u.rp rk;have bm:=r4.kt f5.kt;have ef:ps.length+2*n+2<=S.pb:=()
  have e1:-1<=(p-1) / 4:=()
  have co:(p-1) / 4<=1000:=()
  ext;intro v6 H6 a1 au g6 f6 fQ r6 c0 fn cd bn dr;ext;intro p7 ac;have s7:=ae ac (.tup [.str "match",v5,v6]);refine k _ _ (.mk (.mat a1) (ag::au)) g6 ((u.fr.trans f6).same s7) (fQ.same s7) ?_ #[.mk ?_ (by show au.length+1<=9;omega) ?_ cd,?_] (Dp.mk () ?_ (by show au.length+1<=9;omega))
  .rw[cY];exact Rp.new (K:=K) ac (.cons .s (.cons (r5.kt f6.kt) (.one r6)))
  .show(au.length+1 == a1.length+1)=true;rw[c0];exact beq_self_eq_true _
  .intro t ht;rcases vy.mp ht with rfl|h
   .exact O.tk
   .exact(bn t h).1
  .have(fs,b5,_):=fQ.la;have:=(u.gg.trans u.sc (λ_ h=>u.new h) u.JT f6 dr).go (fQ.ow.same s7) ((s7 _ _ b5).trans b5.symm);rw[jR rfl]
   simpa using this
  .intro t ht;rcases vy.mp ht with rfl|h
   .exact d5
   .exact(bn t h).2
 ext;refine cM (λc=>?_) (λc=>?_)
 .clear c6 c7 c8;have el:=o.get (rT S);have bs:(kn kl).length<=100:=()
  ext;refine rX o λl3 Z s3 dj h3=>?_;have w3:=w2.same s3;have dm:=w3.sc.ff;ext;intro v4 H4 M x4 r4 o4 d4;have B:=w3.ext x4;have R:=B.sc;have ax:=B.rW ai;have f2:=R.get (rT S);have ei:=R.ln;have db:Kk.dep (.row M)+n<=S.kb:=by have:(0:Int).toNat=0:=rfl;show M.dep+1+n<=S.kb;omega
  have fl:Kk.ok (kn kl) (.row M):=o4;ext;intro p5 am;have s5:=ae am (.tup [.str "row",v4]);have r5:Rp K (upd H4 p5 (.tup [.str "row",v4])) (cu (.row M)) (.ref p5):=Rp.new (K:=K) am (.cons .s (.one r4));generalize upd H4 p5 (.tup [.str "row",v4])=H5 at s5 r5|-;have u:=B.same s5;have L:=u.sc;have cc:=u.rW ai;ext;intro v6 H6 bg g6 f6 fQ r6 a7 d6;have N:=u.snoc f6 fQ r6 a7 d6;have dx:=N.rW ai;have e8:=N.rp rk;ext;intro v7 H7 bf g7 f7 a9 r7 a6 d7;have w7:=N.snoc f7 a9 r7 a6 d7;have cr:=((r4.same s5).kt f6.kt).kt f7.kt;ext;intro p8 Y;have s8:=ae Y (.tup [.str x,v4]);have h8:=Rp.new (K:=K) (xs:=[.s x,cu M]) Y (.cons .s (.one cr));generalize upd H7 p8 (.tup [.str x,v4])=H8 at s8 h8|-;have w8:=w7.same s8;ext;intro p9 al;have s9:=ae al (.tup [.str y,vk]);have h9:=Rp.new (K:=K) (xs:=[.s y,cu U]) al (.cons .s (.one (w8.rp rk)));have b7:=h8.same s9;generalize upd H8 p9 (.tup [.str y,vk])=H9 at s9 h9 b7|-;have w9:=w8.same s9;ext;intro ab m;have I:=ae m (.lst [.ref p8,.ref p9]);have dp:yD K (upd H9 ab (.lst [.ref p8,.ref p9])) ab [(x,M),(y,U)]:=#[_,af,.cons (b7.same I) (.one (h9.same I))];generalize upd H9 ab (.lst [.ref p8,.ref p9])=H10 at I dp|-;have a5:=w9.same I;have a2:=a5.rW ai;have eo:=a2.aa;ext
  .show ps.length+2<=900;omega
  intro fk dz cl b2 dy;have a4:=a5.same cl
  have en:=a2.near (H6:=dz) a5.sc (λq hq=>by
   rcases vy.mp hq with rfl|hq
   .exact#[o4,by show M.dep<=60;have:(0:Int).toNat=0:=rfl;omega,wx]
   .rw[pD.mp hq];exact#[ok,by show U.dep<=60;omega,wy]) (by show ps.length+2<=60;omega) b2 dy
  have d8:=a4.rp rk;have d1:=a4.sc;have eh:=qm ps [(x,M),(y,U)];have dh:(ql ps [(x,M),(y,U)]).length+2*n<=S.pb:=by have:[(x,M),(y,U)].length=2:=rfl;omega
  ext;intro cf hd d0 gf ds bk cw bi dw;have be:=a4.snoc ds bk cw bi dw;ext;intro fj a0;have ck:=ae a0 (.tup [.str "fold",v6,.str x,.str y,v7,cf]);refine W (.fold x y) _ _ _ _ _ (be.same ck) #[rfl,wx,wy] (by show 3<=9;decide) ?_;have(_,_,ez,q1,q2):=bN.inv (K:=K) (x:=enc bg) be.r
  cases ez
  exact Rp.new (K:=K) a0 (.cons .s (.cons q1 (.cons .s (.cons .s q2))))
 have f1:=o.get (wF S);have(du,dn,b8):=o.ld;ext;have eb:(cu U).dep<=150:=FA (jy U) ();have fo:=b8.len;have gp:=o.dl.1;refine fS (K:=K) (xs:=du) (λi σ J Z=>(∃y,σ=[y,some vk])/\Z=H2/\J.length<=i/\∀v∈J,∃dd∈dl,B3 K H2 (S.nn fe) dd v) #[#[_,rfl],rfl,mu _,λv h=>nomatch h] ?_ (small ()) ?_ ?_ ?_
 .rintro i σ J Z hi ⟨_,_,h,_⟩;exact h
 .rintro i σ J Z hi ⟨_,rfl,_⟩;exact bu.of dn
 .rintro i v σ J Z hv ⟨⟨_,rfl⟩,rfl,hl,hu⟩;have(dd,ap,da):=b8.get hv;have dv:=da;have(a,l,g,X,rfl,b9,b4,bc,rg,bo):=da;have ge:(cu dd.2.2).dep<=150:=FA (jy _) (by have:=(o.dl.2 dd ap).2.2.2.1;omega);ext;refine cM (λc=>?_) (λc=>?_)
  .ext
   .rw[j3];show J.length+1<=i+1;omega
   .exact λv hv=>(MH.mp hv).elim (hu v) (λh=>by rw[pD.mp h];exact#[dd,ap,dv])
  .ext;exact hu
 rintro σ J Z ⟨_,rfl,hl,hu⟩ ls hls;have s4:=ae hls (.lst J);have h4:upd Z ls (.lst J) ls=some (.lst J):=af;generalize upd Z ls (.lst J)=H4 at s4 h4|-;have B:=w2.same s4;have n4:=o.no hls;have R:=B.sc;have ax:=B.rW ai;have av:=B.rp rk;have dk:=R.ff;clear c5 c6;refine c8 _ _ ?_;refine sW ?_;intro N9 hc c9 aw;clear c7 c8;refine AE (fm=4/\0<J.length) (λC hA hB=>?_) (λp1=>?_) (λp1=>?_)
 .clear c9 aw;ext;refine cM (λc1=>?_) (λc1=>?_)
  .ext;have e4:fm=4:=by injection(of_decide_eq_true c1)
   generalize hb:decide ((0:Int)<(J.length:Int))=b
   cases b with
   |true=>exact hA #[e4,by have:=of_decide_eq_true hb;omega]
   |false=>exact hB λz=>absurd (by have:=z.2;omega) (of_decide_eq_false hb)
  .exact hB λz=>c1 (decide_eq_true (by rw[z.1]))
 .clear c9 aw;have eq:(0:Int)<(J.length:Int):=by have:=p1.2;omega
  have ep:(J.length:Int)<1073741824:=()
  ext;intro r5 H5 cq cp x5;have u:=B.ext x5;have h5:=x5.1 _ _ n4.1 h4;have(v5,fx,di):=nq (xs:=J) cq cp;have(dd,ap,a,l,g,X,rfl,b9,b4,bc,rg,bo):=hu v5 di;have(n1,n2,_):=iq bo;have(gj,dt,_):=o.dl.2 dd ap;have bt:Kt Z H5:=(Kt.same s4).trans (x5.kt dk);have em:=b9.kt bt;have bl:=bc.kt bt;have cz:=bc.length;rw[bC]at cz;have an:=x5.1 _ _ n1 (s4 _ _ b4);have(fp,dc,_):=u.sc.la;have cy:l≠S.la:=cI an dc nofun
  have ed:=bu.of (K:=K) an;ext;refine fS (K:=K) (xs:=X) (λi σ D H6=>(∃y,σ=[y,some (.ref fe),some (.ref d),some (.ref ar),some (.int p),some (.int as),some (.ref l)])/\H6 l=some (.lst X)/\Kt H5 H6/\CI K fe d S xs kl dl H (n+3) i D H6) #[#[_,rfl],an,Kt.refl,#[[],gs,u,rfl]] ?_ (small ()) ?_ ?_ ?_
  .rintro i σ D H6 hi ⟨_,_,_,⟨ts,g6,N,e⟩⟩;rw[N.r.length,bC,e];exact mu _
  .rintro i σ D H6 hi ⟨_,h6,_⟩;exact bu.of h6
  .rintro i yv σ D H6 hyv ⟨⟨_,rfl⟩,h6,k6,⟨ts,g6,N,bp⟩⟩;have(t6,bw,cm):=bl.get' hyv;rw[rj]at bw;have(q6,df,rfl):=ur.mp bw;have(oq,dq):=dt q6 (t9 df);have fQ:=N.sc;have dx:=N.rW ai;have d2:=cm.kt k6;have gk:q6.dep+n<=S.kb:=()
   have b3:bu K H6 l X\/bQ K H6 l X:=.inl (bu.of h6);have ey:1<=(if(X.length:Int)>1 then(X.length:Int)else 1):=by split<;>omega
   have co:-1<=(p-1) / (if(X.length:Int)>1 then(X.length:Int)else 1):=by
    have:=TF (a:=p-1) (b:=if(X.length:Int)>1 then(X.length:Int)else 1) () ();omega
   have e0:(p-1) / (if(X.length:Int)>1 then(X.length:Int)else 1)<=1000:=by
    have:=Te (a:=p-1) (if(X.length:Int)>1 then(X.length:Int)else 1) ();omega
   ext;intro v7 H7 bf g7 f7 a9 r7 a6 d7;ext
   .exact f7.fq n2 cy n1 h6
   .exact#[k6.trans f7.kt,#[ts++[bf],g7,N.snoc f7 a9 r7 a6 d7,by rw[j3,bp];rfl]]
  .rintro σ D H6 ⟨_,_,_,⟨ts,g6,N,bp⟩⟩ p7 ac;have s7:=ae ac (.lst D);have h7:upd H6 p7 (.lst D) p7=some (.lst D):=af;have r7:=N.r.same s7;have w7:=N.same s7;generalize upd H6 p7 (.lst D)=H7 at s7 h7 r7 w7|-;ext;refine .inl #[bu.of h7,λp8 Y=>?_];have s8:=ae Y (.tup D);have r8:=Rp.new (K:=K) Y r7;have w8:=w7.same s8;generalize upd H7 p8 (.tup D)=H8 at s8 r8 w8|-;ext;intro p9 al;have s9:=ae al (.tup [.str "call",.str dd.1,.ref p8]);exact W (.call dd.1) _ _ _ _ _ (w8.same s9) #[rfl,(o.dl.2 dd ap).2.2.2.2] () (Rp.new (K:=K) al (.cons .s (.cons .s (.one r8))))
 refine c9 _ _ ?_;clear c9;have rN:Rp K H4 (T.s "num") (.str "num"):=.s;refine AE (pR U) (λC hA hB=>?_) (λ_=>?_) (λ_=>?_)
 .clear aw;ext;refine cM (λc1=>?_) (λc1=>?_)
  .cases U with
   |num=>exact absurd c1 (by decide)
   |op n=>exact absurd ok id
   |kd x1 =>
    have(va,v1,v2,rfl,ce,g1,g2):=(show Rp K H4 (.t [.s "kind",.s x1]) vk from av).t2;obtain rfl:=g1.bj;ext;exact hB id
   |row k2 =>
    have(va,v1,v2,rfl,ce,g1,g2):=(show Rp K H4 (.t [.s "row",cu k2]) vk from av).t2;obtain rfl:=g1.bj;have gq:(cu k2).dep<=150:=FA (jy _) (by have:Kk.dep (.row k2)=k2.dep+1:=rfl;omega);ext;generalize hb:decide (cu k2=T.s "num")=b
    cases b with
    |true=>exact hB λz=>z (of_decide_eq_true hb)
    |false=>exact hA (of_decide_eq_false hb)
  .refine hB λz=>?_
   cases U with
   |row k2=>exact c1 (by rw[show decide (cu (.row k2)=T.s "num")=false from decide_eq_false nofun];rfl)
   |num=>exact z
   |kd _=>exact z
   |op _=>exact z
 .clear aw;have fw:U.dep<=60:=()
  ext;intro v5 H5 ag g5 f5 L r5 O d5;exact k v5 H5 ag g5 (B.fr.trans f5) L r5 (B.Iq f5 O) (d5.mono ())
 .ext;intro p5 am;have s5:=ae am (.tup [.str "row",vk]);have r5:Rp K (upd H4 p5 (.tup [.str "row",vk])) (cu (.row U)) (.ref p5):=Rp.new (K:=K) am (.cons .s (.one av));generalize upd H4 p5 (.tup [.str "row",vk])=H5 at s5 r5|-;have u:=B.same s5;have L:=u.sc;have cc:=u.rW ai;have oR:Kk.ok (kn kl) (.row U):=ok;have dR:Kk.dep (.row U)+n<=S.kb:=by show U.dep+1+n<=S.kb;omega
  ext;intro v6 H6 bg g6 f6 fQ r6 a7 d6;have N:=u.snoc f6 fQ r6 a7 d6;ext;intro ab m;have I:=ae m (.tup [.str "first",v6]);exact W .first _ _ _ _ _ (N.same I) #[rfl,True.intro] (by show 1<=9;decide) (Rp.new (K:=K) m (.cons .s N.r))
end G34
namespace L2
open PySem PySem.Spec PyProof.Rows
end L2
namespace L2
open PySem PySem.Spec PyProof.Rows PySem.W PySem.Calls
noncomputable def tW(d:List P0):Bool:=d.all λe=>match e.key with|.str _ _=>true|_=>false
theorem GJ {K:Frag}(X:K.In h)(e:K.lookup N=some #[c,dd,.dict d n,g])(hs:tW d.toList=true):
  h.Ns N (Vn d):=by
 refine#[_,d,n,X _ _ e,rfl,λa j=>?_,λ_=>rfl];have z:=Oz.mp hs a (Ub.mpr j)
 split at z
 .rename_i y t q;exact#[y,t,q]
 .cases z
end L2
namespace L2
open PySem PySem.W
noncomputable def Gg(K:Frag)(C:Addr):Bool:=(Rc K (.ref C) "__getattribute__" == some (some (.builtin "BaseException.__getattribute__")))&&(Rc K (.ref C) "__getattr__" == some none)&&(mroIn K C (.type "BaseException") == some true)
theorem Ek (h:Gg K C=true):zP K C:=by
 unfold Gg at h;simp only[Nr,beq_iff_eq]at h;exact#[h.1.1,h.1.2,h.2]
noncomputable def Gh(K:Frag)(C b:Addr):Bool :=
 Gg K C&&U9 K C&&(Rc K (.ref C) "__class__" == some (some (.builtin "object.__class__"))) &&
 (specialIn K (.builtin "object.__class__") "__get__" == some (some (.builtin "getset_descriptor.__get__")))&&(takesIn K (.builtin "object.__class__") == some true)&&(mroIn K C (.type "object") == some true) &&
 (Sk K (.ref C) (.ref b) == some true)&&(Sk K (.ref C) (.type "ValueError") == some true)&&NF K (.ref C)
noncomputable def wU(K:Frag)(C:Addr)(n:Str):Bool :=
 rR K C&&(Rc K (.ref C) "__setattr__" == some (some (.builtin "object.__setattr__")))&&(takerIn K C n == some none) &&
 Gg K C&&U9 K C&&(Rc K (.ref C) n).any (noGet K)
theorem qv (h:wU K C n=true):zO K C n/\Ig K C n:=by
 unfold wU at h;simp only[Nr,beq_iff_eq]at h;have(((((o,m),l),j),g),d):=h;refine#[#[o,m,l],#[Ek j,g,?_]]
 cases e:Rc K (.ref C) n with
 |none=>rw[e]at d;cases d
 |some a=>rw[e]at d;exact#[a,rfl,d]
theorem El (h:Gh K C b=true):DI K C/\Sk K (.ref C) (.ref b)=some true/\Sk K (.ref C) (.type "ValueError")=some true/\NF K (.ref C)=true:=by
 unfold Gh at h;simp only[Nr,beq_iff_eq]at h;have((((((((q,p),o),m),l),j),g),e),d):=h;exact#[#[Ek q,p,o,m,l,j],g,e,d]
structure ClsAt(K:Frag) (C b:Addr) (i:Option cB):Prop where
 ex:∃nm q N bs hdct sn sub ab col dd k0 k1 k2 k3 k5,K.lookup C=some (Qe nm q C N bs (.ref b::iG) hdct sn sub ab col dd k0 k1 k2 k3 k5 "ValueError.__new__") /\
  ∃c d es n sl,K.lookup N=some #[c,d,.dict es n,sl]/\tW es.toList=true/\Vn es "__init__"=i
structure nS(K:Frag) (b:Addr):Prop where
 ex:∃nm q N bs hdct sn sub ab col dd k0 k1 k2 k3 k5,K.lookup b=some (Qe nm q b N bs iG hdct sn sub ab col dd k0 k1 k2 k3 k5 "ValueError.__new__") /\
  ∃c d es n sl,K.lookup N=some #[c,d,.dict es n,sl]/\tW es.toList=true/\Vn es "__init__"=none
theorem nS.tail (B:nS K b)(X:K.In h):OwnTail h iG (.ref b::iG):=by
 have(r,q,N,bs,d,p,sub,E,o,A,y,w,v,u,t,e,D,C,z,n,g,m,j,l):=B.ex;exact .own (X _ _ e) (GJ X m j) l .base
theorem Em :iG.contains (.type "BaseException")=true:=by decide
theorem nS.c (B:nS K b):zQ K b:=by
 refine⟨λh X=>?_⟩;have(l,q,N,bs,d,j,sub,v,g,u,t,r,p,o,m,e,_):=B.ex;exact#[l,q,N,bs,_,d,j,sub,v,g,u,t,r,p,o,m,_,X _ _ e,Em]
theorem ClsAt.c (Z:ClsAt K C b i):zQ K C:=by
 refine⟨λh X=>?_⟩;have(l,q,N,bs,d,j,sub,v,g,u,t,r,p,o,m,e,_):=Z.ex;exact#[l,q,N,bs,_,d,j,sub,v,g,u,t,r,p,o,m,_,X _ _ e,by rw[OY,Em,RU]]
theorem ClsAt.sub (Z:ClsAt K C b i)(B:nS K b):wC K C b:=by
 refine#[λh X=>?_,B.c];have(l,q,N,bs,d,j,sub,v,g,u,t,r,p,o,m,e,_):=Z.ex;exact#[l,q,N,bs,_,d,j,sub,v,g,u,t,r,p,o,m,_,X _ _ e,by rw[OY,OY,beq_self_eq_true (Value.ref b),UM,RU]]
theorem ClsAt.k (Z:ClsAt K C b (some (.ref f)))(B:nS K b){x q:Str}{st:Stmt}(F:∃od g,K.lookup f=some #[.type "function",od,.func z,g])(kp:NF K (.ref C)=true):Fz K C f:=by
 refine#[λh X=>?_,kp];have(o,q,N,bs,j,m,sub,G,l,E,v,u,t,r,p,e,c,d,I,n,H,D,w,y):=Z.ex;have(od,g,A):=F;exact#[o,q,N,bs,_,j,m,sub,G,l,E,v,u,t,r,p,_,_,X _ _ e,GJ X D w,y,B.tail X,X _ _ A,rfl]
end L2
namespace G34
open PySem L2 PySem.W
theorem IG {d:Type}{P:List d->Prop}(h:∀a,P [a]):∀us:List d,us.length=1->P us
 | [a],_=>h a
theorem Cm {d:Type}{P:List d->Prop}(h:∀a b,P [a,b]):∀us:List d,us.length=2->P us
 | [a,b],_=>h a b
theorem II {d:Type}{P:List d->Prop}(h:∀a b c,P [a,b,c]):∀us:List d,us.length=3->P us
 | [a,b,c],_=>h a b c
theorem IJ {e:Type}{P:List e->Prop}(h:∀a b c d,P [a,b,c,d]):∀us:List e,us.length=4->P us
 | [a,b,c,d],_=>h a b c d
theorem IK {g:Type}{P:List g->Prop}(h:∀a b c d e,P [a,b,c,d,e]):∀us:List g,us.length=5->P us
 | [a,b,c,d,e],_=>h a b c d e
theorem IL {g:Type}{P:List g->Prop}(h:∀a b c d e f,P [a,b,c,d,e,f]):∀us:List g,us.length=6->P us
 | [a,b,c,d,e,f],_=>h a b c d e f
theorem IP {j:Type}{P:List j->Prop}(h:∀a b c d e f g,P [a,b,c,d,e,f,g]):∀us:List j,us.length=7->P us
 | [a,b,c,d,e,f,g],_=>h a b c d e f g
theorem Gi (F:ic K "_law_any_kind" "_law_any_kind" fW gA afd)(e:mg "_law_any_kind"=some (.ref gA))(l:Binds K afd VF [])(m:dH P w K mg base "_law_take" 1 Vy eK gT tfd)(z_len:mg "len"=none):∀n,bH P w K mg base eZ (n+1) gA afd VF (ik K n):=by
 intro n
 induction n with
 |zero =>
  refine rO λo H Q E h=>?_;have(_,_,d,_,_,_,_,_,p,g,_):=h;have:d<0:=g;omega
 |succ n ih =>
  exact yu (j:=n+1) () F m #[ih,e,F.kp,l] z_len
theorem Ad (F:ic K "_law_nought" "_law_nought" gQ gA afd)(e:mg "_law_nought"=some (.ref gA))(g:Binds K afd VO [])(l:dH P w K mg base "_law_number" 2 WO qk gN nfd)(TG:dH P w K mg base "_law_tags_of" 1 VT (lI K) gT tfd)(d:mg "tuple"=none):∀n,bH P w K mg base eZ (n+2) gA afd VO (nN K n):=by
 intro n
 induction n with
 |zero =>
  refine rO λm H Q E h=>?_;have(_,_,_,_,_,_,_,_,_,_,_,_,_,_,_,h,_):=h;omega
 |succ n ih =>
  exact B5 (j:=n+2) () F l TG #[ih,e,F.kp,g] d
theorem En (q:ic K "_law_term" "_law_term" iF gA afd)(y:ic K "_law_generic" "_law_generic" dB gB bfd)(z:ic K "_law_arms" "_law_arms" jO gC cfd)(r:mg "_law_term"=some (.ref gA))(t:Binds K afd Vt [])(D:mg "_law_generic"=some (.ref gB))(J:Binds K bfd Vt [])(C:mg "_law_arms"=some (.ref gC))(I:Binds K cfd VI [])(u:dH P w K mg base "_law_take" 1 Vy eK gT tfd)(B:dH P w K mg base "_law_any_kind" 4 VF (ik K 3) gK kfd)(TG:dH P w K mg base "_law_tags_of" 1 VT (lI K) gS sfd)(A:dH P w K mg base "_law_bound" 1 Ws (rV K) gN nfd)(v:dH P w K mg base "_law_leaf" 7 VU (wK K) gL lfd)(z_len:mg "len"=none)(m:mg "list"=none)(e:mg "tuple"=none)(o:mg "zip"=none)(z_range:mg "range"=none)(l:mg "max"=none)(g:mg "reversed"=none)(p:mg "int"=none):∀n,n<=10->bH P w K mg base eZ (3*n+8) gA afd Vt (pA K n):=by
 intro n
 induction n with
 |zero =>
  intro _;refine rO λN H Q E h=>?_;have(_,_,_,_,_,d,_,_,_,_,_,_,_,_,_,_,_,_,_,R,G,_):=h;have:d<0:=G;omega
 |succ n ih =>
  intro O;have TE:=ih ();have M:=F0 (j:=3*n+8) (n:=n) () z u TG A #[TE,r,q.kp,t] z_len m e o z_range g;have L:=Ac (j:=3*n+9) (ja:=3*n+9) (jl:=7) (jk:=4) (je:=3*n+8) (n:=n) () () () () () () y u B A #[TE,r,q.kp,t] #[M,C,z.kp,I] v z_len e l;exact FQ (j:=3*n+10) (n:=n) (jg:=3*n+10) (jl:=7) (jk:=4) (je:=3*n+8) () () () () () () q u B TG #[TE,r,q.kp,t] #[L,D,y.kp,J] v z_len e l z_range p
theorem Ae (F:ic K "_law_opens" "_law_opens" kY gA afd)(e:mg "_law_opens"=some (.ref gA))(g:Binds K afd WE [])(d:mg "int"=none):∀n,n<=101->bH P w K mg base eZ (n+4) gA afd WE (qp K n):=by
 intro n
 induction n with
 |zero =>
  intro _;refine rO λl H Q E h=>?_;have(_,_,_,_,h,_):=h;omega
 |succ n ih =>
  intro m;exact Cc (j:=n+4) () () F #[ih (),e,F.kp,g] d
noncomputable def LN(s:Stmt)(i:Nat):Stmt:=match s with
 |.ClassDef _ _ _ b _ _ _ _ _ _ _=>b.getD i (.Pass #[0,0,0,0])
 |_=>.Pass #[0,0,0,0]
noncomputable abbrev rZ:Stmt:=LN EZ 0
theorem Eo :aK WW WW (ak rZ):=#[rfl,rfl,rfl,by decide,rfl,by decide,by decide]
theorem Ep (F:ic K "__init__" "NoGap.__init__" rZ f g)(r:zO K C "number"):bH P w K mg d eZ 1 f g WW (AW C "number"):=by
 refine F.ok Eo (λj H Q E h=>?_) (λq A e s H j Q E hr h=>?_)
 .have(x,y,rfl,_):=h;rfl
 have(x,y,rfl,l,go):=h;exact#[_,bW (DG (pv 0) (pv 1)),_,rfl,_,rfl,x,C,rfl,l,r,λp o m=>go p o m]
noncomputable abbrev se:Stmt:=LN EY 0
theorem Er :aK ["self","name"] ["self","name"] (ak se):=#[rfl,rfl,rfl,by decide,rfl,by decide,by decide]
theorem Es (F:ic K "__init__" "Twice.__init__" se f g)(r:zO K C "name"):bH P w K mg d eZ 1 f g ["self","name"] (AW C "name"):=by
 refine F.ok Er (λj H Q E h=>?_) (λq A e s H j Q E hr h=>?_)
 .have(x,y,rfl,_):=h;rfl
 have(x,y,rfl,l,go):=h;exact#[_,bW (DG (pv 0) (pv 1)),_,rfl,_,rfl,x,C,rfl,l,r,λp o m=>go p o m]
noncomputable def twoB(K:bA)(e d:Addr)(g:List Addr)(b:Addr):Bool:=Gh K e b&&Gh K d b&&(Sk K (.ref e) (.ref e) == some true)&&(Sk K (.ref e) (.ref d) == some false)&&(Sk K (.ref d) (.ref e) == some false)&&(Sk K (.ref d) (.ref d) == some true)&&(kitAny K (.ref e) (g.map Value.ref) == some false)&&(kitAny K (.ref d) (g.map Value.ref) == some false)&&wU K e "number"&&wU K d "name"
theorem IQ (B:nS K b)(q1:ClsAt K l b (some (.ref E)))(r:ClsAt K j b (some (.ref D)))(h:twoB K l j m b=true):LK K l j b m/\(zO K l "number"/\zO K j "name")/\(NF K (.ref l)=true/\NF K (.ref j)=true):=by
 unfold twoB at h;simp only[Nr]at h;have(((((((((C,A),z),y),w),v),u),t),o),g):=h;have q:=El C;have p:=El A;refine#[#[λe=>?_,λe=>?_,λe d=>?_,λe=>?_,λe=>?_],#[(qv o).1,(qv g).1],q.2.2.2,p.2.2.2]
 .cases e
  .exact r.sub B
  .exact q1.sub B
 .cases e
  .exact p.1
  .exact q.1
 .cases e
  .cases d
   .exact Oa v
   .exact Oa w
  .cases d
   .exact Oa y
   .exact Oa z
 .cases e
  .exact Oa t
  .exact Oa u
 .cases e
  .exact(qv g).2
  .exact(qv o).2
structure FnAt(K:Frag) (x qual:Str) (st:Stmt) (f:Addr) (fd:rE):Prop where
 ex:∃(od:Option Addr) (kV doc pm:cB) (an:Option Addr) (cdv ct:cB) (osl:Array (Option cB)),
  fd=fnOf x qual (fj st) (bM st) (ak st) .none kV doc pm an cdv ct/\K.lookup f=some #[.type "function",od,.func fd,osl]/\Qq K cdv qual=true
 kp:NF K (.ref f)=true
theorem FnAt.f {f:Addr}(F:FnAt K x d st f o):ic K x d st f o:=by
 have(q,kV,j,p,t,m,r,g,e,l,c):=F.ex;exact#[#[_,q,kV,j,p,t,m,r,g,e,l,c],F.kp]
theorem aQ {kV:cB}(l:K.lookup f=some #[.type "function",od,.func (fnOf x d (fj st) (bM st) (ak st) .none kV g m o e ct),j])(c:Qq K e d=true)(k:NF K (.ref f)=true):FnAt K x d st f (fnOf x d (fj st) (bM st) (ak st) .none kV g m o e ct):=#[#[od,kV,g,m,o,e,ct,j,rfl,l,c],k]
theorem FnAt.l {f:Addr}(F:FnAt K x g st f j):∃od d,K.lookup f=some #[.type "function",od,.func j,d]:=by
 have(od,kV,m,p,r,o,q,d,e,l,c):=F.ex;exact#[od,d,l]
noncomputable def tX(K:Frag)(a:Addr)(ns:List Nat):Bool:=match K.lookup a with
 |some ⟨.type "tuple",none,.seq its _,_⟩=>its.toList.length == ns.length&&(its.toList.zip ns).all (λp=>match p.1 with|.int i _=>i == (p.2:Int)|_=>false)
 |_=>false
theorem mG (h:tX K a ns=true)(hn:ns.length<=10):∀H,bQ K H a (ns.map λ(j:Nat)=>V.int (j:Int)):=by
 intro H;unfold tX at h
 split at h
 .rename_i d n A e
  rw[Nr]at h;have(g,p):=h
  replace g:=Oa g
  have u:d.size<=mC:=by
   have z:d.toList.length=d.size:=by simp
   exact small ()
  refine .inr #[_,d,n,e,rfl,rfl,u,?_,rfl];clear u e;generalize d.toList=l at g p;clear hn
  induction l generalizing ns with
  |nil=>cases ns with
   |nil=>exact .nil
   |cons _ _=>simp at g
  |cons v r ih =>
   cases ns with
   |nil=>simp at g
   |cons m q =>
    rw[QE,Rg,Nr]at p;have(o,w):=p;refine .cons ?_ (ih (by simpa using g) w)
    split at o
    .rename_i i t y
     have:i=(m:Int):=Oa o;subst this;exact#[t,y]
    .cases o
 .cases h
structure jo(K:Frag) (x:Str) (st:Stmt) (f:Addr) (fd:rE):Prop where
 a:nsIn K ML x=some (some (.ref f))
 F:FnAt K x x st f fd
structure RG(P:sC) (w:FT) (K:Frag) (mg:Str->Option cB) (base h:Heap):Prop where
 X:K.In h
 G:h.Ns ML mg
abbrev Lw(x:Str)(st:Stmt)(ps:List Str):Prop:=∀(kV e j:cB) (m:Option Addr) (g l:cB) (d:List cB),d.length=ps.length->bindArgs (fnOf x x (fj st) (bM st) (ak st) .none kV e j m g l) #[d,[]]=pure (ps.zip d)
theorem jo.f (F:jo K x st g fd):ic K x x st g fd:=F.F.f
theorem jo.b (F:jo K x st g fd)(h:Lw x st ps:=by intro _ _ _ _ _ _;first|exact IG λ_=>rfl|exact Cm λ_ _=>rfl|exact II λ_ _ _=>rfl|exact IJ λ_ _ _ _=>rfl|exact IK λ_ _ _ _ _=>rfl|exact IL λ_ _ _ _ _ _=>rfl|exact IP λ_ _ _ _ _ _ _=>rfl):Binds K fd ps []:=F.F.f.binds h
theorem jo.has (F:jo K x st g fd)(R:RG P w K mg d h)(k:Nat)(o:bH P w K mg d eZ k g fd ps sp)(b:Lw x st ps:=by intro _ _ _ _ _ _;first|exact IG λ_=>rfl|exact Cm λ_ _=>rfl|exact II λ_ _ _=>rfl|exact IJ λ_ _ _ _=>rfl|exact IK λ_ _ _ _ _=>rfl|exact IL λ_ _ _ _ _ _=>rfl|exact IP λ_ _ _ _ _ _ _=>rfl):dH P w K mg d x k ps sp g fd:=#[o,Po R.X R.G F.a,F.F.kp,F.b b]
theorem jo.IS (F:jo K x st g fd)(R:RG P w K mg d h)(k:Nat)(o:bH P w K mg d (Eu P w) k g fd ps sp)(b:Lw x st ps:=by intro _ _ _ _ _ _;first|exact IG λ_=>rfl|exact Cm λ_ _=>rfl|exact II λ_ _ _=>rfl|exact IJ λ_ _ _ _=>rfl|exact IK λ_ _ _ _ _=>rfl|exact IL λ_ _ _ _ _ _=>rfl|exact IP λ_ _ _ _ _ _ _=>rfl):FH P w K mg d x k ps sp g fd:=#[o,Po R.X R.G F.a,F.F.kp,F.b b]
theorem all_mk {l:RJ}{br bh bg bf az av au:Addr}{cg cf b9 bz bx bw:rE}(X:K.In h)(G:h.Ns ML mg)(ap:mg "law"=some (.ref fa))(F1:jo K "from_below" fU g1 e1)(F2:jo K "kind_deep" iX g2 e2)(F3:jo K "innermost" iY g3 e3)(F4:jo K "in_rows" kR g4 e4)(F5:jo K "right_in" iN g5 e5)(F6:jo K "inner_terms" iU g6 e6)(F7:jo K "with_inner" fV g7 e7)(F8:jo K "parts" vR g8 e8)(F9:jo K "gaps_in" nU g9 e9)(a10:nsIn K ML "with_gaps_put"=some (some (.ref U)))(F10:zL K "with_gaps_put" "with_gaps_put" bU U Z cd)(F11:jo K "gaps" oV br cx)(F12:jo K "opens_in" jL bq cw)(F13:jo K "look_fillings" dm bp cv)(F14:jo K "kind_put" jM bo cs)(F15:jo K "filled" kU bn cr)(F16:jo K "_law_feed" sS bm cq)(F17:jo K "_law_take" sU bl cp)(F18:jo K "_law_names" cU bk co)(F19:jo K "_law_number" jN bj cn)(F20:jo K "_law_any_kind" fW bi cm)(F21:jo K "_law_kinds" jG bh cl)(F22:jo K "_law_tags_of" iZ bg ck)(F23:jo K "_law_nought" gQ bf cj)(F24:jo K "_law_leaf" kW be ci)(F25:jo K "_law_bound" iO bc ch)(F26:jo K "_law_arms" jO bb cg)(F27:jo K "_law_generic" dB ba cf)(F28:jo K "_law_term" iF a9 ce)(F29:jo K "_law_scene" kX a8 cb)(F30:jo K "_law_held" nt a7 ca)(F31:jo K "_law_hidden" lX a6 b9)(F32:jo K "_law_program_of" cN a5 b8)(F33:jo K "_law_filling" i8 a4 b7)(F34:jo K "_law_gaps" nu a3 b6)(F35:jo K "_law_opens" kY a2 b5)(F36:jo K "_law_there" kZ a1 b4)(F37:jo K "_law_open_filling" eB a0 b3)(F38:jo K "_law_drawn" k7 az b2)(F39:jo K "_law_fillings" fX ax b1)(F40:jo K "_law_amiss" ig aw b0)(F41:jo K "_law_due" pX av bz)(F42:jo K "_law_told" nv au bx)(F43:jo K "_law_spoilt" jP as bw)(F44:jo K "law" pY ar bv)(ab:nsIn K ML "GapError"=some (some (.ref b)))(ac1:nsIn K ML "NoGap"=some (some (.ref c1)))(ac2:nsIn K ML "Twice"=some (some (.ref c2)))(ao0:nsIn K ML "BadText"=some (some (.ref o0)))(ao1:nsIn K ML "Clash"=some (some (.ref o1)))(ao2:nsIn K ML "NoName"=some (some (.ref o2)))(ao3:nsIn K ML "NoRow"=some (some (.ref o3)))(ao4:nsIn K ML "TooLong"=some (some (.ref o4)))(ao5:nsIn K ML "TooMany"=some (some (.ref o5)))(ao6:nsIn K ML "WrongCount"=some (some (.ref o6)))(j1:Rc K (.ref c1) "__init__"=some (some (.ref f1)))(j2:Rc K (.ref c2) "__init__"=some (some (.ref f2)))(B:nS K b)(y1:ClsAt K c1 b (some (.ref f1)))(y2:ClsAt K c2 b (some (.ref f2)))(I1:FnAt K "__init__" "NoGap.__init__" rZ f1 d1)(I2:FnAt K "__init__" "Twice.__init__" se f2 d2)(tB:twoB K c1 c2 [o0,o1,o2,o3,o4,o5,o6] b=true)(pP:nsIn K ML "PLACES"=some (some (.ref dP)))(lP:K.lookup dP=some {cls:=.type "dict",dict:=none,data:=.dict W nP,slots:=#[]})(kP:Gr w W.toList [("num",V.ref t0),("name",V.ref t1),("gap",V.ref t2),("op",V.ref t3),("more",V.ref t4),("first",V.ref t5),("others",V.ref t6),("long",V.ref t7),("if",V.ref t8)])(sP:(dP == Og)=false)(pM:nsIn K ML "PLACE_OF_MANY"=some (some (.ref dM)))(lM:K.lookup dM=some {cls:=.type "dict",dict:=none,data:=.dict Y nM,slots:=#[]})(kM:Gr w Y.toList qF)(sM:(dM == Og)=false)(q0:tX K t0 []=true)(q1:tX K t1 []=true)(q2:tX K t2 []=true)(q3:tX K t3 [2,3]=true)(q4:tX K t4 [1,2]=true)(q5:tX K t5 [1]=true)(q6:tX K t6 [1]=true)(q7:tX K t7 [1]=true)(q8:tX K t8 [1,2,3]=true)(z0:nsIn K ML "len"=some none)(z1:nsIn K ML "range"=some none)(z2:nsIn K ML "int"=some none)(z3:nsIn K ML "tuple"=some none)(z4:nsIn K ML "list"=some none)(z5:nsIn K ML "zip"=some none)(z6:nsIn K ML "dict"=some none)(z7:nsIn K ML "max"=some none)(z8:nsIn K ML "min"=some none)(z9:nsIn K ML "isinstance"=some none)(z10:nsIn K ML "reversed"=some none)(z11:nsIn K ML "enumerate"=some none):
  ∃fd:rE,(∀(s:eT) (v:cB),UH s fd #[[v],[]] [("_law_script",v)])/\∀p:Heap,K.In p->p.Ns ML mg->CodeHd p cd Pt->uq p mg->bH l.prog w K mg p eZ 108 fa fd ["_law_script"] (Ba Pt K):=by
 have e:=ap.symm.trans (Po X G F44.a)
 cases e
 have D1:=I1.f.binds (ps:=WW) λ_ _ _ _ _ _=>Cm λ_ _=>rfl;have D2:=I2.f.binds (ps:=["self","name"]) λ_ _ _ _ _ _=>Cm λ_ _=>rfl;have BW:=F10.f.binds (ps:=["term","puts"]) λ_ _ _ _ _ _=>Cm λ_ _=>rfl;have z_len:=OZ X G z0;have z_range:=OZ X G z1;have u:=OZ X G z2;have g:=OZ X G z3;have A:=OZ X G z4;have I:=OZ X G z5;have O:=OZ X G z6;have T:=OZ X G z7;have S:=OZ X G z8;have z:=OZ X G z9;have C:=OZ X G z10;have t:=OZ X G z11
 have TB:HK K w mg dP dM [("num",V.ref t0),("name",V.ref t1),("gap",V.ref t2),("op",V.ref t3),("more",V.ref t4),("first",V.ref t5),("others",V.ref t6),("long",V.ref t7),("if",V.ref t8)]:={
  mP:=Po X G pP,mM:=Po X G pM,kP:=#[W,nP,lP,kP,(show(["num","name","gap","op","more","first","others","long","if"]:List Str).Nodup by decide),sP],kM:=#[Y,nM,lM,kM,by decide,sM],
  at_:=λf ps hm=>by
   unfold placesOf at hm;simp only[vy,MK,or_false,Prod.mk.injEq]at hm;rcases hm with⟨rfl,rfl⟩|⟨rfl,rfl⟩|⟨rfl,rfl⟩|⟨rfl,rfl⟩|⟨rfl,rfl⟩|⟨rfl,rfl⟩|⟨rfl,rfl⟩|⟨rfl,rfl⟩|⟨rfl,rfl⟩
   .exact#[t0,rfl,mG q0 (by decide)]
   .exact#[t1,rfl,mG q1 (by decide)]
   .exact#[t2,rfl,mG q2 (by decide)]
   .exact#[t3,rfl,mG q3 (by decide)]
   .exact#[t4,rfl,mG q4 (by decide)]
   .exact#[t5,rfl,mG q5 (by decide)]
   .exact#[t6,rfl,mG q6 (by decide)]
   .exact#[t7,rfl,mG q7 (by decide)]
   .exact#[t8,rfl,mG q8 (by decide)]}
 have(C2,(bt,bs),am,al):=IQ B y1 y2 tB;have(od,kV,aa,pm,an,ac,ct,aj,rfl,lk,cc):=F44.F.ex;refine#[fnOf "law" "law" (fj pY) (bM pY) (ak pY) .none kV aa pm an ac ct,λs v=>.of_eq rfl,λp _ _ hC hB=>?_];have RA:∀m,RG l.prog w K mg m h:=λ_=>#[X,G];have R:=RA p;have N:Kq l.prog w K mg p "NoGap" "number" c1 f1 d1:=#[y1.k (x:="") (q:="") (st:=rZ) B I1.l am,Ep I1.f bt,Po X G ac1,D1,y1.c];have J:Kq l.prog w K mg p "Twice" "name" c2 f2 d2:=#[y2.k (x:="") (q:="") (st:=se) B I2.l al,Es I2.f bs,Po X G ac2,D2,y2.c];have IM:=F3.has R 1 (wd F3.f);have c5:=λm=>F5.has (RA m) 1 (ye F5.f TB);have ah:=λm=>F6.has (RA m) 2 (C0 F6.f (c5 m));have L:=F8.has R 3 (C1 F8.f (ah p));have ai:=F9.has R 4 (zD F9.f L);have GS:=F11.has R 5 (Fb F11.f IM ai);have dd:=F2.has R 1 (Dh F2.f);have IR:=F4.has R 1 (Fd F4.f z_range);have c6:=F12.has R 2 (Di F12.f IM);have dc:=F14.has R 2 (Fe F14.f IM dd IR);have cy:=λm=>F7.has (RA m) 1 (Fi F7.f TB I g A);have cz:dH l.prog w K mg p "with_gaps_put" 6 _ _ U Z:=#[Ft F10 hC hB (Po X G F1.a) F1.F.kp F1.b (Po X G F6.a) cy (λm fM c di qq d pf M=>Dz F1.f (ah m) M z_len),Po X G a10,F10.kp,BW];have da:=F13.IS R 5 (yL (gf:=tS) (okA:=GD) (tr:=cu) F13.f (c6.ok.mono (by decide)) F12.F.kp F12.b (λv y H Q r _ k=>#[v,y,rfl,r,k]) N J t);have c9:=F13.IS R 5 (yL (gf:=lK) (okA:=Gz) (tr:=enc) F13.f ai.ok F9.F.kp F9.b (λv y H Q r o k=>#[v,y,rfl,r,o.1,o.2,k]) N J t);have de:=F15.IS R 7 (Ci F15.f GS (Po X G F9.a) (Po X G F12.a) da c9 dc cz g O);have FD:=F16.has R 1 (E2 F16.f z_len);have D:=F17.has R 1 (E1 F17.f);have NM:=F18.has R 2 (DY F18.f D z_range z_len u);have NU:=F19.has R 2 (B4 F19.f D);have AK:=F20.has R 4 (Gi F20.f (Po X G F20.a) F20.b D z_len 3);have KI:=F21.has R 5 (DQ (j:=4) (by decide) F21.f D AK z_range g);have TG:=F22.has R 1 (zS F22.f);have NO:=F23.has R 6 (Ad F23.f (Po X G F23.a) F23.b NU TG g 4);have LF:=F24.has R 7 (FP (j:=6) F24.f (by decide) D NO z_len A);have BD:=F25.has R 1 (DT F25.f);have ad:=λn hn=>En F28.f F27.f F26.f (Po X G F28.a) F28.b (Po X G F27.a) F27.b (Po X G F26.a) F26.b D AK TG BD LF z_len A g I z_range T C u n hn;have TE:=F28.has R 26 (ad 6 (by decide));have c3:=F28.has R 20 (ad 4 (by decide));have SN:=F29.has R 6 (Ed (j:=5) (by decide) F29.f D NM KI);have HE:=F30.has R 27 (Ga (j:=26) (jn:=6) (by decide) (by decide) F30.f L TE NO z_len);have HI:=F31.has R 2 (B7 F31.f D z_len);have PO:=F32.has R 28 (uC (j:=27) (ja:=4) (jh:=2) (by decide) (by decide) (by decide) F32.f D AK HE HI z_range g);have db:=F38.has R 29 (Ef (j:=28) (js:=6) (by decide) (by decide) F38.f FD D SN PO);have P:=F33.has R 21 (zZ (j:=20) (jn:=2) (by decide) (by decide) F33.f L c3 NU z_len u);have c7:=F37.has R 2 (D9 F37.f D z_len);have ag:=F34.has R 4 (Ea F34.f L);have ae:=F35.has R 105 (Ae F35.f (Po X G F35.a) F35.b u 101 (by decide));have E:=F36.has R 106 (Eb F36.f ag ae);have c8:=F39.has R 107 (yK (j:=106) (jn:=106) (by decide) (by decide) F39.f D E #[P.ok.mono (by decide),P.at',P.kp,P.bd] c7 z_len S z_range g);have dh:=F40.has R 106 (yQ (gf:=tS) (okA:=GD) (tr:=cu) F40.f ae.ok F35.F.kp F35.b (λv y H Q r o k=>#[v,y,rfl,r,UU o,k]) z_len z_range);have dg:=F40.has R 106 (yQ (gf:=lK) (okA:=Gz) (tr:=enc) F40.f (ag.ok.mono (by decide)) F34.F.kp F34.b (λv y H Q r o k=>#[v,y,rfl,r,o.1,o.2,k]) z_len z_range);have df:=F41.has R 107 (IB F41.f E dh dg (Po X G F35.a) (Po X G F34.a));have c0:=F42.has R 8 (Gb F42.f de C2 (Po X G ab) (Po X G ac2) (Po X G ac1) (Po X G ao0) (Po X G ao1) (Po X G ao2) (Po X G ao3) (Po X G ao4) (Po X G ao5) (Po X G ao6) z);have c4:=F43.has R 4 (Cj F43.f D L z_len u);exact IF (j:=107) (jd:=29) (by decide) (by decide) #[#[_,od,kV,aa,pm,an,ac,ct,aj,rfl,lk,cc],F44.F.kp] FD D db #[E.ok.mono (by decide),E.at',E.kp,E.bd] c8 c4 df c0 z_range
theorem IT (u:nsIn K ML x=some (some (.ref f)))(t:K.lookup f=some #[o,od,.func m,e])(r:m.code=.ref c)(q:K.lookup c=some #[j,g,.fields l,d])(p:(l[11]? == some (.ref P))=true):U8 K x=some (c,P):=by
 unfold U8;rw[u];simp only[t,r,q,Oa p]
theorem walk {l:RJ}{K:Params->bA}(hn:l.most=some 63)(m:d.params.defaults=[])(hY:∀(w:FT) (h:Heap),r w h->(K w.params).In h)(ht1:((PyProof.Rows.recsOf q).find? (λe=>e.name == ("with_gaps_put":Str))).isSome=true)(ht2:∀w:FT,U8 (K w.params) "with_gaps_put"=some (c,Pt))(ht3:∀w:FT,(K w.params).lookup Pt=none)(F:∀(w:FT) (mg:Str->Option cB) (p:Addr) (h:Heap),(K w.params).In h->h.Ns ML mg->mg d.name=some (.ref p) ->
   ∃o:rE,(∀(s:eT) (u:cB),UH s o #[[u],[]] [("_law_script",u)])/\∀g:Heap,(K w.params).In g->g.Ns ML mg->OI g c Pt->uq g mg->bH l.prog w (K w.params) mg g eZ 108 p o ["_law_script"] (Ba Pt (K w.params))):
  Vo q j B r l.row.toRowW d [] (λf t=>Vl f t) :=
 let⟨_,ht1⟩:=SE.mp ht1
 L2.Dy (n:=63) (k:=108) (x:="_law_script") (tn:="with_gaps_put") (c:=c) (Pt:=Pt) (sp:=Ba Pt) hn (by decide) m #[rfl,by decide,by decide,rfl] hY ht1 ht2 ht3 F (λ_ _ a v y _ z A=>#[a,v,rfl,A,y,.inl z,λ_=>rfl])
end G34
namespace PySem.W.Fast
theorem tw16773618528124870511:True:=⟨⟩
theorem tw8227233420668623074:True:=⟨⟩
theorem tw2435521662202323779:True:=⟨⟩
theorem tw1877597592763649735:True:=⟨⟩
theorem tw2998207875515546680:True:=⟨⟩
theorem tw18150567350288310291:True:=⟨⟩
theorem tw1919922166613750002:True:=⟨⟩
theorem tw2444443128945567356:True:=⟨⟩
theorem tw10670640392667457215:True:=⟨⟩
theorem tw11801621983854192906:True:=⟨⟩
theorem tw9301826374638940584:True:=⟨⟩
theorem tw6313223322657909144:True:=⟨⟩
theorem tw8293282608260699408:True:=⟨⟩
theorem tw8939493330901777062:True:=⟨⟩
theorem tw15247412186004446568:True:=⟨⟩
theorem tw12536422511713664858:True:=⟨⟩
theorem tw16729182198815020143:True:=⟨⟩
theorem tw8325089347853318647:True:=⟨⟩
theorem tw12245595637301381259:True:=⟨⟩
theorem tw10109830337403795445:True:=⟨⟩
theorem tw2687494884657516378:True:=⟨⟩
theorem tw1853132881832434420:True:=⟨⟩
theorem tw16275754565528829939:True:=⟨⟩
theorem tw16181233198961291265:True:=⟨⟩
theorem tw9979386299092436231:True:=⟨⟩
theorem tw5117568018747305054:True:=⟨⟩
theorem tw13565159053390955244:True:=⟨⟩
theorem tw3523264986819678364:True:=⟨⟩
theorem tw2170815519728921545:True:=⟨⟩
theorem tw4341823815548607570:True:=⟨⟩
theorem tw15798222045061998897:True:=⟨⟩
theorem tw4808946003610446965:True:=⟨⟩
theorem tw13473220066088046146:True:=⟨⟩
theorem tw13193928038078073889:True:=⟨⟩
theorem tw2780597493825627012:True:=⟨⟩
theorem tw13950530003613145015:True:=⟨⟩
theorem tw14399669573079914022:True:=⟨⟩
theorem tw3239339947601286210:True:=⟨⟩
theorem tw16350842993794123293:True:=⟨⟩
theorem tw17403673794174327103:True:=⟨⟩
theorem tw14430277760757907507:True:=⟨⟩
theorem tw14467257775894719121:True:=⟨⟩
theorem tw18106884704956848683:True:=⟨⟩
theorem tw13154395511590260071:True:=⟨⟩
theorem tw299644261168168797:True:=⟨⟩
theorem tw5251534659410335465:True:=⟨⟩
theorem tw15552478531855030278:True:=⟨⟩
theorem tw9351342398197458703:True:=⟨⟩
theorem tw3483289512010623039:True:=⟨⟩
theorem tw7602851825732373068:True:=⟨⟩
theorem tw16293583363771926344:True:=⟨⟩
theorem tw17368196522058788048:True:=⟨⟩
theorem tw2846775053687398110:True:=⟨⟩
theorem tw1758733253193485026:True:=⟨⟩
theorem tw13423413857350997468:True:=⟨⟩
theorem tw17674201651759249418:True:=⟨⟩
theorem tw3949101656023406004:True:=⟨⟩
theorem tw10483368472486516884:True:=⟨⟩
theorem tw14614412417454374420:True:=⟨⟩
theorem tw10435810001251452917:True:=⟨⟩
theorem tw1676792543595507339:True:=⟨⟩
theorem tw9330542698314180960:True:=⟨⟩
theorem tw12278776537492300386:True:=⟨⟩
theorem tw1424971958441170707:True:=⟨⟩
theorem tw8285470879950505922:True:=⟨⟩
theorem tw2686200465174930688:True:=⟨⟩
theorem tw10072102742926241873:True:=⟨⟩
theorem tw5790778828137703229:True:=⟨⟩
theorem tw5299772196238610306:True:=⟨⟩
theorem tw5828285754714197698:True:=⟨⟩
theorem tw7445255339620852404:True:=⟨⟩
theorem tw4745993842900637275:True:=⟨⟩
theorem tw397561672762303311:True:=⟨⟩
theorem tw6813350874539804264:True:=⟨⟩
theorem tw8037376519602162113:True:=⟨⟩
theorem tw14726089260607199598:True:=⟨⟩
theorem tw6961306354506171260:True:=⟨⟩
theorem tw13736470971480049155:True:=⟨⟩
theorem tw3592489024245689874:True:=⟨⟩
theorem tw2253953474603647649:True:=⟨⟩
theorem tw11909437523875095225:True:=⟨⟩
theorem tw9687076947462055522:True:=⟨⟩
theorem tw443080142292760550:True:=⟨⟩
theorem tw16363106974229664547:True:=⟨⟩
theorem tw6327030804876032977:True:=⟨⟩
theorem tw9949485722800625194:True:=⟨⟩
theorem tw17252175799688498307:True:=⟨⟩
theorem tw2120552396814638049:True:=⟨⟩
theorem tw2361859374971549969:True:=⟨⟩
theorem tw256297611034880636:True:=⟨⟩
theorem tw5504180070978019671:True:=⟨⟩
theorem tw5138885014308730230:True:=⟨⟩
theorem tw4395856539056305303:True:=⟨⟩
theorem tw10492441766873814128:True:=⟨⟩
theorem tw7100206184647682278:True:=⟨⟩
theorem tw15674724002867058197:True:=⟨⟩
theorem tw11076462154826163305:True:=⟨⟩
theorem tw10270849891513580940:True:=⟨⟩
theorem tw1039783714211078474:True:=⟨⟩
theorem tw8323693662089379725:True:=⟨⟩
theorem tw10489295631641561207:True:=⟨⟩
theorem tw8672124177756389527:True:=⟨⟩
theorem tw17123075692411755686:True:=⟨⟩
theorem tw11134709095720090001:True:=⟨⟩
theorem tw17012295062643884078:True:=⟨⟩
theorem tw1701321975546249241:True:=⟨⟩
theorem tw5855407705105462374:True:=⟨⟩
theorem tw11047046629217229812:True:=⟨⟩
theorem tw12421625902239306599:True:=⟨⟩
theorem tw7083056578902124254:True:=⟨⟩
theorem tw16962120236497374409:True:=⟨⟩
theorem tw8160760813812721954:True:=⟨⟩
theorem tw1397195815912956301:True:=⟨⟩
theorem tw6862518782340009150:True:=⟨⟩
theorem tw13108075234255828439:True:=⟨⟩
theorem tw4157107578740506391:True:=⟨⟩
theorem tw9208105245696737292:True:=⟨⟩
theorem tw4491415745838693636:True:=⟨⟩
theorem tw2729252076913833680:True:=⟨⟩
theorem tw9781800549651750611:True:=⟨⟩
theorem tw14431534307598418853:True:=⟨⟩
theorem tw11687925626788084021:True:=⟨⟩
theorem tw18438068576554977157:True:=⟨⟩
theorem tw5201025156007186336:True:=⟨⟩
theorem tw14208326628408141110:True:=⟨⟩
theorem tw17985809863185400230:True:=⟨⟩
theorem tw4159845896289392982:True:=⟨⟩
theorem tw14918367691367354607:True:=⟨⟩
theorem tw3064903854518377178:True:=⟨⟩
theorem tw4478938628456023494:True:=⟨⟩
theorem tw12110415739337895288:True:=⟨⟩
theorem tw7068962878329331910:True:=⟨⟩
theorem tw9053315973515209176:True:=⟨⟩
theorem tw3024170974164424498:True:=⟨⟩
theorem tw17317282076397165885:True:=⟨⟩
theorem tw3695888878480739033:True:=⟨⟩
theorem tw10927124619157123954:True:=⟨⟩
theorem tw8502186698427101795:True:=⟨⟩
theorem tw1094130542270925560:True:=⟨⟩
theorem tw6218473403648727508:True:=⟨⟩
theorem tw5273518571496993410:True:=⟨⟩
theorem tw11515389074547492735:True:=⟨⟩
theorem tw12342238750223796990:True:=⟨⟩
theorem tw286021961683131601:True:=⟨⟩
theorem tw3810025606505683630:True:=⟨⟩
theorem tw16070070101408204827:True:=⟨⟩
theorem tw15443471922210806892:True:=⟨⟩
theorem tw10157552150954645904:True:=⟨⟩
theorem tw14257185628191031758:True:=⟨⟩
theorem tw2765413651197530212:True:=⟨⟩
theorem tw2371544648155610104:True:=⟨⟩
theorem tw16036004275288888526:True:=⟨⟩
theorem tw10557809386595477476:True:=⟨⟩
theorem tw7124256289822908338:True:=⟨⟩
theorem tw5047137103861657999:True:=⟨⟩
theorem tw17454493675039082538:True:=⟨⟩
theorem tw3875296724101055644:True:=⟨⟩
theorem tw13507107199111326370:True:=⟨⟩
theorem tw12934202310283094863:True:=⟨⟩
theorem tw12745072518775086222:True:=⟨⟩
theorem tw17691431084389968145:True:=⟨⟩
theorem tw3783483383001268150:True:=⟨⟩
theorem tw682945739863712278:True:=⟨⟩
theorem tw3829595090598134961:True:=⟨⟩
theorem tw7734346753909811500:True:=⟨⟩
theorem tw8506744657078244897:True:=⟨⟩
theorem tw13270528275651601760:True:=⟨⟩
theorem tw17472303629804857124:True:=⟨⟩
theorem tw7718242768679011089:True:=⟨⟩
theorem tw7685267899301749566:True:=⟨⟩
theorem tw389892336154492382:True:=⟨⟩
theorem tw12123663210131628114:True:=⟨⟩
theorem tw9177945855670878017:True:=⟨⟩
theorem tw17734324700988110307:True:=⟨⟩
theorem tw5191626741645494563:True:=⟨⟩
theorem tw4760322326404072439:True:=⟨⟩
theorem tw9602855500608069903:True:=⟨⟩
theorem tw12812324217897971371:True:=⟨⟩
theorem tw17824873176589317070:True:=⟨⟩
theorem tw2024121537799608501:True:=⟨⟩
theorem tw18355170339283140703:True:=⟨⟩
theorem tw14174000316833578413:True:=⟨⟩
theorem tw1774865070218668130:True:=⟨⟩
theorem tw2688861398826081493:True:=⟨⟩
theorem tw5719532038420171831:True:=⟨⟩
theorem tw16355684305140881150:True:=⟨⟩
theorem tw1175869188173890583:True:=⟨⟩
theorem tw8277103879455949665:True:=⟨⟩
theorem tw18278951013063571421:True:=⟨⟩
theorem tw15737394036071442380:True:=⟨⟩
theorem tw2629206664274401575:True:=⟨⟩
theorem tw8239142612823594642:True:=⟨⟩
theorem tw10180199056228106309:True:=⟨⟩
theorem tw16543358631324610390:True:=⟨⟩
theorem tw9416018940544928252:True:=⟨⟩
theorem tw1292319548035979050:True:=⟨⟩
theorem tw8303138969598549015:True:=⟨⟩
theorem tw18180925705609712676:True:=⟨⟩
theorem tw2226895128777911471:True:=⟨⟩
theorem tw10683669050066178004:True:=⟨⟩
theorem tw16320903689980922802:True:=⟨⟩
theorem tw6173783351957663070:True:=⟨⟩
theorem tw17619021685351499663:True:=⟨⟩
theorem tw9614049481501002826:True:=⟨⟩
theorem tw8706131492705066183:True:=⟨⟩
theorem tw7951110366977585024:True:=⟨⟩
theorem tw13404978297842571030:True:=⟨⟩
theorem tw2546108571948797441:True:=⟨⟩
theorem tw4259532825486834123:True:=⟨⟩
theorem tw7583595999304825935:True:=⟨⟩
theorem tw11953295860402487842:True:=⟨⟩
theorem tw15491436389566181367:True:=⟨⟩
theorem tw10131397049689502634:True:=⟨⟩
theorem tw8522908095660399269:True:=⟨⟩
theorem tw4674541883555560040:True:=⟨⟩
theorem tw449086668667014783:True:=⟨⟩
theorem tw4060486461749468811:True:=⟨⟩
theorem tw12243943820124371240:True:=⟨⟩
theorem tw5992912953830267478:True:=⟨⟩
theorem tw10070156577573632128:True:=⟨⟩
theorem tw15447111096180353279:True:=⟨⟩
theorem tw16412849821023295560:True:=⟨⟩
theorem tw11780188648650402461:True:=⟨⟩
theorem tw11387191196160275467:True:=⟨⟩
theorem tw6121332501486999176:True:=⟨⟩
theorem tw11684733268047933813:True:=⟨⟩
theorem tw10300988959956793681:True:=⟨⟩
theorem tw369001377429653337:True:=⟨⟩
theorem tw6492658659598939754:True:=⟨⟩
theorem tw8440429233334427557:True:=⟨⟩
theorem tw1450601156606635381:True:=⟨⟩
theorem tw8432333819103210050:True:=⟨⟩
theorem tw3787310480307554272:True:=⟨⟩
theorem tw10751118150115830936:True:=⟨⟩
theorem tw1742304213039645402:True:=⟨⟩
theorem tw8727927875133363737:True:=⟨⟩
theorem tw7992953189989265837:True:=⟨⟩
theorem tw6317999451708865011:True:=⟨⟩
theorem tw4703105106359269256:True:=⟨⟩
theorem tw4619165150557989003:True:=⟨⟩
theorem tw341359191864470865:True:=⟨⟩
theorem tw1752245992208480183:True:=⟨⟩
theorem tw17495975494495591357:True:=⟨⟩
theorem tw1443773345882299856:True:=⟨⟩
theorem tw14079292816989285232:True:=⟨⟩
theorem tw13482222265727712543:True:=⟨⟩
theorem tw12941621817545165379:True:=⟨⟩
theorem tw10265161288767611673:True:=⟨⟩
theorem tw12656249321745399331:True:=⟨⟩
theorem tw10881000337755569888:True:=⟨⟩
theorem tw14105292413762369412:True:=⟨⟩
theorem tw1978793135673616181:True:=⟨⟩
theorem tw1565065977268331098:True:=⟨⟩
theorem tw15326167525247843435:True:=⟨⟩
theorem tw15874237133165409157:True:=⟨⟩
theorem tw9250039381062888487:True:=⟨⟩
theorem tw7933754471655796469:True:=⟨⟩
theorem tw6203930849752110556:True:=⟨⟩
theorem tw6110918796686273223:True:=⟨⟩
theorem tw5388371481719065962:True:=⟨⟩
theorem tw4461715122022044193:True:=⟨⟩
theorem tw4129967127672434480:True:=⟨⟩
theorem tw3452897081409489154:True:=⟨⟩
theorem tw2397186767225443102:True:=⟨⟩
theorem tw17495040826178274865:True:=⟨⟩
theorem tw17296339185038602701:True:=⟨⟩
theorem tw17157551646122764158:True:=⟨⟩
theorem tw16608759490212436385:True:=⟨⟩
theorem tw14062634980580433414:True:=⟨⟩
theorem tw13443994774305016158:True:=⟨⟩
theorem tw1200952085569770579:True:=⟨⟩
theorem tw11465237840222880199:True:=⟨⟩
theorem tw11236234269961233329:True:=⟨⟩
theorem tw10531881613447612427:True:=⟨⟩
end PySem.W.Fast
open PySem PySem.W PyProof.Rows
set_option maxRecDepth 100000 in
set_option maxHeartbeats 0 in
theorem PySem.Challenge.cw_gapwork_k34_fillings_refused_holds : PySem.Challenge.rw_gapwork_k34_fillings_refused.Holds := by
  w_on; o_law; k_head; (case hw => w_witness2)
  k_fill
  refine' G34.walk (l := PySem.Challenge.rw_gapwork_k34_fillings_refused) rfl rfl (λw h Y => PySem.W.km_in_of Y) (Pt := 250) ?h1 ?h2 ?h3 ?F
  case h2 => intro w; exact G34.IT (by k_is) (by k_is) (by rfl) (by k_is) (by kernel_rfl)
  case h1 => kernel_rfl
  case h3 => intro w; kernel_rfl
  case F =>
    intro w mg fa h KX G hmg
    refine' G34.all_mk KX G hmg ?F1 ?F2 ?F3 ?F4 ?F5 ?F6 ?F7 ?F8 ?F9 ?a10 ?F10 ?F11 ?F12 ?F13 ?F14 ?F15 ?F16 ?F17 ?F18 ?F19 ?F20 ?F21 ?F22 ?F23 ?F24 ?F25 ?F26 ?F27 ?F28 ?F29 ?F30 ?F31 ?F32 ?F33 ?F34 ?F35 ?F36 ?F37 ?F38 ?F39 ?F40 ?F41 ?F42 ?F43 ?F44 ?ab ?ac1 ?ac2 ?ao0 ?ao1 ?ao2 ?ao3 ?ao4 ?ao5 ?ao6 ?j1 ?j2 ?B ?y1 ?y2 ?I1 ?I2 ?tB ?pP ?lP ?kP ?sP ?pM ?lM ?kM ?sM ?q0 ?q1 ?q2 ?q3 ?q4 ?q5 ?q6 ?q7 ?q8 ?z0 ?z1 ?z2 ?z3 ?z4 ?z5 ?z6 ?z7 ?z8 ?z9 ?z10 ?z11
    (case F1 => exact #[by k_is, G34.aQ (by k_is) (by k_is) (by k_is)])
    (case F2 => exact #[by k_is, G34.aQ (by k_is) (by k_is) (by k_is)])
    (case F3 => exact #[by k_is, G34.aQ (by k_is) (by k_is) (by k_is)])
    (case F4 => exact #[by k_is, G34.aQ (by k_is) (by k_is) (by k_is)])
    (case F5 => exact #[by k_is, G34.aQ (by k_is) (by k_is) (by k_is)])
    (case F6 => exact #[by k_is, G34.aQ (by k_is) (by k_is) (by k_is)])
    (case F7 => exact #[by k_is, G34.aQ (by k_is) (by k_is) (by k_is)])
    (case F8 => exact #[by k_is, G34.aQ (by k_is) (by k_is) (by k_is)])
    (case F9 => exact #[by k_is, G34.aQ (by k_is) (by k_is) (by k_is)])
    (case a10 => k_is)
    (case F10 => exact L2.Fo (by k_is) (by k_is) (by k_is))
    (case F11 => exact #[by k_is, G34.aQ (by k_is) (by k_is) (by k_is)])
    (case F12 => exact #[by k_is, G34.aQ (by k_is) (by k_is) (by k_is)])
    (case F13 => exact #[by k_is, G34.aQ (by k_is) (by k_is) (by k_is)])
    (case F14 => exact #[by k_is, G34.aQ (by k_is) (by k_is) (by k_is)])
    (case F15 => exact #[by k_is, G34.aQ (by k_is) (by k_is) (by k_is)])
    (case F16 => exact #[by k_is, G34.aQ (by k_is) (by k_is) (by k_is)])
    (case F17 => exact #[by k_is, G34.aQ (by k_is) (by k_is) (by k_is)])
    (case F18 => exact #[by k_is, G34.aQ (by k_is) (by k_is) (by k_is)])
    (case F19 => exact #[by k_is, G34.aQ (by k_is) (by k_is) (by k_is)])
    (case F20 => exact #[by k_is, G34.aQ (by k_is) (by k_is) (by k_is)])
    (case F21 => exact #[by k_is, G34.aQ (by k_is) (by k_is) (by k_is)])
    (case F22 => exact #[by k_is, G34.aQ (by k_is) (by k_is) (by k_is)])
    (case F23 => exact #[by k_is, G34.aQ (by k_is) (by k_is) (by k_is)])
    (case F24 => exact #[by k_is, G34.aQ (by k_is) (by k_is) (by k_is)])
    (case F25 => exact #[by k_is, G34.aQ (by k_is) (by k_is) (by k_is)])
    (case F26 => exact #[by k_is, G34.aQ (by k_is) (by k_is) (by k_is)])
    (case F27 => exact #[by k_is, G34.aQ (by k_is) (by k_is) (by k_is)])
    (case F28 => exact #[by k_is, G34.aQ (by k_is) (by k_is) (by k_is)])
    (case F29 => exact #[by k_is, G34.aQ (by k_is) (by k_is) (by k_is)])
    (case F30 => exact #[by k_is, G34.aQ (by k_is) (by k_is) (by k_is)])
    (case F31 => exact #[by k_is, G34.aQ (by k_is) (by k_is) (by k_is)])
    (case F32 => exact #[by k_is, G34.aQ (by k_is) (by k_is) (by k_is)])
    (case F33 => exact #[by k_is, G34.aQ (by k_is) (by k_is) (by k_is)])
    (case F34 => exact #[by k_is, G34.aQ (by k_is) (by k_is) (by k_is)])
    (case F35 => exact #[by k_is, G34.aQ (by k_is) (by k_is) (by k_is)])
    (case F36 => exact #[by k_is, G34.aQ (by k_is) (by k_is) (by k_is)])
    (case F37 => exact #[by k_is, G34.aQ (by k_is) (by k_is) (by k_is)])
    (case F38 => exact #[by k_is, G34.aQ (by k_is) (by k_is) (by k_is)])
    (case F39 => exact #[by k_is, G34.aQ (by k_is) (by k_is) (by k_is)])
    (case F40 => exact #[by k_is, G34.aQ (by k_is) (by k_is) (by k_is)])
    (case F41 => exact #[by k_is, G34.aQ (by k_is) (by k_is) (by k_is)])
    (case F42 => exact #[by k_is, G34.aQ (by k_is) (by k_is) (by k_is)])
    (case F43 => exact #[by k_is, G34.aQ (by k_is) (by k_is) (by k_is)])
    (case F44 => exact #[by k_is, G34.aQ (by k_is) (by k_is) (by k_is)])
    (case ab => k_is)
    (case ac1 => k_is)
    (case ac2 => k_is)
    (case ao0 => k_is)
    (case ao1 => k_is)
    (case ao2 => k_is)
    (case ao3 => k_is)
    (case ao4 => k_is)
    (case ao5 => k_is)
    (case ao6 => k_is)
    (case j1 => k_is)
    (case j2 => k_is)
    (case B => exact ⟨#[_, _, _, _, _, _, _, _, _, _, _, _, _, _, _, by k_is, _, _, _, _, _, by k_is, by kernel_rfl, by kernel_rfl]⟩)
    (case y1 => exact ⟨#[_, _, _, _, _, _, _, _, _, _, _, _, _, _, _, by k_is, _, _, _, _, _, by k_is, by kernel_rfl, by kernel_rfl]⟩)
    (case y2 => exact ⟨#[_, _, _, _, _, _, _, _, _, _, _, _, _, _, _, by k_is, _, _, _, _, _, by k_is, by kernel_rfl, by kernel_rfl]⟩)
    (case tB => kernel_rfl)
    (case pP => k_is)
    (case lP => k_is)
    (case kP => exact #[_, _, _, rfl, #[_, rfl], rfl, rfl, #[_, _, _, rfl, #[_, rfl], rfl, rfl, #[_, _, _, rfl, #[_, rfl], rfl, rfl, #[_, _, _, rfl, #[_, rfl], rfl, rfl, #[_, _, _, rfl, #[_, rfl], rfl, rfl, #[_, _, _, rfl, #[_, rfl], rfl, rfl, #[_, _, _, rfl, #[_, rfl], rfl, rfl, #[_, _, _, rfl, #[_, rfl], rfl, rfl, #[_, _, _, rfl, #[_, rfl], rfl, rfl, rfl]]]]]]]]])
    (case sP => kernel_rfl)
    (case pM => k_is)
    (case lM => k_is)
    (case kM => exact #[_, _, _, rfl, #[_, rfl], rfl, #[_, rfl], #[_, _, _, rfl, #[_, rfl], rfl, #[_, rfl], #[_, _, _, rfl, #[_, rfl], rfl, #[_, rfl], rfl]]])
    (case sM => kernel_rfl)
    (case q0 => kernel_rfl)
    (case q1 => kernel_rfl)
    (case q2 => kernel_rfl)
    (case q3 => kernel_rfl)
    (case q4 => kernel_rfl)
    (case q5 => kernel_rfl)
    (case q6 => kernel_rfl)
    (case q7 => kernel_rfl)
    (case q8 => kernel_rfl)
    (case z0 => k_is)
    (case z1 => k_is)
    (case z2 => k_is)
    (case z3 => k_is)
    (case z4 => k_is)
    (case z5 => k_is)
    (case z6 => k_is)
    (case z7 => k_is)
    (case z8 => k_is)
    (case z9 => k_is)
    (case z10 => k_is)
    (case z11 => k_is)
    (case I1 => exact G34.aQ (by k_is) (by k_is) (by k_is))
    (case I2 => exact G34.aQ (by k_is) (by k_is) (by k_is))
#print axioms PySem.Challenge.cw_gapwork_k34_fillings_refused_holds

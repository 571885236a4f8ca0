import PyProof.Rows.All
import Wide.All
import OpenK.AllK
import Wide.FinOn
import PyProof.EqAt
import PyProof.EqKinds
import PyProof.NeKinds
import PyProof.TupleCall
import PyProof.StrLawsRepr
import KE.KIsAll
import KE.KItem
import KE.KDictOf
import KE.KBytesAny
import KE.KDictList
import Lean
import PySem.Challenge.RW_gapwork_k14_kinds_and_heads_amiss
set_option compiler.extract_closed false
set_option bootstrap.genMatcherCode false
set_option genInjectivity false
set_option genSizeOf false
local macro_rules|`(tactic|decide)=>`(tactic|decide +kernel)
local macro_rules|`(tactic|left)=>`(tactic|(show _=_;kernel_rfl))
local macro_rules|`(tactic|ac_rfl)=>`(tactic|exact⟨rfl,rfl,rfl,by decide,rfl,by decide,by decide⟩)
local macro_rules|`(())=>`(by omega)
open Lean in
def rP:Nat->Syntax->MacroM (TSyntax `rcasesPat)
 |0,_=>Macro.throwUnsupported
 |n+1,s=>match s with
  |`(($a,$b,*))=>do
   let x<-rP n a
   let y<-b.getElems.mapM fun z=>rP n z
   let x:=#[x]++y
   `(rcasesPat|⟨$[$x:rcasesPat],*⟩)
  |`(_)=>`(rcasesPat|_)
  |`($i:ident)=>`(rcasesPat|$i:ident)
  |_=>Macro.throwUnsupported
local macro_rules|`(tactic|have($a,$b,*):=$e)=>do
 let x<-rP 9 a
 let y<-b.getElems.mapM fun z=>rP 9 z
 let x:=#[x]++y
 `(tactic|obtain⟨$[$x:rcasesPat],*⟩:=$e)
local macro_rules|`(#[$x,*])=>if x.elemsAndSeps.size<2||x.elemsAndSeps.size%2==0 then Lean.Macro.throwUnsupported else `(⟨$x,*⟩)
local macro_rules|`(tactic|omega)=>`(tactic|first|lia|omega +splitDisjunctions)
set_option Elab.async false
set_option linter.all false
set_option maxRecDepth 100000
open Array renaming length_toList->O3,getElem?_setIfInBounds_self_of_lt->Qm,mem_toList_iff->RB,toList_append->RQ,getElem?_eq_some_iff->Se,getElem?_toList->Tj,append_assoc->Uc,find?_toList->Ud
open Bool renaming false_ne_true->Nq,and_eq_true->NO,false_eq_true->PB,or_eq_true->Qg,eq_iff_iff->QG,or_true->RU,and_false->Tt
open False renaming elim->OE
open Int renaming toNat_natCast->OP,zero_add->Rc,emod_lt_of_pos->Sb,emod_nonneg->Tf,ediv_one->Uu
open LawfulBEq renaming eq_of_beq->Pq
open List renaming getElem?_eq_some_iff->bH,length_map->bM,length_append->i4,map_append->i5,take_succ_eq_append_getElem->mu,getElem?_eq_getElem->my,mem_append_right->vv,getElem?_map->xn,mem_singleton->EF,length_take->I0,mem_append->L0,size_toArray->Nb,mem_cons->Nc,mem_of_getElem?->Nf,replicate->Ng,take_length->Nr,length_cons->Nv,map_cons->Ny,not_mem_nil->NB,append_nil->NF,mem_map->NI,drop_eq_getElem_cons->NJ,mem_append_left->NK,drop_length->NL,lookup_cons->NP,getElem?_append_right->NR,all_eq_true->NS,getElem_mem->NT,flatMap_append->NU,getElem?_of_mem->NV,mem_map_of_mem->NY,length_drop->N7,getElem?_append_left->N9,map_map->Oa,mem_of_mem_take->Oc,append_assoc->Od,find?_cons->Oe,mem_cons_of_mem->Og,zipWith->Oj,take_of_length_le->Ol,getD_eq_getElem?_getD->Ou,length_zipWith->OD,nodup_append->OH,mem_cons_self->OL,length_replicate->OQ,mem_of_mem_drop->OU,map_nil->OX,flatMap_cons->OY,filterMap_cons->O2,nodup_cons->O5,lookup->O9,range->Pc,of_mem_zip->Pe,replicate_succ->Ph,length_reverse->Pj,map_take->Po,mem_flatMap->Px,mem_range->Py,contains_cons->PD,find?_eq_none->PF,mem_of_find?_eq_some->PJ,nil_append->PM,reverse_cons->PY,getElem?_replicate->P4,take_zero->P5,length_eq_zero_iff->P6,getElem?_set_self->P8,drop_of_length_le->Qa,zip_cons_cons->Qd,length_nil->Qf,eq_nil_or_concat->Qk,take_sublist->Ql,getElem?_set_ne->Qn,cons_append->Qv,getElem?_eq_none_iff->Qx,mem_or_eq_of_mem_set->Qz,forIn_cons->QH,getElem?_take->QM,length->QO,pairwise_singleton->QT,getElem?_cons_zero->QU,any_eq_false->Q0,flatten_cons->Q7,forIn_nil->Q8,length_range->Rf,length_singleton->Rj,getElem?_eq_none->Rk,getElem?_zipWith->Rl,take_append_drop->Rn,length_filter_le->Ro,getElem_map->Rt,any_cons->Rw,map_drop->Rz,length_set->RJ,range_succ->RN,mem_filterMap->R0,getElem?_drop->Sf,all_cons->SD,flatMap_nil->SR,mem_filter->Td,isPerm_iff->Th,concat_eq_append->Tn,getElem_reverse->Tw,length_take_le'->TH,nodup_nil->TJ,getElem_toArray->TN,reverse_append->T4,filterMap_map->Uh,pairwise_cons->Uk,append_of_mem->Ul,mem_replicate->Um,Sublist->UA,getElem_drop->UB,zipIdx_cons->UJ,any_eq_true->UK,map_reverse->UL,foldl->UX
open List.Sublist renaming map->Qw
open Nat renaming le_refl->lj,lt_of_lt_of_le->Ni,zero_le->Nu,le_trans->Nz,ne_of_lt->ND,lt_irrefl->Om,le_of_lt->Ot,le_succ->OC,max_eq_left->Pf,lt_succ_self->Pp,le_add_right->Pr,succ_le_succ->Pw,min_eq_left->PN,mul_le_mul_right->PZ,ne_of_gt->QX,min_self->Ra,lt_of_le_of_lt->R9,lt_succ_of_lt->Sq,le_max_right->SQ,min_eq_right->SS,succ_mul->S7,sub_self->S9,le_max_left->Te,add_le_add_left->TY,mul_le_mul_left->T5,le_of_eq->Uq,le_total->Uv,not_lt->UZ
open Ne renaming symm->PR
open Option renaming map_eq_some_iff->we,bind_some->Pu,map_eq_none_iff->Qc,map_some->RK,isSome_map->Sm,map_map->TL,getD_none->UG
open Option.some renaming inj->Nk,injEq->Q9
open Prod.mk renaming inj->Su
open PyProof.Rows renaming envOfC->Np,slot_tuple_getitem->NN,boot_tuple->N8,boot_isinstance->OA,boot_int->OF,boot_list->O1,callWith_type1->Pk,boot_repr->Qe,entry_tuple_getitem->RO,AllBare->RS,assignInOrder_cons->RY,args_tuple_getitem->R5,boot_sorted->SH,Subscript_->S2,subscriptTail_builtinR->S3,tupleItemsOf_->T8,subscriptTail->T9,IntsAre->US,IsTup->UT
open PyProof.Rows.IsTup renaming new->TR
open PySem renaming wpAny_bind->cB,Value->eF,Shared->fy,sizeLine->mH,wpAny_pure->tF,Program->IF,FuncData->L1,wpAny->Nd,model->Nj,boot_len->Nl,World->Nn,Around->Nx,mainGlobals->NC,wpAny_mono->NG,foldedSetIterable->NQ,wpAny_newObj_type->NX,wpAny_field->NZ,starEach->Ob,sliceBounds->Oq,wpAny_holding->Ov,compareOp->OB,Scope->OG,wpAny_callSpecial?_slot->OI,Env->OJ,wpAny_standAt->OM,mem_of_lookup->ON,sysModules->OV,codeAny->OW,wpAny_seqItems->O0,letOwnedTupleGo->O4,wpAny_Call_Name_kw->O6,wpAny_call_entry->O7,wpAny_loadPart_at->Pa,strKind->Pn,wpAny_setField_rec->PC,wpAny_passesOwn->PK,DictEntry->PL,wpAny_truthy_bool->PV,binaryOp->PX,rawInt->Qh,IsPair->Qi,sizeLine_eq->Qo,NameKind->Qp,excClassObj->Qs,codeAny_mono->Qt,valueAt->Qu,wpAny_isSubtype_exc->QB,attributeBase->QD,assignEach->QI,tupleKind_room_in1->QJ,preSum->QN,bootBuiltins->QW,wpAny_pyIter_list->QY,Builtin->QZ,Result->Q2,getItem->Q6,wpAny_setField->Rb,plainObj_wpAny_Assign_Attribute->Rh,cLine->Ri,swapsWith->Rq,pyNext->Rr,wpAny_isInstance->Ru,wpAny_onRaise->Rx,strLen_append->Ry,wpAny_updateSeq_pair->RC,unbindBehindTheSuite->RD,wpAny_execs_nil->RH,wpAny_loadPart'->RM,wpAny_typeOf->RT,backTo->RV,assign->RX,wpAny_rule->RZ,wpAny_loadPart->R1,wpAny_call->R3,wpAny_newFunctionEnv_cells->R4,typeIs_int->R7,call_meets->R8,sliceRange->Sa,holding->Sj,wpAny_sequenceKey->Sk,slot_list_getitem->Sl,behindInMarks->Sw,IsPart->Sz,wpAny_getItem_list_slice->SA,wpAny_comprehension_free->SE,wpAny_attempt->SG,wpAny_execs_cons->SK,noFill_tuple_add->SN,wpAny_Call_method0_late->SO,Within->SX,standAt->SY,codeAny_loop->S8,IsZip->Tg,codeAny_call_function->Ti,bindName->To,wpAny_bindName->Tp,pyIter->Tq,subscripted->Tr,compTurn->Tu,wpAny_noted->Tv,tupleKind->TQ,callerA->TU,noteFrame->TV,evalArgs_none->TX,assignInOrder->T6,seq_tuple_add->T7,isInstance->Ui,BindsTo->Us,concat_meets->Ut,wpAny_mkText->Uz,nsFind->UC,cellsFrom->UE,slicePick->UH,seqItems?->UI,Model->UM,atKey->UN,getAttr->UR,bindL->UU,bindC->UW,call->UY,field->U0
open PySem.Around renaming under->S1,under_plainId->TM
open PySem.Builtin.List renaming listTooLong->P0
open PySem.Builtin.Slice renaming slicePlaces->Ox,sliceApplied->Pz,sliceAdjust->Qy,sliceFields->Sg
open PySem.Builtin.SmallTypes renaming nextOf->NW,ownedTupleIsFree->OS,ownedTupleHandOut->QA
open PySem.Builtin.Tuple renaming tupleExact->Oo,tupleItemsOf->Qq
open PySem.Calls renaming Name_function_global->RW,callWith_builtin->S6
open PySem.Code renaming quiet_builtin->Uj,isFrame->Ur
open PySem.EntryCells renaming newEntry->T3
open PySem.F renaming slot_tuple_iterator_next->OZ,plainAttrs_list->P7,slot_zip_next->Qj,args_tuple_add_2->QE,args_tuple_iterator_next_1->QK,entry_tuple_add->QS,entry_tuple_iterator_next->QV,slot_tuple_add->Q5,plain_sum_loop->Rv,slot_dict_itemiterator_iter->RE,slot_dict_getitem->Sh,slot_list_extend->SI,type_list_extend->SJ,args_zip_next_1->SV,attr_ValueError->SW,entry_zip_next->Tc
open PySem.Heap renaming get?_push_of_some->pC,lt_size->Na,get?_push_size->Nh,size_push->Oh,get?_update_other->Oz,get?_update_self->OR,SameBut->PU,get?_update_ne->QC,get?_none_of_le->RA,ExtBut->Tz,get?_push_at->Ux
open PySem.Heap.DictOf renaming new->UQ
open PySem.Heap.IsSliceOf renaming new->R6
open PySem.Heap.SameBut renaming update->TZ
open PySem.Obj renaming mapFields->P1,data_mapFields->QL,isFreed_of_fields->Rm,mapSeq->S5,cls_mapFields->Uw
open PySem.PassesOwn renaming never->NH
open PySem.PyData renaming keyHash->Sd
open PySem.SeqAt renaming EqAt->OT
open PySem.SeqAt.EqAt renaming int_str->Ua,str_int->Ub
open PySem.Shared renaming heap->UO
open PySem.Str renaming empty->Nt,ofString->Oi,length->S4
open PySem.Txt renaming slice->O8,mul->Ss,slice_le->Uo
open PySem.Value renaming isStrOf->Sv
open PySem.W renaming Frag->bN,findIn->Of,emptyDict->OO,instObj->Pb,keepIn->Pd,mg_none_of->Pg,hasDictIn->P9,mg_of->QF,cellsFrom_some->Q3,fnOf->Q4,takerIn->Rg,kitOne->RL,OpenLaw->RP,methodObj->Si,lookIn->Sx,codeIn->Sy,plainGet->SM,callWith_K->Ue,codeRec_of->Ug,plainOver->Up,looks_findIn->Uy,handedIn->UD,makesIn->UP,kitAny->U1,WalkO->U3
open Sum.inr renaming inj->Ow
abbrev U4:List PySem.Str:=["_law_feed_here","_law_scene","_law_around","_law_room","_law_down","_law_form","_law_share","_law_x","_law_y","_law_one","_law_other","_law_some","_law_name","_law_many"]
abbrev U5:List PySem.Str:=["_law_feed_here","_law_room","_law_names_here","_law_kinds","_law_scene","_law_name","_law_tags","_law_told_here","_law_opens","_law_defs","_law_k","_law_params"]
abbrev U6:List PySem.Str:=["_law_feed_here","_law_scene","_law_around","_law_room","_law_down"]
abbrev U7:List PySem.Str:=["_law_feed_here","_law_many"]
abbrev U8:List PySem.Str:=["_law_feed_here","_law_scene","_law_around","_law_share","_law_down","_law_name","_law_tags","_law_first","_law_arms","_law_t","_law_inner","_law_turn","_law_own"]
abbrev U9:List PySem.Str:=["_law_scope","_law_arms","_law_t","_law_names_here","_law_inner","_law_some","_law_told_here","_law_twice"]
abbrev Va:List PySem.Str:=["_law_feed_here","_law_program","_law_words","_law_kinds","_law_defs","_law_word","_law_form","_law_at","_law_spot","_law_f","_law_params","_law_term"]
abbrev Vb:List PySem.Str:=["_law_feed_here","_law_many","_law_letters","_law_stem","_law_first","_law_at","_law_turn","_law_kept","_law_found","_law_k","_law_sign","_law_name"]
abbrev Vc:List PySem.Str:=["_law_program","_law_scope","_law_fault","_law_f","_law_params","_law_term","_law_around","_law_x","_law_kind"]
abbrev Vd:List PySem.Str:=["_law_feed_here","_law_told_here","_law_word","_law_f","_law_params","_law_term","_law_form","_law_at","_law_x","_law_kind","_law_fresh"]
abbrev Ve:List PySem.Str:=["_law_scope","_law_term","_law_around","_law_fault","_law_some","_law_inner","_law_own"]
abbrev Vf:List PySem.Str:=["_law_scope","_law_term","_law_around"]
abbrev Vg:List PySem.Str:=["_law_feed_here","_law_told_here","_law_word","_law_name","_law_tags","_law_at","_law_t","_law_inner","_law_form","_law_spot"]
abbrev Vh:List PySem.Str:=["_law_script","_law_program","_law_words","_law_turn","_law_feed_here","_law_other","_law_change","_law_due_here"]
abbrev Vi:List PySem.Str:=["_law_t","_law_names_here","_law_inner"]
abbrev Vj:List PySem.Str:=["_law_feed_here","_law_names_here","_law_found","_law_at","_law_k","_law_own","_law_j","_law_some"]
abbrev Vk:List PySem.Str:=["_law_scope","_law_kinds","_law_name","_law_tags","_law_t","_law_inner","_law_kind","_law_fault"]
abbrev Vl:List PySem.Str:=["_law_feed_here","_law_ahead","_law_opens"]
abbrev Vm:List PySem.Str:=["_law_feed_here","_law_scene","_law_around","_law_share","_law_down"]
abbrev Vn:List PySem.Str:=["_law_feed_here","_law_ahead","_law_opens","_law_form","_law_found","_law_turn"]
abbrev Vo:List PySem.Str:=["_law_feed_here","_law_scene","_law_around","_law_form"]
abbrev Vp:List PySem.Str:=["_law_x","_law_feed_here","_law_told_here","_law_opens"]
abbrev Vq:List PySem.Str:=["_law_feed_here","_law_told_here","_law_word"]
abbrev Vr:List PySem.Str:=["_law_t","_law_names_here","_law_inner","_law_around"]
abbrev Vs:List PySem.Str:=["tag","name","inner"]
abbrev Vt:List PySem.Str:=["name","tags","tag","inner"]
abbrev Vu:List PySem.Str:=["params","term","told","waiting","names","here"]
abbrev Vv:List PySem.Str:=["_law_scope","_law_kind","_law_fixed"]
abbrev Vw:List PySem.Str:=["_law_program","_law_caught","_law_found","e","_law_sorts","_law_others"]
abbrev Vx:List PySem.Str:=["_law_i","_law_feed_here","_law_names_here","_law_k"]
abbrev Vy:List PySem.Str:=["program","kinds","defs","known","name","params","term","names","here"]
abbrev Vz:List PySem.Str:=["_law_t","_law_inner"]
abbrev VA:List PySem.Str:=["tag","names","inner"]
abbrev VB:List PySem.Str:=["_law_k","_law_names_here"]
abbrev VC:List PySem.Str:=["_law_scope","_law_term","_law_around","_law_word","_law_there"]
abbrev VD:List PySem.Str:=["arms","known","tag","names","inner","kind"]
abbrev VE:List PySem.Str:=["_law_feed_here","_law_scene","_law_around"]
abbrev VF:List PySem.Str:=["self","name"]
abbrev VG:List PySem.Str:=["kinds","ahead","tags_ahead","name","tags","tag","inner"]
abbrev VH:List PySem.Str:=["_law_feed_here","_law_word","_law_found","_law_turn"]
abbrev VI:List PySem.Str:=["self","program"]
abbrev VJ:List PySem.Str:=["name","things","counts"]
abbrev VL:List PySem.Str:=["_law_scope","_law_kind","_law_fixed","_law_leaf"]
abbrev VM:List PySem.Str:=["_law_feed_here","_law_word"]
abbrev VN:List PySem.Str:=["params","known","ahead","name","kind","core"]
abbrev VO:List PySem.Str:=["_law_j","_law_scene","_law_turn"]
abbrev VP:List PySem.Str:=["_law_feed_here","_law_program","_law_words"]
abbrev VQ:List PySem.Str:=["others","inner","names"]
abbrev VR:List PySem.Str:=["_law_program"]
abbrev VS:List PySem.Str:=["_law_k","_law_feed_here","_law_letters"]
abbrev VT:List PySem.Str:=["_law_feed_here","_law_names_here"]
abbrev VU:List PySem.Str:=["program","kinds","defs"]
abbrev VW:List PySem.Str:=["names","others","other"]
abbrev VX:List PySem.Str:=["_law_term"]
abbrev VY:List PySem.Str:=["_law_name","_law_tags"]
abbrev VZ:List PySem.Str:=["inner","ahead","kind","core"]
abbrev V0:List PySem.Str:=["term","names","known","form"]
abbrev V1:List PySem.Str:=["_law_feed_here","_law_room"]
abbrev V2:List PySem.Str:=["name","tags"]
abbrev V3:List PySem.Str:=["_law_x","_law_kind"]
abbrev V4:List PySem.Str:=["_law_scope","_law_kinds"]
abbrev V5:List PySem.Str:=["_law_t","_law_told_here"]
abbrev V6:List PySem.Str:=["n","ahead"]
abbrev V7:List PySem.Str:=["_law_kind"]
abbrev V8:List PySem.Str:=["_law_scope","_law_arms"]
abbrev V9:List PySem.Str:=["_law_script","_law_k"]
abbrev Wa:List PySem.Str:=["term","names","known"]
abbrev Wb:List PySem.Str:=["program"]
abbrev Wc:List PySem.Str:=["name","other"]
abbrev Wd:List PySem.Str:=["param","kind"]
abbrev We:List PySem.Str:=["names"]
namespace L2
open PySem PySem.Spec PyProof.Rows
abbrev Key:=Sum Int Str
noncomputable def rX:Key->eF->Bool
 |.inl k,v=>Value.isInt k v
 |.inr x,v=>Sv x v
noncomputable def K9(w:Nn):Key->Int
 |.inl k=>hashInt k
 |.inr x=>hashStr w x
theorem er :∀{k:Key}{v:eF},rX k v=true->(∃i t,k=Sum.inl i/\v=Value.int i t)\/(∃x t,k=Sum.inr x/\v=Value.str x t)
 |.inl i,v,h=>by
  have(t,e):=eF.isInt_shape (k:=i) (v:=v) h;exact .inl #[i,t,rfl,e]
 |.inr x,v,h=>by
  have(t,e):=eF.isStrOf_shape (x:=x) (v:=v) h;exact .inr #[x,t,rfl,e]
theorem AJ (i:Int)(t:Tok):rX (.inl i) (.int i t)=true:=by simp[rX,Value.isInt]
theorem AK (x:Str)(t:Tok):rX (.inr x) (.str x t)=true:=by simp[rX,Sv]
theorem G8 (a b:Int):decide ((Sum.inl a:Key)=Sum.inl b)=(a == b):=by
 by_cases e:a=b
 .subst e;simp
 .have h:¬(Sum.inl a:Key)=Sum.inl b:=λq=>e (Sum.inl.inj q);rw[decide_eq_false h];exact(beq_eq_false_iff_ne.mpr e).symm
theorem G9 (a b:Str):decide ((Sum.inr a:Key)=Sum.inr b)=decide (a=b):=by
 by_cases e:a=b
 .subst e;simp
 .have h:¬(Sum.inr a:Key)=Sum.inr b:=λq=>e (Ow q);rw[decide_eq_false h,decide_eq_false e]
theorem Hl (a:Int)(b:Str):decide ((Sum.inl a:Key)=Sum.inr b)=false:=decide_eq_false nofun
theorem Ho (a:Str)(b:Int):decide ((Sum.inr a:Key)=Sum.inl b)=false:=decide_eq_false nofun
noncomputable def bf(prog:IF)(w:Nn):PySem.KeyKind prog w Key where
 is:=rX
 hash:=K9 w
 inj:=λv a b m g=>by
  rcases er m with⟨i,t,rfl,rfl⟩|⟨x,t,rfl,rfl⟩
  .rcases er g with⟨j,u,rfl,e⟩|⟨y,u,rfl,e⟩
   .injection e with e1 _;rw[e1]
   .exact nomatch e
  .rcases er g with⟨j,u,rfl,e⟩|⟨y,u,rfl,e⟩
   .exact nomatch e
   .injection e with e1 _;rw[e1]
 byValue:=λk v h=>by
  rcases er h with⟨i,t,rfl,rfl⟩|⟨x,t,rfl,rfl⟩<;>rfl
 pyHash:=λd h=>by
  rcases er d with⟨i,t,rfl,rfl⟩|⟨x,t,rfl,rfl⟩
  .exact wpAny_pyHash_int h
  .exact wpAny_pyHash_str h
 eqBool:=λl d h=>by
  rcases er l with⟨i,t,rfl,rfl⟩|⟨x,t,rfl,rfl⟩
  .rcases er d with⟨j,u,rfl,rfl⟩|⟨y,u,rfl,rfl⟩
   .rw[G8]at h;exact wpAny_eqBool_int h
   .rw[Hl]at h;exact Ua i t y u _ _ _ _ h
  .rcases er d with⟨j,u,rfl,rfl⟩|⟨y,u,rfl,rfl⟩
   .rw[Ho]at h;exact Ub x t j u _ _ _ _ h
   .rw[G9]at h;exact wpAny_eqBool_str h
 «strs»:=λk x t v h=>by
  rcases er h with⟨i,u,rfl,e⟩|⟨y,u,rfl,e⟩
  .exact nomatch e
  .injection e with e1 _;subst e1
   cases v<;>rfl
theorem wY (prog:IF)(w:Nn)(i:Int)(t:Tok):(bf prog w).is (.inl i) (.int i t)=true:=AJ i t
theorem wZ (prog:IF)(w:Nn)(x:Str)(t:Tok):(bf prog w).is (.inr x) (.str x t)=true:=AK x t
set_option genInjectivity true in
inductive V where
 |eN|bl (b:Bool)|int (i:Int)|str (x:Str)|byt (b:Array UInt8)|flt (b:UInt64)|ref (a:Addr)|ty (n:String)
 deriving DecidableEq
def RelV:V->eF->Prop
 |.eN,u=>u=Value.none
 |.bl b,u=>u=Value.bool b
 |.int i,u=>∃t,u=Value.int i t
 |.str x,u=>∃t,u=Value.str x t
 |.byt b,u=>∃t,u=Value.bytes b t
 |.flt b,u=>∃t,u=Value.float b t
 |.ref a,u=>u=Value.ref a
 |.ty n,u=>u=Value.type n
abbrev Vals:List V->List eF->Prop:=Paired RelV
theorem Vals.length (r:Vals xs us):xs.length=us.length:=Paired.length r
theorem Vals.get :∀{xs:List V}{us:List eF}{i:Nat}{x:V},Vals xs us->xs[i]?=some x->∃u,us[i]?=some u/\RelV x u
 |_,_,_,_,.nil,e=>by simp at e
 |_,_,0,_,.cons r _,e=>by simp at e;subst e;exact#[_,rfl,r]
 |_,_,i+1,x,.cons _ t,e=>by
  have(u,g,d):=Vals.get (i:=i) (x:=x) t (by simpa using e);exact#[u,by simpa using g,d]
theorem Vals.set (r:RelV x u):∀{xs:List V}{us:List eF}(i:Nat),Vals xs us->Vals (xs.set i x) (us.set i u)
 |_,_,_,.nil=>.nil
 |_,_,0,.cons _ t=>.cons r t
 |_,_,i+1,.cons q t=>.cons q (Vals.set r i t)
theorem Vals.append :∀{xs ys:List V}{us d:List eF},Vals xs us->Vals ys d->Vals (xs++ys) (us++d)
 |_,_,_,_,.nil,s=>s
 |_,_,_,_,.cons r t,s=>.cons r (Vals.append t s)
theorem Vals.take :∀{xs:List V}{us:List eF}(n:Nat),Vals xs us->Vals (xs.take n) (us.take n)
 |_,_,0,_=>.nil
 |_,_,_+1,.nil=>.nil
 |_,_,n+1,.cons r t=>.cons r (Vals.take n t)
theorem Vals.drop :∀{xs:List V}{us:List eF}(n:Nat),Vals xs us->Vals (xs.drop n) (us.drop n)
 |_,_,0,r=>r
 |_,_,_+1,.nil=>.nil
 |_,_,n+1,.cons _ t=>Vals.drop n t
theorem Vals.none_of :∀{xs:List V}{us:List eF}{i:Nat},Vals xs us->xs[i]?=none->us[i]?=none:=λ{xs us i} r e=>by
 have g:=r.length;have d:xs.length<=i:=Qx.mp e;exact Qx.mpr ()
def lA:Option V->Option eF->Prop
 |some v,some u=>RelV v u
 |none,none=>True
 |_,_=>False
def KV{d:Type}:List (d×V)->List (d×eF)->Prop:=Paired λ(p:d×V) (q:d×eF)=>p.1=q.1/\RelV p.2 q.2
noncomputable def kV:Key->V
 |.inl i=>.int i
 |.inr x=>.str x
inductive HO where
 /-- a list -/
 |lst (xs:List V)
 /-- a tuple (never changes) -/
 |tup (xs:List V)
 /-- a dict whose keys are ints and texts;one whose keys are tuples of ints and texts (the empty one is both) -/
 |dK (kvs:List (Key×V))|dT (kvs:List (List Key×V))
 /-- a set of ints: its members,its size -/
 |set (S:Int->Bool) (n:Nat)
 /-- an instance of the class at C,its dict at dx,its attributes -/
 |ins (C dx:Addr) (fs:List (Str×V))
 /-- the dict of the instance at x -/
 |own (x:Addr)
 /-- the dict of an exception -/
 |xd (fs:List (Str×V))
 /-- a bound method,f of x -/
 |met (f x:Addr)
 /-- a range object lo,lo+1,.. below hi -/
 |rng (lo hi:Int)
 /-- a thing that is known to the object (the script;a dict while a loop walks it): read,never written while it is so -/
 |nC (o:Obj) (u:HO)
 /-- a code object's table -/
 |tbl (ps:Array eF)
 /-- any other thing,by what is true of its one object (a def of one's own: SetO a S n:=HO.ext λh=>..) -/
 |ext (φ:Heap->Prop)
abbrev Hp:=Addr->Option HO
noncomputable def upd(H:Hp)(a:Addr)(o:HO):Hp:=λb=>if b=a then some o else H b
theorem af :upd H a o a=some o:=by unfold upd;rw[if_pos rfl]
theorem au (h:b≠a):upd H a o b=H b:=by unfold upd;rw[if_neg h]
theorem jr {H:Hp}(h:H a=some o)(h':H b=some u)(d:o≠u):a≠b:=by
 intro e;subst e;rw[h]at h';exact d (Nk h')
theorem ay {H:Hp}(h:H a=some o)(h':H b=none):a≠b:=by
 intro e;subst e;rw[h]at h';cases h'
section
variable (P:IF) (w:Nn)
def Mj(h:Heap)(a:Addr):Prop:=∃o,h.get? a=some o/\o.dict=none
def eM(H:Hp)(h:Heap)(a:Addr):HO->Prop
 |.lst e=>e.length<=mH/\∃(d:List eF) (n:Nat),Vals e d/\h.get? a=some {cls:=.type "list",data:=.seq d.toArray n}
 |.tup e=>e.length<=mH/\∃d:List eF,Vals e d/\UT h a d.toArray/\Mj h a
 |.dK kvs=>kvs.length<=mH/\(a == OV)=false/\∃j,KV kvs j/\h.DictOf (bf P w) a j
 |.dT kvs=>kvs.length<=mH/\(a == OV)=false/\∃e:List (List Key×Addr×eF),
   Paired (λ(p:List Key×V) (q:List Key×Addr×eF)=>p.1=q.1/\H q.2.1=some (.tup (p.1.map kV))/\RelV p.2 q.2.2) kvs e /\
   ∃o r y,h.get? a=some o/\o.ExactDict/\o.data=.dict r y/\r.toList=e.map (entryOfKey (TQ (bf P w)))/\(e.map (·.1)).Nodup
 |.set S n=>h.SetOf (intKind P w) a S n
 |.ins C dx fs=>H dx=some (.own a)/\fs.length<=1000/\dx≠a/\h.get? a=some (Pb C dx) /\
   ∃g,h.Ns1 dx g/\(∀f,lA (fs.lookup f) (g f))/\SX g (fs.map (·.1))
 |.own _=>∃o,h.get? a=some o
 |.xd fs=>∃g,h.Ns1 a g/\∀f,lA (fs.lookup f) (g f)
 |.rng lo hi=>∃t u v,h.get? a=some {cls:=.type "range",data:=.fields #[.int lo t,.int hi u,.int 1 v,]}
 |.nC o u=>h.get? a=some o/\eM H h a u
 |.tbl ps=>h.get? a=some {cls:=.none,data:=.fields ps}
 |.met f x=>h.get? a=some (Si (.ref f) (.ref x))
 |.ext φ=>φ h/\(∃o,h.get? a=some o)/\∀m l:Heap,φ m->(∀o,m.get? a=some o->l.get? a=some o)->φ l
def mL(H:Hp)(h:Heap):Prop:=∀a o,H a=some o->eM P w H h a o
end
theorem eM.lt (x:eM P w H h a o):a<h.objs.size:=by
 cases o with
 |lst xs=>have(_,_,_,_,e):=x;exact Na e
 |tup xs=>have(_,_,_,p,_):=x;exact p.lt
 |dK kvs=>have(_,_,_,_,o,_,_,e,_):=x;exact Na e
 |dT kvs=>have(_,_,_,_,o,_,_,e,_):=x;exact Na e
 |set S n=>have(o,_,_,_,e,_):=x;exact Na e
 |ins C dx fs=>have(_,_,_,e,_):=x;exact Na e
 |own y=>have(_,e):=x;exact Na e
 |xd fs=>have(_,(_,_,_,e,_),_):=x;exact Na e
 |rng lo hi=>have(_,_,_,e):=x;exact Na e
 |nC ob u=>have(e,_):=x;exact Na e
 |tbl ps=>exact Na (show h.get? a=some _ from x)
 |met f y=>exact Na (show h.get? a=some _ from x)
 |ext φ=>have(_,(_,e),_):=x;exact Na e
theorem Paired.Ec {F G:e->d->Prop}:∀{l₁:List e}{l₂:List d},Paired F l₁ l₂->(∀a b,F a b->G a b)->Paired G l₁ l₂
 |_,_,.nil,_=>.nil
 |_,_,.cons r t,f=>.cons (f _ _ r) (Paired.Ec t f)
theorem Paired.imp' {F G:e->d->Prop}(f:∀a b,F a b->G a b){l₁:List e}{l₂:List d}(r:Paired F l₁ l₂):Paired G l₁ l₂:=Paired.Ec r f
theorem eM.stay (x:eM P w H h a o)(k:∀b u,(b=a\/H b=some (.own a))->h.get? b=some u->h'.get? b=some u)(ho:∀b,H b=some (.own a)->H' b=some (.own a))(ht:∀b xs,H b=some (.tup xs)->H' b=some (.tup xs)):eM P w H' h' a o:=by
 induction o with
 |lst xs=>have(z,m,n,r,e):=x;exact#[z,m,n,r,k _ _ (.inl rfl) e]
 |tup xs=>have(z,m,r,(g,e,c),L,G,N):=x;exact#[z,m,r,#[g,k _ _ (.inl rfl) e,c],L,k _ _ (.inl rfl) G,N]
 |dK kvs=>have(z,y,J,r,g,j,l,e,c):=x;exact#[z,y,J,r,g,j,l,k _ _ (.inl rfl) e,c]
 |dT kvs =>
  have(z,y,xs,r,g,j,l,e,c):=x;exact#[z,y,xs,Paired.Ec r λp q z=>#[z.1,ht _ _ z.2.1,z.2.2],g,j,l,k _ _ (.inl rfl) e,c]
 |set S n=>have(g,j,l,t,e,c):=x;exact#[g,j,l,t,k _ _ (.inl rfl) e,c]
 |ins C dx fs =>
  have(d,z,M,e,D,(B,j,l,G,c),r):=x;exact#[ho _ d,z,M,k _ _ (.inl rfl) e,D,#[B,j,l,k _ _ (.inr d) G,c],r]
 |own y=>have(g,e):=x;exact#[g,k _ _ (.inl rfl) e]
 |xd fs=>have(D,(B,j,l,e,c),r):=x;exact#[D,#[B,j,l,k _ _ (.inl rfl) e,c],r]
 |rng lo hi=>have(t,u,v,e):=x;exact#[t,u,v,k _ _ (.inl rfl) e]
 |nC g u ih=>have(e,q):=x;exact#[k _ _ (.inl rfl) e,ih q]
 |tbl ps =>
  have e:h.get? a=some {cls:=.none,data:=.fields ps}:=x;show h'.get? a=some {cls:=.none,data:=.fields ps};exact k a _ (.inl rfl) e
 |met f y =>
  have e:h.get? a=some (Si (.ref f) (.ref y)):=x;show h'.get? a=some (Si (.ref f) (.ref y));exact k a _ (.inl rfl) e
 |ext φ=>have(p,(o,e),I):=x;exact#[I _ _ p λo q=>k _ _ (.inl rfl) q,#[o,k _ _ (.inl rfl) e],I]
theorem mL.lt (x:mL P w H h)(e:H a=some o):a<h.objs.size:=(x a o e).lt
theorem mL.fresh (x:mL P w H h)(e:h.objs.size<=a):H a=none:=by
 cases q:H a with
 |none=>rfl
 |some u=>exact absurd (Ni (x.lt q) e) (Om _)
theorem mL.kept (x:mL P w H h)(k:∀b u,h.get? b=some u->h'.get? b=some u):mL P w H h':=λa o e =>
 (x a o e).stay (λb u _ q=>k b u q) (λ_ q=>q) λ_ _ q=>q
theorem mL.laid (x:mL P w H h)(k:∀b u,h.get? b=some u->h'.get? b=some u)(j:h.objs.size<=a)(new:eM P w (upd H a o) h' a o):mL P w (upd H a o) h':=λb u e=>by
 have d:=x.fresh j
 by_cases g:b=a
 .subst g;rw[af]at e;cases e;exact new
 .rw[au g]at e;exact(x b u e).stay (λc v _ q=>k c v q) (λc q=>by rw[au (ay q d)];exact q) λc l q=>by rw[au (ay q d)];exact q
def Rd(H:Hp)(a:Addr)(u:HO):Prop:=H a=some u\/∃o,H a=some (.nC o u)
theorem Rd.ok (r:Rd H a u)(x:mL P w H h):eM P w H h a u:=by
 rcases r with r|⟨o,r⟩
 .exact x a u r
 .have(_,q):=x a _ r;exact q
def Jv:Option HO->Prop
 |some (.lst _)=>True
 |some (.dK _)=>True
 |some (.dT _)=>True
 |some (.set _ _)=>True
 |some (.ins _ _ _)=>True
 |some (.ext _)=>True
 |_=>False
theorem mL.write (ok:mL P w H h)(m:Jv (H x))(B:e=x\/H e=some (.own x))(k:∀b u,b≠e->h.get? b=some u->h'.get? b=some u)(p:∃u,h'.get? e=some u)(new:eM P w (upd H x o') h' x o'):mL P w (upd H x o') h':=λb u q=>by
 have g:∀c y,H c=some (.own y)->c≠x:=λc y r z=>by subst z;rw[r]at m;exact m
 have j:∀c l,H c=some (.tup l)->c≠x:=λc l r z=>by subst z;rw[r]at m;exact m
 by_cases o:b=x
 .subst o;rw[af]at q;cases q;exact new
 .rw[au o]at q
  by_cases d:b=e
  .have t:H b=some (.own x):=by
    rcases B with z|z
    .exact absurd (d.trans z) o
    .rw[d];exact z
   rw[q]at t;cases t;have(v,C):=p;exact#[v,by rw[d];exact C]
  .refine(ok b u q).stay (λc v hc r=>k c v ?_ r) (λc r=>by rw[au (g c b r)];exact r) λc l r=>by rw[au (j c l r)];exact r
   rcases hc with rfl|hc
   .exact d
   .rintro rfl;rcases B with z|z
    .exact g c b hc z
    .rw[hc]at z;cases z;exact o rfl
structure Un(fs ex:List Addr) (H H':Hp) (h h':Heap):Prop where
 keep:∀b o,h.get? b=some o->H b=none->b∉fs->b∉ex->h'.get? b=some o
 slot:∀b o,h.get? b=some o->H b=none->b∈fs->b∉ex->∃sl,h'.get? b=some {o with slots:=sl}
 free:∀b o,h.get? b=some o->H b=none->b∉ex->H' b=none
 there:∀b o,h.get? b=some o->b∉ex->∃o',h'.get? b=some o'
 tups:∀b xs,H b=some (.tup xs)->H' b=some (.tup xs)
 frzs:∀b o u,H b=some (.nC o u)->H' b=some (.nC o u)
 tbls:∀b ps,H b=some (.tbl ps)->∃more,H' b=some (.tbl (ps++more))
theorem Un.any (u:Un fs ex H H1 h h1)(q:h.get? b=some d)(n:H b=none)(g:b∉ex):∃l,h1.get? b=some {d with slots:=l}:=by
 by_cases j:b∈fs
 .exact u.slot b d q n j g
 .exact#[d.slots,u.keep b d q n j g]
theorem Un.trans (a:Un fs ex H H1 h h1)(b:Un fs ex H1 H2 h1 h2):Un fs ex H H2 h h2 where
 keep:=λc d q n m g=>b.keep c d (a.keep c d q n m g) (a.free c d q n g) m g
 slot:=λc d q n m g=>by
  have(z,j):=a.slot c d q n m g;have(p,t):=b.slot c _ j (a.free c d q n g) m g;exact#[p,t]
 free:=λc d q n g=>by
  have(r,j):=a.there c d q g;exact b.free c r j (a.free c d q n g) g
 there:=λc d q g=>by
  have(r,j):=a.there c d q g;exact b.there c r j g
 tups:=λc l q=>b.tups c l (a.tups c l q)
 frzs:=λc d l q=>b.frzs c d l (a.frzs c d l q)
 tbls:=λc u q=>by
  have(y,j):=a.tbls c u q;have(v,t):=b.tbls c _ j;exact#[y++v,by rw[t,Uc]]
theorem Un.kept (k:∀b u,h.get? b=some u->h'.get? b=some u):Un fs ex H H h h' :=
 #[λb d q _ _ _=>k b d q,λb d q _ _ _=>#[d.slots,k b d q],λ_ _ _ n _=>n,λb d q _=>#[d,k b d q],λ_ _ q=>q,λ_ _ _ q=>q,λ_ g q=>#[#[],by rw[q];simp]]
theorem Un.refl :Un fs ex H H h h:=Un.kept λ_ _ q=>q
theorem Un.laid (k:∀b u,h.get? b=some u->h'.get? b=some u)(g:h.objs.size<=a)(hn:H a=none):Un fs ex H (upd H a o) h h' where
 keep:=λb u q _ _ _=>k b u q
 slot:=λb u q _ _ _=>#[u.slots,k b u q]
 free:=λb u q n _=>by rw[au (ND (Ni (Na q) g))];exact n
 there:=λb u q _=>#[u,k b u q]
 tups:=λb d q=>by rw[au (ay q hn)];exact q
 frzs:=λb u d q=>by rw[au (ay q hn)];exact q
 tbls:=λb j q=>#[#[],by rw[au (ay q hn),q];simp]
theorem Un.write (g:Jv (H x))(y:e=x\/H e=some (.own x))(k:∀b u,b≠e->h.get? b=some u->h'.get? b=some u)(l:∃u,h'.get? e=some u):Un fs ex H (upd H x o) h h':=by
 have m:∀b,H b=none->b≠x:=λb n z=>by subst z;rw[n]at g;exact g
 have p:∀b,H b=none->b≠e:=λb n z=>by
  subst z;rcases y with r|r
  .exact m b n r
  .rw[n]at r;cases r
 have j:∀b u,H b=some u->¬Jv (some u)->b≠x:=λb u q v z=>by subst z;rw[q]at g;exact v g
 refine#[λb u q n _ _=>k b u (p b n) q,λb u q n _ _=>#[u.slots,k b u (p b n) q],λb u q n _=>by rw[au (m b n)];exact n,λb u q _=>?_,
  λb t q=>by rw[au (j b _ q λz=>z)];exact q,λb u t q=>by rw[au (j b _ q λz=>z)];exact q,λb B q=>#[#[],by rw[au (j b _ q λz=>z),q];simp]]
 by_cases d:b=e
 .subst d;exact l
 .exact#[u,k b u d q]
noncomputable def KL(h:Heap)(H:Hp):List Addr:=(Pc h.objs.size).filter λa=>(H a).isSome
noncomputable def vE(h:Heap)(H:Hp):Heap:=PySem.W.hideAll h (KL h H)
theorem AL (h:Heap)(H:Hp):(vE h H).objs.size=h.objs.size:=PySem.W.hideAll_size _ _
theorem BX (e:h.get? b=some o)(n:H b=none):(vE h H).get? b=some o :=
 PySem.W.hideAll_get _ e λd=>by
  have q:(H b).isSome=true:=(Td.mp d).2;rw[n]at q;simp at q
theorem Ed (e:(vE h H).get? b=some o):h.get? b=some o/\H b=none:=by
 have d:h.get? b=some o:=PySem.W.of_hideAll (KL h H) e;refine#[d,?_]
 cases q:H b with
 |none=>rfl
 |some x =>
  have g:b∈KL h H:=Td.mpr #[Py.mpr (Na d),by simp[q]];have z:(vE h H).get? b=none:=PySem.W.hideAll_none (KL h H) g;rw[z]at e;cases e
structure Mod(K:bN) (mg:Str->Option eF) (base:Heap):Prop where
 kin:K.In base
 glob:base.Ns NC mg
 blt:∃mb,base.Ns builtinsNs mb/\∀x:Str,x≠"__name__"->mb x=QW x
 nolimit:base.NoLimit
structure Cx where
 prog:IF
 w:Nn
 K:bN
 mg:Str->Option eF
 base:Heap
 A:Nx
 N:List Str
 s₀:fy
 H₀:Hp
 env:Env
 outer:List Env
 stack:List Env
 ex:List Addr
 fn:Str->Bool
 calm:Bool
 pn:List (Addr×Obj)
 xe:eF->fy->Prop
noncomputable def frs(l:List Env):List Addr:=l.filterMap (·.frame)
noncomputable abbrev Cx.fs(X:Cx):List Addr:=frs X.outer
def Jw(d:OG)(x:Str):Prop:=d.names.lookup x=some .local\/d.names.lookup x=some .cell\/d.names.lookup x=some .free
def Loc(d:OG)(x:Str):Prop:=d.names.lookup x=some .local\/d.names.lookup x=some .cell
def Look(d:Env)(h:Heap)(m:Str->Option eF)(x:Str)(u:eF):Prop :=
 (d.kindOf x=some .local/\m x=some u)\/((d.kindOf x=some .cell\/d.kindOf x=some .free)/\∃c,d.cells.lookup x=some c/\h.IsCell c (some u))
structure Cx.Ok(X:Cx):Prop where
 mod:Mod X.K X.mg X.base
 kind:X.env.scope.kind=.function
 glob:X.env.globals=NC
 blt:X.env.builtins=builtinsNs
 above:X.s₀.heap.objs.size<=X.env.locals
 inj:∀x y c,X.env.cells.lookup x=some c->X.env.cells.lookup y=some c->x=y
 has:∀x,(X.env.kindOf x=some .cell\/X.env.kindOf x=some .free)->∃c,X.env.cells.lookup x=some c
 cab:∀x c,X.fn x=true->X.env.cells.lookup x=some c->X.s₀.heap.objs.size<=c
 hd:X.calm=true->X.A.handled=none
 frames:X.A.frames=some X.stack
 stk:X.stack=X.outer\/(X.stack=X.env::X.outer/\X.env.frame=some X.env.locals)
 exf:∀b∈X.ex,b≠X.env.locals/\∀x c,X.env.cells.lookup x=some c->c≠b
 bs:∀b o,X.base.get? b=some o->X.s₀.heap.get? b=some o/\X.H₀ b=none
 bsz:X.base.objs.size<=X.s₀.heap.objs.size
 noex:∀b o,X.base.get? b=some o->b∉X.ex
 exfs:∀b∈X.ex,b∉X.fs
 qz:X.s₀.heap.FunFrames X.base X.outer
 frf:∀b∈X.fs,X.H₀ b=none
structure Inv(X:Cx) (pins:List (Addr×Obj)) (σ:List (Option V)) (H:Hp) (s:fy):Prop where
 ok:X.Ok
 os:s.os=X.s₀.os
 bare:RS s.gens
 base:Un X.fs X.ex X.H₀ H X.s₀.heap s.heap
 loc:∃m,s.heap.Ns X.env.locals m/\∀(i:Nat) (x:Str) (v:V),X.N[i]?=some x->σ[i]?=some (some v)->Jw X.env.scope x->∃u,RelV v u/\Look X.env s.heap m x u
 cell:∀x c,X.env.cells.lookup x=some c->∃v,s.heap.IsCell c v
 free:H X.env.locals=none
 freeC:∀x c,X.env.cells.lookup x=some c->H c=none
 pin:∀p∈X.pn++pins,s.heap.get? p.1=some p.2/\H p.1=none/\p.1≠X.env.locals/\p.1∉X.fs/\∀v,p.2.data≠.cell v
 hok:mL X.prog X.w H s.heap
 len:σ.length=X.N.length
theorem Cx.Ok.La {X:Cx}(ok:X.Ok)(e:X.base.get? b=some o):b∉X.fs:=λd=>by
 have:=(ok.qz.mem d).1;rw[e]at this;cases this
theorem Inv.bs (I:Inv X pins σ H s):∀b o,X.base.get? b=some o->s.heap.get? b=some o/\H b=none:=λb o e =>
 #[I.base.keep b o (I.ok.bs b o e).1 (I.ok.bs b o e).2 (I.ok.La e) (I.ok.noex b o e),I.base.free b o (I.ok.bs b o e).1 (I.ok.bs b o e).2 (I.ok.noex b o e)]
theorem Inv.bk (I:Inv X pins σ H s):∀b o,X.base.get? b=some o->s.heap.get? b=some o:=λb o e=>(I.bs b o e).1
theorem Inv.mod (I:Inv X pins σ H s):Mod X.K X.mg X.base:=I.ok.mod
theorem Inv.rY (I:Inv X pins σ H s):X.K.In s.heap:=I.ok.mod.kin.keeps I.bk
theorem Inv.fr (I:Inv X pins σ H s):∃m,Fr X.base X.env.locals s.heap m :=
 let⟨m,hn,_⟩:=I.loc
 #[m,hn,I.bk,Nz I.ok.bsz I.ok.above]
theorem Inv.lt (I:Inv X pins σ H s):X.env.locals<s.heap.objs.size:=let⟨_,hn,_⟩:=I.loc;hn.lt
theorem Inv.sz (I:Inv X pins σ H s):X.s₀.heap.objs.size<=s.heap.objs.size:=Nz I.ok.above (Ot I.lt)
theorem Inv.Ef (I:Inv X pins σ H s)(h:s.heap.objs.size<=a):a∉X.fs:=λe=>by
 have(_,o,d,_):=I.ok.qz.mem e;exact absurd (Ni (Na d) (Nz I.sz h)) (Om _)
theorem Inv.Eg (I:Inv X pins σ H s):∀x c,X.env.cells.lookup x=some c->c≠X.env.locals:=λx c e z=>by
 have(v,o,j,hd):=I.cell x c e;have(m,(l,p,q,d,g,_),_):=I.loc;rw[z,d]at j;cases j;rw[g]at hd;cases hd
theorem Inv.qz (I:Inv X pins σ H s):s.heap.FunFrames X.base X.outer:=by
 have all:∀(l:List Env),(∀b∈frs l,b∈X.fs)->X.s₀.heap.FunFrames X.base l->s.heap.FunFrames X.base l:=by
  intro l
  induction l with
  |nil=>intro _ _;trivial
  |cons env r ih =>
   intro m t;have(u,(L,o,d,q,p,hd),hr):=t;have j:L∈X.fs:=m L (by unfold frs;rw[O2,d];exact OL);have(v,e):=I.base.slot L o p (I.ok.frf L j) j λz=>I.ok.exfs L z j;exact#[u,#[L,_,d,q,e,hd],ih (λb g=>m b (by unfold frs;rw[O2,d];exact Og _ g)) hr]
 exact all X.outer (λ_ g=>g) I.ok.qz
theorem Inv.stack (I:Inv X pins σ H s):s.heap.FunFrames X.base X.stack:=by
 rcases I.ok.stk with e|⟨e,hf⟩
 .rw[e];exact I.qz
 .rw[e];have(m,d,_):=I.loc;refine .cons (by rw[I.ok.kind];decide) hf d ?_ I.qz;exact RA (Nz I.ok.bsz I.ok.above)
theorem Inv.rZ (I:Inv X pins σ H s):∀b∈frs X.stack,b∈X.env.locals::X.fs:=λb d=>by
 rcases I.ok.stk with e|⟨e,hf⟩
 .rw[e]at d;exact Og _ d
 .rw[e]at d;unfold frs at d;rw[O2,hf]at d;exact d
theorem Inv.vF (I:Inv X pins σ H s):∀b∈frs X.stack,H b=none:=λb hb=>by
 rcases Nc.mp (I.rZ b hb)with e|hb
 .rw[e];exact I.free
 .have(_,o,d,_):=I.ok.qz.mem hb;exact I.base.free b o d (I.ok.frf b hb) λz=>I.ok.exfs b z hb
theorem Inv.step {ch:List Addr}(I:Inv X pins σ H s)(hch:∀b∈ch,(b∈X.ex\/X.s₀.heap.objs.size<=b)/\b≠X.env.locals/\(∀x c,X.env.cells.lookup x=some c->c≠b)/\∀p∈X.pn++pins,p.1≠b)(keep:∀b o,b≠X.env.locals->b∉X.fs->b∉ch->s.heap.get? b=some o->H b=none->h'.get? b=some o)(slot:∀b o,b≠X.env.locals->b∈X.fs->b∉ch->s.heap.get? b=some o->H b=none->∃N,h'.get? b=some {o with slots:=N})(free:∀b o,b∉ch->s.heap.get? b=some o->H b=none->H' b=none)(there:∀b o,b∉ch->s.heap.get? b=some o->∃G,h'.get? b=some G)(tups:∀b xs,H b=some (.tup xs)->H' b=some (.tup xs))(frzs:∀b o u,H b=some (.nC o u)->H' b=some (.nC o u))(tbls:∀b ps,H b=some (.tbl ps)->∃more,H' b=some (.tbl (ps++more)))(ns:∀m,s.heap.Ns X.env.locals m->h'.Ns X.env.locals m)(hok:mL X.prog X.w H' h')(hg:RS g'):
  Inv X pins σ H' {s with heap:=h',gens:=g',drawn:=d',toks:=t'}:=by
 have J:∀b o,X.s₀.heap.get? b=some o->b≠X.env.locals:=λb o e=>ND (Ni (Na e) I.ok.above)
 have y:∀b o,X.s₀.heap.get? b=some o->b∉X.ex->b∉ch:=λb o e g C=>by
  rcases(hch b C).1 with z|z
  .exact g z
  .exact absurd (Ni (Na e) z) (Om _)
 have t:∀x c,X.env.cells.lookup x=some c->∀v,s.heap.IsCell c v->h'.IsCell c v:=λx c e v ⟨o,D,hd⟩=>by
  have j:c∉ch:=λz=>(hch c z).2.2.1 x c e rfl
  by_cases S:c∈X.fs
  .have(N,q):=slot c o (I.Eg x c e) S j D (I.freeC x c e);exact#[_,q,hd]
  .exact#[o,keep c o (I.Eg x c e) S j D (I.freeC x c e),hd]
 refine#[I.ok,I.os,hg,#[λb o e n C g=>?_,λb o e n C g=>?_,λb o e n g=>?_,λb o e g=>?_,λb xs e=>tups b xs (I.base.tups b xs e),λb o xs e=>frzs b o xs (I.base.frzs b o xs e),λb ps e=>?_],?_,λx c e=>?_,?_,λx c e=>?_,λp R=>?_,hok,I.len]
 .exact keep b o (J b o e) C (y b o e g) (I.base.keep b o e n C g) (I.base.free b o e n g)
 .have(N,B):=I.base.slot b o e n C g;have(M,L):=slot b _ (J b o e) C (y b o e g) B (I.base.free b o e n g);exact#[M,L]
 .have(G,B):=I.base.there b o e g;exact free b G (y b o e g) B (I.base.free b o e n g)
 .have(G,B):=I.base.there b o e g;exact there b G (y b o e g) B
 .have(U,B):=I.base.tbls b ps e;have(T,L):=tbls b _ B;exact#[U++T,by rw[L,Uc]]
 .have(m,V,W):=I.loc;refine#[m,ns m V,λi x v B L Y=>?_];have(u,r,l):=W i x v B L Y;refine#[u,r,?_];rcases l with l|⟨k,c,e,z⟩
  .exact .inl l
  .exact .inr #[k,c,e,t x c e _ z]
 .have(v,z):=I.cell x c e;exact#[v,t x c e v z]
 .have(m,(o,_,_,D,_),_):=I.loc;exact free _ o (λz=>(hch _ z).2.1 rfl) D I.free
 .have(v,o,D,hd):=I.cell x c e;exact free c o (λz=>(hch c z).2.2.1 x c e rfl) D (I.freeC x c e)
 .have(e,n,Q,O,d):=I.pin p R;have j:p.1∉ch:=λz=>(hch p.1 z).2.2.2 p R rfl;exact#[keep p.1 p.2 Q O j e n,free p.1 p.2 j e n,Q,O,d]
theorem Inv.un (I:Inv X pins σ H s)(u:Un X.fs [] H H' s.heap h')(g:mL X.prog X.w H' h'):Inv X pins σ H' {s with heap:=h',toks:=t'}:=by
 have(m,(o,G,J,q,r),_):=id I.loc;have(B,y):=u.any q I.free (by simp)
 exact I.step (g':=s.gens) (d':=s.drawn) (ch:=[]) (λ_ z=>nomatch z) (λb o _ j _ e n=>u.keep b o e n j (by simp)) (λb o _ j _ e n=>u.slot b o e n j (by simp)) (λb o _ e n=>u.free b o e n (by simp)) (λb o _ e=>u.there b o e (by simp)) u.tups u.frzs u.tbls (λD v=>by
  have(C,l,p,d,t):=v;rw[q]at d;cases d;exact#[_,l,p,y,t]) g I.bare
theorem Inv.call (I:Inv X pins σ H s)(u:Un (frs X.stack) ch H H' s.heap h')(j:mL X.prog X.w H' h')(C:RS g')(hch:∀b∈ch,(b∈X.ex\/X.s₀.heap.objs.size<=b)/\b≠X.env.locals/\(∀x c,X.env.cells.lookup x=some c->c≠b)/\∀p∈X.pn++pins,p.1≠b):
  Inv X pins σ H' {s with heap:=h',gens:=g',drawn:=d',toks:=t'}:=by
 have(m,(o,M,N,v,r),_):=id I.loc;have(G,l):=u.any v I.free λz=>(hch _ z).2.1 rfl
 exact I.step (ch:=ch) hch (λb o l D d e n=>u.keep b o e n (λz=>(Nc.mp (I.rZ b z)).elim l D) d) (λb o _ _ d e n=>u.any e n d) (λb o d e n=>u.free b o e n d) (λb o d e=>u.there b o e d) u.tups u.frzs u.tbls (λL B=>by
  have(J,q,t,g,y):=B;rw[v]at g;cases g;exact#[_,q,t,l,y]) j C
theorem Inv.turned (I:Inv X pins σ H s)(k:∀b o,b≠it->s.heap.get? b=some o->h'.get? b=some o)(hn:H it=none)(j:it≠X.env.locals)(h1:it∈X.ex\/X.s₀.heap.objs.size<=it)(h2:∀x c,X.env.cells.lookup x=some c->c≠it)(h3:∀p∈X.pn++pins,p.1≠it):Inv X pins σ H {s with heap:=h',toks:=t'}:=by
 have g:∀b u,H b=some u->b≠it:=λb u e z=>by rw[z,hn]at e;cases e
 refine I.step (g':=s.gens) (d':=s.drawn) (ch:=[it]) (λb y=>?_) (λb o _ _ d e _=>k b o (λz=>d (by simp[z])) e) (λb o _ _ d e _=>#[o.slots,k b o (λz=>d (by simp[z])) e]) (λ_ _ _ _ n=>n)
  (λb o d e=>#[o,k b o (λz=>d (by simp[z])) e]) (λ_ _ e=>e) (λ_ _ _ e=>e) (λb D e=>#[#[],by rw[e];simp]) (λm t=>?_) (λb u e=>?_) I.bare
 .have e:b=it:=by simpa using y
  subst e;exact#[h1,j,h2,h3]
 .have(o,B,C,l,r):=t;exact#[o,B,C,k _ o (PR j) l,r]
 .refine(I.hok b u e).stay (λc v d q=>k c v ?_ q) (λ_ q=>q) λ_ _ q=>q;rcases d with z|z
  .rw[z];exact g b u e
  .exact g c _ z
theorem Inv.tok (I:Inv X pins σ H s)(t:Nat):Inv X pins σ H {s with toks:=t}:=I.un (h':=s.heap) (t':=t) Un.refl I.hok
theorem Inv.kept (I:Inv X pins σ H s)(k:∀b u,s.heap.get? b=some u->h'.get? b=some u):Inv X pins σ H {s with heap:=h',toks:=t'}:=I.un (Un.kept k) (I.hok.kept k)
theorem Inv.laid (I:Inv X pins σ H s)(k:∀b u,s.heap.get? b=some u->h'.get? b=some u)(d:s.heap.objs.size<=a)(new:eM X.prog X.w (upd H a o) h' a o):
  Inv X pins σ (upd H a o) {s with heap:=h',toks:=t'}:=I.un (Un.laid k d (I.hok.fresh d)) (I.hok.laid k d new)
theorem Inv.write (I:Inv X pins σ H s)(g:Jv (H x))(j:e=x\/H e=some (.own x))(k:∀b u,b≠e->s.heap.get? b=some u->h'.get? b=some u)(d:∃u,h'.get? e=some u)(new:eM X.prog X.w (upd H x o) h' x o):Inv X pins σ (upd H x o) {s with heap:=h',toks:=t'}:=I.un (Un.write g j k d) (I.hok.write g j k d new)
theorem Inv.weak (I:Inv X pins σ H s)(d:σ'.length=σ.length)(w:∀(i:Nat) v,σ'[i]?=some (some v)->σ[i]?=some (some v)):Inv X pins σ' H s :=
 #[I.ok,I.os,I.bare,I.base,let⟨m,hn,hl'⟩:=I.loc;#[m,hn,λi x v j g e=>hl' i x v j (w i v g) e],I.cell,I.free,I.freeC,I.pin,I.hok,d.trans I.len]
theorem Inv.fu (I:Inv X pins σ H s)(h:∀p∈d,s.heap.get? p.1=some p.2/\H p.1=none/\p.1≠X.env.locals/\p.1∉X.fs/\∀v,p.2.data≠.cell v):Inv X d σ H s :=
 #[I.ok,I.os,I.bare,I.base,I.loc,I.cell,I.free,I.freeC,λp e=>(L0.mp e).elim (λz=>I.pin p (NK _ z)) (h p),I.hok,I.len]
theorem se {N:List Str}(d:N.Nodup){i:Nat}(a:N[i]?=some x)(b:N[j]?=some x):i=j:=by
 have(m,g):=bH.mp a;have(l,e):=bH.mp b;exact(List.getElem_inj d).mp (g.trans e.symm)
theorem AM (I:Inv X pins σ H s)(hN:X.N.Nodup)(hi:X.N[i]?=some x)(B:Loc X.env.scope x)(r:RelV v u)(h:∀s',Inv X pins (σ.set i (some v)) H s'->(∃a,PU a s.heap s'.heap/\(a=X.env.locals\/X.env.cells.lookup x=some a))->Q Unit.unit s')(hf:X.fn x=true\/X.env.scope.names.lookup x=some .local:=by first|exact .inl rfl|exact .inr rfl|assumption):Nd M A (storeName X.env x u) Q E s:=by
 have(m,hn,hl):=id I.loc;have T:(X.env.scope.kind == .class||(X.env.scope.kind == .module&&X.env.locals != X.env.globals))=false:=by rw[I.ok.kind];rfl
 have G:i<σ.length:=by rw[I.len];exact(bH.mp hi).1
 have Eg:=I.Eg
 have l:∀{a:Addr}{h':Heap},(∃o,s.heap.get? a=some o/\H a=none)->PU a s.heap h'->mL X.prog X.w H h':=λ{a h'} ha g b ob e=>by
  have(_,_,C):=ha;refine(I.hok b ob e).stay (λc Y hc q=>(g.2 c ?_).trans q) (λ_ q=>q) λ_ _ q=>q;rintro rfl;rcases hc with rfl|hc
  .rw[C]at e;cases e
  .rw[C]at hc;cases hc
 rcases B with hk|hk
 .refine wpAny_storeName_local hk hn (λh' ab g=>?_) T;have(oL,_,_,aa,_):=id hn;refine h _ #[I.ok,I.os,I.bare,#[λb o e n O B=>?_,λb o e n O B=>?_,I.base.free,λb o e B=>?_,I.base.tups,I.base.frzs,I.base.tbls],#[_,ab,λj y v' t D e3=>?_],λy c e=>?_,I.free,I.freeC,λp hp=>?_,l #[oL,aa,I.free] g,by simpa using I.len] #[_,g,.inl rfl]
  .exact(g.2 b (ND (Ni (Na e) I.ok.above))).trans (I.base.keep b o e n O B)
  .have(sl,t):=I.base.slot b o e n O B;exact#[sl,(g.2 b (ND (Ni (Na e) I.ok.above))).trans t]
  .have(o',t):=I.base.there b o e B;exact#[o',(g.2 b (ND (Ni (Na e) I.ok.above))).trans t]
  .by_cases J:j=i
   .subst J;rw[hi]at t;cases t;rw[P8 G]at D
    cases D
    exact#[u,r,.inl #[hk,by simp]]
   .rw[Qn (PR J)]at D;have(u',r',q):=hl j y v' t D e3;refine#[u',r',?_];rcases q with⟨k,e⟩|⟨k,c,e,z⟩
    .refine .inl #[k,?_];have:y≠x:=λe=>J (se hN t (e▸hi));simp[this,e]
    .exact .inr #[k,c,e,z.sameBut g (Eg y c e)]
  .have(Y,z):=I.cell y c e;exact#[Y,z.sameBut g (Eg y c e)]
  .have(e,n,Z,nf,d):=I.pin p hp;exact#[(g.2 p.1 Z).trans e,n,Z,nf,d]
 .have L:X.fn x=true:=by
   rcases hf with z|z
   .exact z
   .rw[z]at hk;cases hk
  have(c,hc):=I.ok.has x (.inl hk);have(Y,z):=I.cell x c hc;refine wpAny_storeName_cell I.ok.kind hk hc z (λh' W g=>?_);have(oc,S,R):=id z;refine h {s with heap:=h'} #[I.ok,I.os,I.bare,#[λb o e n O B=>?_,λb o e n O B=>?_,I.base.free,λb o e B=>?_,I.base.tups,I.base.frzs,I.base.tbls],#[m,hn.sameBut g (PR (Eg x c hc)),λj y v' t D e3=>?_],λy c' e=>?_,I.free,I.freeC,λp hp=>?_,l #[oc,S,I.freeC x c hc] g,by simpa using I.len] #[c,g,.inr hc]
  .exact(g.2 b (ND (Ni (Na e) (I.ok.cab x c L hc)))).trans (I.base.keep b o e n O B)
  .have(sl,t):=I.base.slot b o e n O B;exact#[sl,(g.2 b (ND (Ni (Na e) (I.ok.cab x c L hc)))).trans t]
  .have(o',t):=I.base.there b o e B;exact#[o',(g.2 b (ND (Ni (Na e) (I.ok.cab x c L hc)))).trans t]
  .by_cases J:j=i
   .subst J;rw[hi]at t;cases t;rw[P8 G]at D
    cases D
    exact#[u,r,.inr #[.inl hk,c,hc,W]]
   .rw[Qn (PR J)]at D;have(u',r',q):=hl j y v' t D e3;refine#[u',r',?_];rcases q with q|⟨k,c',e,z'⟩
    .exact .inl q
    .refine .inr #[k,c',e,z'.sameBut g ?_];rintro rfl;exact J (se hN t (I.ok.inj _ _ _ e hc▸hi))
  .by_cases U:c'=c
   .subst U;exact#[_,W]
   .have(w2,z2):=I.cell y c' e;exact#[w2,z2.sameBut g U]
  .have(e,n,Z,nf,d):=I.pin p hp;refine#[(g.2 p.1 ?_).trans e,n,Z,nf,d];intro q;rw[q,S]at e;have q':oc=p.2:=Nk e;exact d Y (by rw[<-q'];exact R)
theorem kK (I:Inv X pins σ H s)(e:X.N.Nodup)(hi:X.N[i]?=some x)(d:Loc X.env.scope x)(r:RelV v u)(h:∀s',Inv X pins (σ.set i (some v)) H s'->Q Unit.unit s')(hf:X.fn x=true\/X.env.scope.names.lookup x=some .local:=by first|exact .inl rfl|exact .inr rfl|assumption):Nd M A (storeName X.env x u) Q E s :=
 AM I e hi d r (λs' g _=>h s' g) hf
theorem Inv.GA (I:Inv X pins σ H s)(j:s'.os=s.os)(u:Un (frs X.stack) ch H H' s.heap s'.heap)(d:mL X.prog X.w H' s'.heap)(l:RS s'.gens)(hch:∀b∈ch,(b∈X.ex\/X.s₀.heap.objs.size<=b)/\b≠X.env.locals/\(∀x c,X.env.cells.lookup x=some c->c≠b)/\∀p∈X.pn++pins,p.1≠b):Inv X pins σ H' s':=by
 have(h',g',d',t',g):=s';have e:g=s.os:=j;subst e;exact I.call (g':=g') (t':=t') (d':=d') u d l hch
abbrev XK:=eF->Option Addr->Hp->Prop
abbrev St:=List (Option V)
abbrev VK:=V->Hp->Prop
abbrev TE:=St->Hp->VK->Prop
abbrev TT:=St->Hp->(Bool->Hp->Prop)->Prop
abbrev TA:=St->Hp->(List V->Hp->Prop)->Prop
structure Ends where
 nx:St->Hp->Prop
 rt:VK
 bk:St->Hp->Prop:=λ_ _=>False
 ct:St->Hp->Prop:=λ_ _=>False
abbrev TS:=Ends->St->Hp->Prop
def EP(X:Cx)(d:List (Addr×Obj))(g:St)(Q:VK)(u:eF)(s':fy):Prop:=∃v e,Inv X d g e s'/\RelV v u/\Q v e
def TP(X:Cx)(d:List (Addr×Obj))(g:St)(Q:Bool->Hp->Prop)(b:Bool)(s':fy):Prop:=∃e,Inv X d g e s'/\Q b e
def AP(X:Cx)(d:List (Addr×Obj))(j:St)(Q:List V->Hp->Prop)(us:List eF)(s':fy):Prop:=∃e g,Inv X d j g s'/\Vals e us/\Q e g
def SP(X:Cx)(e:List (Addr×Obj))(D:Ends)(f:Flow)(s':fy):Prop :=
 match f with
 |.next=>∃d g,Inv X e d g s'/\D.nx d g
 |.brk=>∃d g,Inv X e d g s'/\D.bk d g
 |.cont=>∃d g,Inv X e d g s'/\D.ct d g
 |.ret u=>∃v d g,Inv X e d g s'/\RelV v u/\D.rt v g
def PE(X:Cx)(e:Expr)(t:TE):Prop :=
 ∀(d:List (Addr×Obj)) (s:fy) (g:St) (H:Hp) (Q:VK),Inv X d g H s->t g H Q->Nd (Nj X.prog X.w) X.A (eval e X.env) (EP X d g Q) X.xe s
def PT(X:Cx)(e:Expr)(t:TT):Prop :=
 ∀(d:List (Addr×Obj)) (s:fy) (g:St) (H:Hp) (Q:Bool->Hp->Prop),Inv X d g H s->t g H Q->Nd (Nj X.prog X.w) X.A (isTrue e X.env (eval e X.env)) (TP X d g Q) X.xe s
def PW(X:Cx)(e:Expr)(t:TT):Prop :=
 ∀(g:Sem eF) (d:List (Addr×Obj)) (s:fy) (j:St) (H:Hp) (Q:Bool->Hp->Prop),Inv X d j H s->t j H Q->Nd (Nj X.prog X.w) X.A (isTrue e X.env g) (TP X d j Q) X.xe s
theorem PW.pt (h:PW X e t):PT X e t:=h _
def PA(X:Cx)(j:List Expr)(t:TA):Prop :=
 ∀(g:Pos) (d:List (Addr×Obj)) (s:fy) (e:St) (H:Hp) (Q:List V->Hp->Prop),Inv X d e H s->t e H Q->Nd (Nj X.prog X.w) X.A (spliced (RV g (Ob j X.env))) (AP X d e Q) X.xe s
def PS(X:Cx)(st:Stmt)(t:TS):Prop :=
 ∀(d:List (Addr×Obj)) (s:fy) (e:St) (H:Hp) (D:Ends),Inv X d e H s->t D e H->Nd (Nj X.prog X.w) X.A (exec st X.env) (SP X d D) X.xe s
def qP(X:Cx)(st:List Stmt)(t:TS):Prop :=
 ∀(d:List (Addr×Obj)) (s:fy) (e:St) (H:Hp) (D:Ends),Inv X d e H s->t D e H->Nd (Nj X.prog X.w) X.A (execs st X.env) (SP X d D) X.xe s
theorem cR {t:Sem d}{Q e:d->fy->Prop}(h:Nd M A t Q E s)(g:∀a s,Q a s->e a s):Nd M A t e E s:=NG h g λ_ _ x=>x
def mO(i:Nat):TE:=λd H Q=>∃v,d[i]?=some (some v)/\Q v H
abbrev tC(v:V):TE:=λ_ H Q=>Q v H
theorem BY (t:X.N[i]?=some x)(o:Jw X.env.scope x)(hd:(x == ("__debug__":Str))=false:=by decide)(g:(x == ("__classdict__":Str))=false:=by decide):PE X (.Name x pos) (mO i):=by
 intro d s j H Q I h;have(v,e,h):=h;have(m,p,q):=I.loc;have(u,r,l):=q i x v t e o;have fin:EP X d j Q u s:=#[v,H,I,r,h];rcases l with⟨hk,hm⟩|⟨hk,c,hc,hcell⟩
 .exact wpAny_Name (wpAny_loadName_local I.ok.kind hk p hm fin) hd
 .rcases hk with hk|hk
  .exact wpAny_Name (wpAny_loadName_cell I.ok.kind hk hc hcell fin) hd
  .exact wpAny_Name (wpAny_loadName_free I.ok.kind hk hc hcell fin g) hd
theorem aC {i j pos}:PE X (.Constant (.int i) j pos) (tC (.int i)):=λ_ _ _ H _ I h=>wpAny_Constant_int #[.int i,H,I.tok _,#[_,rfl],h]
theorem mQ {b j pos}:PE X (.Constant (.bool b) j pos) (tC (.bl b)):=λ_ _ _ H _ I h=>Constant_bool #[.bl b,H,I,rfl,h]
theorem gv {j pos}:PE X (.Constant .none j pos) (tC .eN):=λ_ _ _ H _ I h=>Constant_none #[.eN,H,I,rfl,h]
theorem aG {x j pos}:PE X (.Constant (.str x) j pos) (tC (.str x)):=λ_ _ _ H _ I h=>Calls.Constant_str #[.str x,H,I.tok _,#[_,rfl],h]
def Gl(X:Cx)(x:Str):Prop:=X.env.kindOf x=some .globalImplicit
theorem pe (I:Inv X d e H s)(j:Gl X x)(g:X.mg x=some u)(h:Q u s)(hd:(x == ("__debug__":Str))=false:=by decide):Nd (Nj X.prog X.w) X.A (eval (.Name x pos) X.env) Q E s :=
 RW I.ok.kind j (Calls.loadGlobal_global (by rw[I.ok.glob];exact I.mod.glob.keeps I.bk) g h) hd
theorem qA (I:Inv X d e H s)(l:Gl X x)(j:X.mg x=none)(g:QW x=some u)(h:Q u s)(hn:x≠"__name__":=by decide)(hd:(x == ("__debug__":Str))=false:=by decide):Nd (Nj X.prog X.w) X.A (eval (.Name x pos) X.env) Q E s:=by
 have(p,o,m):=I.mod.blt;exact RW I.ok.kind l (Calls.loadGlobal_builtin (by rw[I.ok.glob];exact I.mod.glob.keeps I.bk) j (by rw[I.ok.blt];exact o.keeps I.bk) ((m x hn).trans g) h) hd
theorem iz (e:Gl X x)(d:X.mg x=some u)(r:RelV v u)(hd:(x == ("__debug__":Str))=false:=by decide):PE X (.Name x pos) (tC v) :=
 λ_ _ _ H _ I h=>pe I e d #[v,H,I,r,h] hd
theorem zD (g:Gl X x)(e:X.mg x=none)(d:QW x=some u)(r:RelV v u)(hn:x≠"__name__":=by decide)(hd:(x == ("__debug__":Str))=false:=by decide):PE X (.Name x pos) (tC v) :=
 λ_ _ _ H _ I h=>qA I g e d #[v,H,I,r,h] hn hd
def tB(t:TE):TT:=λd H Q=>t d H λx e=>∃c,x=.bl c/\Q c e
theorem sr {e:Expr}{t:TE}(h:PE X e t)(p:∀g,isTrue e X.env g=(do let v ←g;SY e.pos;Sj [v] (truthy v)):=by intro _;rfl):PT X e (tB t):=by
 intro j s l H Q I o;refine isTrue_plain (cR (h j s l H _ I o) λv y ⟨x,u,r,m,q1⟩=>?_) (p _);have(d,rfl,q):=q1
 cases m
 exact PV #[u,r,q]
abbrev Ml(u:TT)(e:St)(Q:Bool->Hp->Prop):Bool->Hp->Prop:=λc d=>if c=true then u e d Q else Q false d
abbrev Mm(u:TT)(e:St)(Q:Bool->Hp->Prop):Bool->Hp->Prop:=λc d=>if c=true then Q true d else u e d Q
abbrev Lb(t u:TT):TT:=λd H Q=>t d H (Ml u d Q)
abbrev Mn(t u:TT):TT:=λd H Q=>t d H (Mm u d Q)
def Lc(t:TT):TT:=λd H Q=>t d H λc e=>Q (!c) e
theorem fz {a:Expr}{pos:Pos}{tA:TT}(j:PT X a tA):PW X (.BoolOp .And [a] pos) tA:=by
 intro l d s g H Q I h;refine isTrue_and (cR (j d s g H Q I h) λc m e=>?_)
 cases c with
 |true=>exact isTrue_and_nil e
 |false=>exact e
theorem oM {a:Expr}{pos:Pos}{tA:TT}(j:PT X a tA):PW X (.BoolOp .Or [a] pos) tA:=by
 intro l d s g H Q I h;refine isTrue_or (cR (j d s g H Q I h) λc m e=>?_)
 cases c with
 |false=>exact isTrue_or_nil e
 |true=>exact e
theorem gz {a b:Expr}{pos:Pos}{tA tB':TT}{rest:List Expr}(p:PT X a tA)(o:PW X (.BoolOp .And (b::rest) pos) tB'):PW X (.BoolOp .And (a::b::rest) pos) (Lb tA tB'):=by
 intro l d s e H Q I h;refine isTrue_and (cR (p d s e H _ I h) λc m ⟨j,g,q1⟩=>?_)
 cases c with
 |true=>exact o l d m e j Q g q1
 |false=>exact#[j,g,q1]
theorem pq {a b:Expr}{pos:Pos}{tA tB':TT}{rest:List Expr}(p:PT X a tA)(o:PW X (.BoolOp .Or (b::rest) pos) tB'):PW X (.BoolOp .Or (a::b::rest) pos) (Mn tA tB'):=by
 intro l d s e H Q I h;refine isTrue_or (cR (p d s e H _ I h) λc m ⟨j,g,q1⟩=>?_)
 cases c with
 |true=>exact#[j,g,q1]
 |false=>exact o l d m e j Q g q1
theorem yE {a:Expr}{pos:Pos}{tA:TT}(g:PT X a tA):PT X (.UnaryOp .Not a pos) (Lc tA):=by
 intro d s e H Q I h;exact isTrue_not (g d s e H (λc j=>Q (!c) j) I h)
def bQ(K:bN)(H:Hp)(a:Addr)(xs:List V):Prop :=
 Rd H a (.lst xs) \/
  ∃(o:Obj) (d:Array eF) (n:Nat),K.lookup a=some o/\o.cls=.type "list"/\o.dict=none/\o.data=.seq d n/\d.size<=mH/\Vals xs d.toList
def cP(K:bN)(H:Hp)(a:Addr)(xs:List V):Prop :=
 Rd H a (.tup xs) \/
  ∃(o:Obj) (d:Array eF) (n:Nat),K.lookup a=some o/\o.cls=.type "tuple"/\o.data=.seq d n/\d.size<=mH/\Vals xs d.toList/\o.dict=none
noncomputable def Ld:eF->Option V
 |.none=>some .eN
 |.bool b=>some (.bl b)
 |.int i _=>some (.int i)
 |.str x _=>some (.str x)
 |.bytes b _=>some (.byt b)
 |.float b _=>some (.flt b)
 |.ref a=>some (.ref a)
 |.type n=>some (.ty n)
 |_=>none
theorem RelV.abs (r:RelV x u):Ld u=some x:=by
 cases x with
 |eN=>cases r;rfl
 |bl _=>cases r;rfl
 |int _=>have(t,rfl):=r;rfl
 |str _=>have(t,rfl):=r;rfl
 |byt _=>have(t,rfl):=r;rfl
 |flt _=>have(t,rfl):=r;rfl
 |ref _=>cases r;rfl
 |ty _=>cases r;rfl
theorem RelV.inj (r:RelV x u)(q:RelV y u):x=y:=Nk (r.abs.symm.trans q.abs)
theorem Vals.inj :∀{xs ys:List V}{us:List eF},Vals xs us->Vals ys us->xs=ys
 |_,_,_,.nil,.nil=>rfl
 |_,_,_,.cons r t,.cons r' t'=>by rw[r.inj r',Vals.inj t t']
theorem bQ.of {K:bN}(h:H a=some (.lst xs)):bQ K H a xs:=.inl (.inl h)
theorem cP.of {K:bN}(h:H a=some (.tup xs)):cP K H a xs:=.inl (.inl h)
theorem Inv.list (I:Inv X pins σ H s)(h:bQ X.K H a xs):∃d:List eF,Vals xs d/\PlainL s.heap a d.toArray/\xs.length<=mH:=by
 rcases h with h|⟨o,d,n,hk,hc,hd,hs,hz,r⟩
 .have(z,d,n,r,e):=h.ok I.hok;exact#[d,r,#[_,n,e,rfl,rfl,rfl],z]
 .refine#[d.toList,r,#[o,n,I.rY a o hk,hc,hd,by simpa using hs],?_];have e:=r.length;simp only[O3]at e;omega
theorem Inv.tuple (I:Inv X pins σ H s)(h:cP X.K H a xs):∃d:List eF,Vals xs d/\UT s.heap a d.toArray/\xs.length<=mH:=by
 rcases h with h|⟨o,d,n,hk,hc,hs,hz,r,_⟩
 .have(z,d,r,p,_):=h.ok I.hok;exact#[d,r,p,z]
 .refine#[d.toList,r,#[o,I.rY a o hk,hc,n,by simpa using hs],?_];have e:=r.length;simp only[O3]at e;omega
theorem Inv.w9 (I:Inv X pins σ H s)(h:bQ X.K H a xs)(h':bQ X.K H a ys):xs=ys:=by
 have(j,r,(o,n,e,_,_,d),_):=I.list h;have(g,p,(q,t,l,_,_,m),_):=I.list h';rw[e]at l;cases l;rw[d]at m;injection m with d1 _;have:j=g:=by simpa using congrArg Array.toList d1
 subst this;exact r.inj p
theorem Inv.qB (I:Inv X pins σ H s)(h:cP X.K H a xs)(h':cP X.K H a ys):xs=ys:=by
 have(j,r,(o,e,_,n,d),_):=I.tuple h;have(g,p,(q,l,_,t,m),_):=I.tuple h';rw[e]at l;cases l;rw[d]at m;injection m with d1 _;have:j=g:=by simpa using congrArg Array.toList d1
 subst this;exact r.inj p
noncomputable abbrev Cx.jt(X:Cx)(E:eF->fy->Prop):Cx:={X with xe:=E}
noncomputable abbrev Cx.nN(X:Cx):Cx:=X.jt λ_ _=>False
theorem Cx.Ok.jt {X:Cx}(ok:X.Ok)(E:eF->fy->Prop):(X.jt E).Ok :=
 #[ok.mod,ok.kind,ok.glob,ok.blt,ok.above,ok.inj,ok.has,ok.cab,ok.hd,ok.frames,ok.stk,ok.exf,ok.bs,ok.bsz,ok.noex,ok.exfs,ok.qz,ok.frf]
theorem Cx.Ok.fF {X:Cx}(ok:(X.jt E).Ok):X.Ok :=
 #[ok.mod,ok.kind,ok.glob,ok.blt,ok.above,ok.inj,ok.has,ok.cab,ok.hd,ok.frames,ok.stk,ok.exf,ok.bs,ok.bsz,ok.noex,ok.exfs,ok.qz,ok.frf]
theorem Inv.jt (I:Inv X pins σ H s)(E:eF->fy->Prop):Inv (X.jt E) pins σ H s:=#[I.ok.jt E,I.os,I.bare,I.base,I.loc,I.cell,I.free,I.freeC,I.pin,I.hok,I.len]
theorem Inv.fF (I:Inv (X.jt E) pins σ H s):Inv X pins σ H s:=#[I.ok.fF,I.os,I.bare,I.base,I.loc,I.cell,I.free,I.freeC,I.pin,I.hok,I.len]
theorem SP.fF (h:SP (X.jt E) pins D f s'):SP X pins D f s':=by
 cases f with
 |next=>have(d,e,I,q):=h;exact#[d,e,I.fF,q]
 |brk=>have(d,e,I,q):=h;exact#[d,e,I.fF,q]
 |cont=>have(d,e,I,q):=h;exact#[d,e,I.fF,q]
 |ret u=>have(v,d,e,I,r,q):=h;exact#[v,d,e,I.fF,r,q]
theorem qP.nN {st:List Stmt}(h:qP X.nN st t):qP X st t:=λpins s σ H D I d =>
 NG (h pins s σ H D (I.jt _) d) (λ_ _ q=>q.fF) λ_ _ z=>OE z
def GB:TS:=λD d H=>D.nx d H
noncomputable abbrev Ends.wn(D:Ends)(N:St->Hp->Prop):Ends:={D with nx:=N}
def aY(t u:TS):TS:=λD d H=>t (D.wn (u D)) d H
theorem j8 :qP X [] GB:=λ_ _ d H _ I h=>RH #[d,H,I,h]
theorem eA {st:Stmt}{rest:List Stmt}{t u:TS}(o:PS X st t)(m:qP X rest u):qP X (st::rest) (aY t u):=by
 intro d s j H D I h;refine SK (cR (o d s j H {D with nx:=u D} I h) λf l q=>?_)
 cases f with
 |next =>
  have(g,r,p,q):=q;exact m d l g r D p q
 |ret v=>exact q
 |brk=>exact q
 |cont=>exact q
theorem b9 {st:Stmt}{t:TS}(j:PS X st t):qP X [st] t:=by
 intro d s g H D I h;refine SK (cR (j d s g H D I h) λf l q=>?_)
 cases f with
 |next=>exact RH q
 |ret v=>exact q
 |brk=>exact q
 |cont=>exact q
theorem Inv.quiet (I:Inv X d g H s):interactive X.env=false:=by simp[interactive,I.ok.kind]
abbrev Mp(d:St)(N:St->Hp->Prop):VK:=λ_ g=>N d g
abbrev Jx(te:TE):TS:=λD d H=>te d H (Mp d D.nx)
theorem Eh {e:Expr}{te:TE}{pos:Pos}(j:PE X e te)(hs:Rq e none pos.line X.env=pure false:=by rfl):PS X (.Expr e pos) (Jx te):=by
 intro d s g H D I h;exact wpAny_Expr_any (cR (j d s g H _ I h) λv o ⟨x,m,l,p,q1⟩=>#[g,m,l,q1]) I.quiet hs
abbrev Jy(te:TE):TS:=λD d H=>te d H D.rt
theorem cG {e:Expr}{te:TE}{pos:Pos}(l:PE X e te):PS X (.Return (some e) pos) (Jy te):=by
 intro d s g H D I h;exact wpAny_Return_some (cR (l d s g H _ I h) λv p ⟨x,o,m,j,q1⟩=>#[x,g,o,m,j,q1])
abbrev Mq(t u:TS)(D:Ends)(d:St):Bool->Hp->Prop:=λb g=>if b=true then t D d g else u D d g
abbrev Jz(c:TT)(t u:TS):TS:=λD d H=>c d H (Mq t u D d)
theorem kL {t u:TS}{pos:Pos}{c:Expr}{a b:List Stmt}{l:TT}(q:PT X c l)(v:qP X a t)(r:qP X b u):PS X (.If c a b pos) (Jz l t u):=by
 intro g s j H D I h;refine wpAny_If (cR (q g s j H _ I h) λd m ⟨p,o,q1⟩=>?_)
 cases d with
 |true=>exact v g m j p D o q1
 |false=>exact r g m j p D o q1
abbrev TG:=V->St->Hp->(St->Hp->Prop)->Prop
abbrev Ei:=List V->St->Hp->(St->Hp->Prop)->Prop
def PG(X:Cx)(d:Expr)(t:TG):Prop :=
 ∀(e:List (Addr×Obj)) (s:fy) (j:St) (H:Hp) (v:V) (u:eF) (Q:St->Hp->Prop),Inv X e j H s->RelV v u->t v j H Q ->
  Nd (Nj X.prog X.w) X.A (RX d X.env u) (λ_ m=>∃g l,Inv X e g l m/\Q g l) X.xe s
def JA(X:Cx)(o:List Expr)(t:Ei):Prop :=
 ∀(d:List (Addr×Obj)) (s:fy) (g:St) (H:Hp) (j:List V) (l:List eF) (Q:St->Hp->Prop),Inv X d g H s->Vals j l->t j g H Q ->
  Nd (Nj X.prog X.w) X.A (T6 ((QI o X.env).map (·.2)) l) (λ_ p=>∃e m,Inv X d e m p/\Q e m) X.xe s
abbrev Hr:=V->V->V->Hp->(Hp->Prop)->Prop
def JB(X:Cx)(t:Hr):Prop :=
 ∀(d:List (Addr×Obj)) (s:fy) (e:St) (H:Hp) (o i v:V) (g j u:eF) (Q:Hp->Prop),Inv X d e H s->RelV o g->RelV i j->RelV v u->t o i v H Q ->
  Nd (Nj X.prog X.w) X.A (setItem g j u) (λ_ m=>∃l,Inv X d e l m/\Q l) X.xe s
abbrev iF(i:Nat):TG:=λv d H Q=>Q (d.set i (some v)) H
theorem lB {pos:Pos}{i:Nat}{x:Str}(j:X.N.Nodup)(hi:X.N[i]?=some x)(e:Loc X.env.scope x)(g:X.fn x=true\/X.env.scope.names.lookup x=some .local:=by first|exact .inl rfl|exact .inr rfl|assumption):PG X (.Name x pos) (iF i):=by
 intro d s m H v u Q I r h;exact wpAny_assign_Name (kK I j hi e r (λo l=>#[_,H,l,h]) g)
def Hs:Ei:=λe d H Q=>e=[]/\Q d H
abbrev Mr(u:Ei)(r:List V)(Q:St->Hp->Prop):St->Hp->Prop:=λd e=>u r d e Q
def su(t:TG)(u:Ei):Ei:=λe d H Q=>∃v r,e=v::r/\t v d H (Mr u r Q)
theorem vG :JA X [] Hs:=by
 intro d s g H j l Q I r h;have(e,h):=h;subst e
 cases r
 exact assignInOrder_nil #[g,H,I,h]
theorem pA {e:Expr}{g:List Expr}{t:TG}{u:Ei}(p:PG X e t)(o:JA X g u)(hs:(QI (e::g) X.env).map (·.2)=RX e X.env::(QI g X.env).map (·.2):=by rfl):JA X (e::g) (su t u):=by
 intro d s l H B D Q I r h;have(v,C,q,h):=h;subst q
 cases r with
 |cons r rr =>
  rw[hs];refine RY (cR (p d s l H _ _ _ I r h) λ_ m ⟨j,z,y,q1⟩=>?_);exact o d m j z _ _ Q y rr q1
def Ej(K:bN)(n:Nat)(t:Ei):TG:=λv e H Q=>∃a d,v=.ref a/\cP K H a d/\d.length=n/\t d e H Q
theorem Ht (D:X.calm=true)(h:JA X g t)(hn:(QI g X.env).length=n:=by rfl)(hst:(QI g X.env).findIdx? (·.1)=none:=by rfl):PG X (.Tuple g k pos) (Ej X.K n t):=by
 intro d s l H v u Q I r j;have(a,p,J,B,C,j):=j;subst J
 cases r
 have(q,m,z,M):=I.tuple B;refine assign_Tuple_tuple (I.ok.hd D) z (by simp[hn,<-C,m.length]) hst λG y=>?_;have L:Inv X d l H {s with heap:=G}:=I.kept (t':=s.toks) λb o e=>y b o (ND (Na e)) e;exact h d _ l H p _ Q L (by simpa using m) j
def Le(e g:TE)(t:Hr):TG:=λv d H Q=>e d H λo m=>g d m λi l=>t o i v l λj=>Q d j
theorem mR (D:PE X o l)(hi:PE X i m)(hs:JB X t)(ha:∀v,RX (.Subscript o i pos) X.env v=(do
   let e ←Sj [v] (eval o X.env)
   let g ←Sj [v,e] (eval i X.env)
   SY pos
   Sj [v,e,g] (setItem e g v)
   release [v,e,g] []):=by intro _;rfl):PG X (.Subscript o i pos) (Le l m t):=by
 intro d s j H v u Q I r h;rw[ha];refine cB (Ov (cR (D d s j H _ I h) λe q ⟨x,O,L,z,q1⟩=>?_));refine cB (Ov (cR (hi d q j O _ L q1) λg p ⟨y,N,J,r2,C⟩=>?_));refine cB (OM (cB (Ov (cR (hs d p j N x y v e g u _ J z r2 r C) λ_ R ⟨M,G,B⟩=>?_))));exact wpAny_release #[j,M,G,B]
abbrev LU(g:TG)(d:St)(N:St->Hp->Prop):VK:=λx e=>g x d e N
abbrev vH(e:TE)(g:TG):TS:=λD d H=>e d H (LU g d D.nx)
theorem yF {pos:Pos}{tg e:Expr}{l:TE}{g:TG}(t:PE X e l)(r:PG X tg g)(hs:swapsWithSole [tg] e pos.line X.env=pure false:=by rfl)(p:swappedStores [tg] e X.env=pure none:=by rfl)(h1:(QI [tg] X.env).map (·.2)=[RX tg X.env]:=by rfl):PS X (.Assign [tg] e pos) (vH l g):=by
 intro d s j H D I h;refine wpAny_Assign_stores (cR (t d s j H _ I h) λv m ⟨x,y,u,o,q1⟩=>?_) hs p;rw[h1];exact cR (r d m j y x v _ u o q1) λ_ z q=>q
theorem lC (r:X.N.Nodup)(hi:X.N[i]?=some x)(o:Loc X.env.scope x)(q:PE X e j)(hs:Rq e (some (.Name x d)) pos.line X.env=pure false:=by rfl)(p:X.fn x=true\/X.env.scope.names.lookup x=some .local:=by first|exact .inl rfl|exact .inr rfl|assumption):
  PS X (.Assign [.Name x d] e pos) (vH j (iF i)):=by
 intro g s l H D I h;refine wpAny_Assign_Name (cR (q g s l H _ I h) λv C ⟨y,z,u,m,q1⟩=>?_) hs;exact kK u r hi o m (λB t=>#[_,z,t,q1]) p
def Lf(i j:Nat)(ta:TA):TS:=λD d H=>ta d H λe g=>∃v w,e=[v,w]/\D.nx ((d.set i (some v)).set j (some w)) g
theorem yG {pos:Pos}{i j:Nat}{x y:Str}{a b:Expr}{ta:TA}{t py pt:Pos}{kt k2 pt2}(R:X.calm=true)(C:X.N.Nodup)(hi:X.N[i]?=some x)(Q:X.N[j]?=some y)(z:i≠j)(hx:X.env.scope.names.lookup x=some .local)(hy:X.env.scope.names.lookup y=some .local)(ha:PA X [a,b] ta)(hw:swappedStores [.Tuple [.Name x t,.Name y py] kt pt] (.Tuple [a,b] k2 pt2) X.env=pure (some [x,y]))(hs:swapsWithSole [.Tuple [.Name x t,.Name y py] kt pt] (.Tuple [a,b] k2 pt2) pos.line X.env=pure false:=by rfl):
  PS X (.Assign [.Tuple [.Name x t,.Name y py] kt pt] (.Tuple [a,b] k2 pt2) pos) (Lf i j ta):=by
 intro d s B H D I h;rw[exec_Assign_arm];refine cB (OM ?_);rw[hs];refine cB (tF ?_);rw[if_neg (by decide)];refine cB (Tuple_ (cR (ha _ d s B H _ I h) λL m ⟨Y,J,W,O,q1⟩=>?_));have(v,w,S,q1):=q1;subst S
 obtain⟨l,g,rfl,M,r⟩:∃l g,L=[l,g]/\RelV v l/\RelV w g:=by
  cases O with
  |cons p q =>
   cases q with
   |cons p' q' =>
    cases q'
    exact#[_,_,rfl,p,p']
 refine NX ?_ (by show 2<=mH;decide);have V:Inv X d B J {m with heap:=m.heap.push {cls:=.type "tuple",data:=.seq [l,g].toArray}}:=W.kept (t':=m.toks) λb o e=>pC _ e;rw[hw];refine cB (tF ?_);show Nd (Nj X.prog X.w) X.A (do rule "assign.swapped-stores";let items ←unpackItems (.ref m.heap.objs.size) 2 none;T6 [λv=>To X.env y v,λv=>To X.env x v] items.reverse;pure Flow.next) _ _ _;refine cB (RZ (cB (unpackItems_tuple (items:=#[l,g,]) (I.ok.hd R) (TR m.heap _) λh' u=>?_)));have U:=V.kept (h':=h') (t':=m.toks) λb o e=>u b o (ND (Na e)) e;show Nd _ _ (T6 [λv=>To X.env y v,λv=>To X.env x v] [g,l]>>=λ_=>pure Flow.next) _ _ _;refine cB (RY (Tp (kK U C Q (.inl hy) r (λs2 T=>?_) (.inr hy))));refine RY (Tp (kK T C hi (.inl hx) M (λZ G=>assignInOrder_nil (tF ?_)) (.inr hx)));rw[List.set_comm _ _ (PR z)]at G;exact#[_,J,G,q1]
def Hu(c:TT)(o:TS):TS:=λD d H=>∃W:Nat->St->Hp->Prop,(∃m,W m d H)/\∀m d H,W m d H ->
 c d H λb j=>if b=true then ∃N:St->Hp->Prop,(∀e l,N e l->∃g,g < m/\W g e l)/\o {D with nx:=N,ct:=N,bk:=D.nx} d j else D.nx d j
theorem sy {pos:Pos}{c:Expr}{j:List Stmt}{B:TT}{C:TS}(G:PassesOwn (Nj X.prog X.w) X.A X.env X.xe)(Z:PT X c B)(hb:qP X j C):PS X (.While c j [] pos) (Hu B C):=by
 intro e s R H D I h;have(W,(Y,T),m):=h;refine wpAny_While (codeAny_whileLoop (λn V=>∃l Q,Inv X e l Q V/\W n l Q) ?_ Y #[R,H,I,T]);rintro n s1 ⟨g,O,I1,S⟩;refine PK G (cR (Z e s1 g O _ I1 (m n g O S)) λb U ⟨M,L,q⟩=>?_)
 cases b with
 |true =>
  have(N,J,q):=q;rw[if_pos rfl];refine PK G (cR (hb e U g M _ L q) λf s3 p=>?_)
  cases f with
  |next =>
   have(d,o,z,t):=p;have(u,y,r):=J d o t;exact#[u,y,d,o,z,r]
  |cont =>
   have(d,o,z,t):=p;have(u,y,r):=J d o t;exact#[u,y,d,o,z,r]
  |brk=>exact p
  |ret v=>exact p
 |false =>
  rw[if_neg Nq];exact RH #[g,M,L,q]
structure It where
 go:Nat->Hp->Prop
 yld:Nat->Hp->V->Hp->Prop
 stop:Nat->Hp->Prop
def pB(X:Cx)(d:List (Addr×Obj))(H:Hp)(b:Addr):Prop :=
 H b=none/\b≠X.env.locals/\b∉X.fs/\(b∈X.ex\/X.s₀.heap.objs.size<=b)/\(∀x c,X.env.cells.lookup x=some c->c≠b)/\∀p∈X.pn++d,p.1≠b
theorem Inv.AN (I:Inv X d l H s)(g:s.heap.objs.size<=b)(hn:j b=none):pB X d j b:=by
 refine#[hn,QX (Ni I.lt g),I.Ef g,.inr (Nz I.sz g),λx c e z=>?_,λp m z=>?_]
 .have(v,q):=I.cell x c e;exact absurd (Ni q.lt (by rw[z];exact g)) (Om _)
 .exact absurd (Ni (Na (I.pin p m).1) (by rw[z];exact g)) (Om _)
structure Turn(P:IF) (w:Nn) (K:bN) (tg:Expr) (J:It) (fp:List Addr) (it:Addr) (tn:Nat->Heap->Prop):Prop where
 mem:it∈fp
 obj:∀i h,tn i h->∀b∈fp,∃o,h.get? b=some o/\∀v,o.data≠.cell v
 keep:∀i h h',tn i h->(∀b∈fp,∀o,h.get? b=some o->h'.get? b=some o)->tn i h'
 item:∀(X:Cx),X.prog=P->X.w=w->X.K=K->X.calm=true->∀(i:Nat) (pins:List (Addr×Obj)) (s:fy) (σ:St) (H:Hp) (E:eF->fy->Prop),Inv X pins σ H s->(∀b∈fp,pB X pins H b)->tn i s.heap->J.go i H ->
  Nd (Nj P w) X.A (Rr (.ref it)) (λr s1=>∃u,r=some u /\
   Nd (Nj P w) X.A (O4 tg (.ref it) u) (λ_ s2=>∃x H',Inv X pins σ H' s2/\RelV x u/\J.yld i H x H'/\tn (i+1) s2.heap/\∀b∈fp,H' b=none) E s1) E s
 done:∀(X:Cx),X.prog=P->X.w=w->X.K=K->X.calm=true->∀(i:Nat) (pins:List (Addr×Obj)) (s:fy) (σ:St) (H:Hp) (E:eF->fy->Prop),Inv X pins σ H s->(∀b∈fp,pB X pins H b)->tn i s.heap->J.stop i H ->
  Nd (Nj P w) X.A (Rr (.ref it)) (λr s1=>r=none/\Inv X pins σ H s1) E s
 self:∀(A:Nx) (i:Nat) (s:fy) (Q:eF->fy->Prop) (E:eF->fy->Prop),tn i s.heap->Q (.ref it) s->Nd (Nj P w) A (Tq (.ref it)) Q E s
abbrev TI:=St->Hp->(It->Hp->Prop)->Prop
def LV(X:Cx)(d:List (Addr×Obj))(p:St)(tg:Expr)(R:It->Hp->Prop)(e:eF)(l:fy):Prop :=
 ∃(m:Addr) (o:List Addr) (j:Nat->Heap->Prop) (J:It) (g:Hp),e=.ref m/\Inv X d p g l/\Turn X.prog X.w X.K tg J o m j/\j 0 l.heap/\(∀b∈o,pB X d g b)/\R J g
def PI(X:Cx)(tg iter:Expr)(g:TI):Prop :=
 ∀(d:List (Addr×Obj)) (s:fy) (e:St) (H:Hp) (R:It->Hp->Prop),Inv X d e H s->g e H R ->
  Nd (Nj X.prog X.w) X.A (eval iter X.env) (λv j=>Nd (Nj X.prog X.w) X.A (Tq v) (LV X d e tg R) X.xe j) X.xe s
theorem BZ (d : s.heap.get? it = some o)(e : o.cls = .type n)(hd : o.data = .fields vs)(hn : ["enumerate", "zip", "dict_itemiterator", "dict_reverseitemiterator", "odict_iterator", "itertools.zip_longest", "itertools.pairwise"].contains n = false)(hQ : Q Unit.unit s): Nd M A (O4 tg (.ref it) u) Q E s := by
  unfold O4
  cases tg <;> first
    | exact tF hQ
    | (cases u <;> first
        | exact tF hQ
        | (refine cB (wpAny_load d ?_)
           rw [e, hd];show Nd M A (if (["enumerate", "zip", "dict_itemiterator", "dict_reverseitemiterator", "odict_iterator", "itertools.zip_longest", "itertools.pairwise"].contains n && vs[0]? == some (Qh _)) = true then _ else _) Q E s;rw [if_neg (by intro h; rw [hn, Bool.false_and] at h; cases h)];exact tF hQ))
noncomputable def GC(K:bN)(a:Addr):It :=
 #[λi H=>∃d x,bQ K H a d/\d[i]?=some x,λi H x e=>e=H/\∀d,bQ K H a d->d[i]?=some x,λi H=>∃d,bQ K H a d/\d.length<=i]
noncomputable def zE(K:bN)(a:Addr):It :=
 #[λi H=>∃d x,cP K H a d/\d[i]?=some x,λi H x e=>e=H/\∀d,cP K H a d->d[i]?=some x,λi H=>∃d,cP K H a d/\d.length<=i]
noncomputable def Hv(d:Int)(n:Nat):It:=#[λi _=>i<n,λi H x e=>e=H/\x=.int (d+i),λi _=>n<=i]
theorem AO {K:bN}(a it:Addr):Turn P w K tg (GC K a) [it] it (λi h=>h.IsListIter it a i) where
 mem:=by simp
 obj:=λi h g b l=>by
  have e:b=it:=by simpa using l
  subst e;have(o,e,c,d):=g;exact#[o,e,λv z=>by rw[d]at z;cases z]
 keep:=λi h t g k=>g.at λo e=>k it (by simp) o e
 item:=by
  intro X J D L T i j s S H E I r g G;subst J D L;have(U,x,q,C):=G;have(B,y,p,Z):=I.list q;have(u,hu,Y):=y.get C;have(R,Q,f2,O,N,M):=r it (by simp);refine wpAny_pyNext_list_item g p.isList (x:=u) (by simpa using hu) λt m V=>?_;have I1:Inv X j S H {s with heap:=t}:=I.turned (t':=s.toks) (λb o l e=>(V.2 b l).trans e) R Q O N M;have(o,e,c,d):=id m;exact#[u,rfl,BZ (s:={s with heap:=t}) e c d (by decide) #[x,H,I1,Y,#[rfl,λys hy=>by rw[I.w9 hy q];exact C],m,λb l=>(r b l).1]]
 done:=by
  intro X J D L T i j s S H E I r g G;subst J D L;have(U,q,C):=G;have(B,y,p,Z):=I.list q;have(R,Q,f2,O,N,M):=r it (by simp);have hl:=y.length;exact wpAny_pyNext_list_end (I.ok.hd T) g p.isList (by simp;omega) λt eb=>#[rfl,I.turned (t':=s.toks) (λb o l e=>eb b o l e) R Q O N M]
 self:=λ_ _ _ _ _ g h=>wpAny_pyIter_listiter g h
theorem yH {K:bN}(a it:Addr):Turn P w K tg (zE K a) [it] it (λi h=>h.IsTupleIter it a i) where
 mem:=by simp
 obj:=λi h g b m=>by
  have e:b=it:=by simpa using m
  subst e;have(o,e,c,d):=g;exact#[o,e,λv z=>by rw[d]at z;cases z]
 keep:=λi h y g k=>g.at λo e=>k it (by simp) o e
 item:=by
  intro X J D L T i j s S H E I t g G;subst J D L;have(U,x,r,C):=G;have(l,B,p,Z):=I.tuple r;have(u,hu,Y):=B.get C;have(R,Q,f2,O,N,M):=t it (by simp);refine wpAny_pyNext_tuple_item g (show s.heap.IsTuple a l.toArray from p) (x:=u) (by simpa using hu) λy q V=>?_;have I1:Inv X j S H {s with heap:=y}:=I.turned (t':=s.toks) (λb o m e=>(V.2 b m).trans e) R Q O N M;have(o,e,c,d):=id q;exact#[u,rfl,BZ (s:={s with heap:=y}) e c d (by decide) #[x,H,I1,Y,#[rfl,λys hy=>by rw[I.qB hy r];exact C],q,λb m=>(t b m).1]]
 done:=by
  intro X J D L T i j s S H E I t g G;subst J D L;have(U,r,C):=G;have(l,B,p,Z):=I.tuple r;have(R,Q,f2,O,N,M):=t it (by simp);have hl:=B.length;exact wpAny_pyNext_tuple_end (I.ok.hd T) g (show s.heap.IsTuple a l.toArray from p) (by simp;omega) λy eb=>#[rfl,I.turned (t':=s.toks) (λb o m e=>eb b o m e) R Q O N M]
 self:=λ_ _ _ _ _ g h=>wpAny_pyIter_tupleiter g h
theorem yI {K:bN}(it:Addr)(m:Int)(n:Nat):Turn P w K tg (Hv m n) [it] it (λi h=>IsRangeIter h it (m+(i:Nat)*1) ((n:Int) - (i:Nat)) 1) where
 mem:=by simp
 obj:=λi h d b j=>by
  have e:b=it:=by simpa using j
  subst e
  exact#[_,d,λv z=>by
   have Q:Data.fields _=Data.cell v:=z
   cases Q]
 keep:=λi h q d k=>k it (by simp) _ d
 item:=by
  intro X B r C y i g s N H E I p d u;subst B r C;have(M,L,T,J,G,D):=p it (by simp);have W:=Walks.range (prog:=X.prog) (w:=X.w) (I.ok.hd y) it m 1 n;refine W.item i s _ _ u d λv q O S l R=>?_;have(t,rfl):=S;have V:Inv X g N H {s with heap:=q,toks:=O}:=I.turned (λb o j e=>R b o (by simpa using j) e) M L J G D;refine#[_,rfl,BZ (s:={s with heap:=q,toks:=O}) (n:="range_iterator") l rfl rfl (by decide) #[.int (m+i),H,V,#[t,?_],#[rfl,rfl],l,λb j=>(p b j).1]];rw[Int.mul_one]
 done:=by
  intro X B r C y i g s N H E I p d u;subst B r C;have(M,L,T,J,G,D):=p it (by simp);exact wpAny_pyNext_range_end (I.ok.hd y) d (by have:n<=i:=u;omega) λq U=>#[rfl,I.turned (t':=s.toks) (λb o j e=>U b o j e) M L J G D]
 self:=λ_ _ _ _ _ d h=>wpAny_pyIter_rangeiter d h
def JC(K:bN)(tl:TE):TI:=λe H R=>tl e H λx d=>∃a,x=.ref a/\(∃g,bQ K d a g)/\R (GC K a) d
def Hw(K:bN)(tl:TE):TI:=λe H R=>tl e H λx d=>∃a,x=.ref a/\(∃g,cP K d a g)/\R (zE K a) d
theorem lD {tg:Expr}{l:Expr}{tl:TE}(y:PE X l tl):PI X tg l (JC X.K tl):=by
 intro d s m H R I h;refine cR (y d s m H _ I h) λv g ⟨x,B,j,r,q1⟩=>?_;have(a,e,(C,u),q):=q1;subst e
 cases r
 have(t,D,p,G):=j.list u;refine QY p.isList ?_;refine#[g.heap.objs.size,[g.heap.objs.size],_,_,B,rfl,j.kept (t':=g.toks) λb o e=>pC _ e,AO a _,#[_,Nh _ rfl,rfl,rfl],λb z=>?_,q];have e:b=g.heap.objs.size:=by simpa using z
 subst e;exact j.AN (lj _) (j.hok.fresh (lj _))
theorem cz {tg:Expr}{l:Expr}{tl:TE}(y:PE X l tl):PI X tg l (Hw X.K tl):=by
 intro g s r H R I h;refine cR (y g s r H _ I h) λv d ⟨x,B,j,t,q1⟩=>?_;have(a,e,(C,u),q):=q1;subst e
 cases t
 have(m,D,p,G):=j.tuple u;refine wpAny_pyIter_tuple (show d.heap.IsTuple a m.toArray from p) ?_;refine#[d.heap.objs.size,[d.heap.objs.size],_,_,B,rfl,j.kept (t':=d.toks) λb o e=>pC _ e,yH a _,#[_,Nh _ rfl,rfl,rfl],λb z=>?_,q];have e:b=d.heap.objs.size:=by simpa using z
 subst e;exact j.AN (lj _) (j.hok.fresh (lj _))
theorem B0 (I:Inv X g j H s)(B:-(2 ^ 62)<=d)(z:d<2 ^ 62)(y:-(2 ^ 62)<=hi)(r:hi<2 ^ 62)(q:R (Hv d (hi-d).toNat) H):Nd (Nj X.prog X.w) X.A (Tq (.ref s.heap.objs.size)) (LV X g j tg R) E {s with heap:=s.heap.push {cls:=.type "range",data:=.fields #[.int d t,.int hi u,.int 1 v,]},toks:=l}:=by
 refine wpAny_pyIter_range (IsRange.new ..) (small_one B z y r) ?_;have m:Inv X g j H {s with heap:=s.heap.push {cls:=.type "range",data:=.fields #[.int d t,.int hi u,.int 1 v,]},toks:=l}:=I.kept λb o e=>pC _ e
 refine#[(s.heap.push {cls:=.type "range",data:=.fields #[.int d t,.int hi u,.int 1 v,]}).objs.size,[(s.heap.push {cls:=.type "range",data:=.fields #[.int d t,.int hi u,.int 1 v,]}).objs.size],_,_,H,rfl,
  m.kept (t':=l) λb o e=>pC _ e,yI _ d (hi-d).toNat,?_,λb p=>?_,q]
 .have D:d+((0:Nat):Int)*1=d:=by simp
  have C:(((hi-d).toNat:Nat):Int) - ((0:Nat):Int)=QZ.Range.rangeSize d hi 1:=by rw[rangeSize_one];split<;>omega
  show IsRangeIter _ _ (d+((0:Nat):Int)*1) ((((hi-d).toNat:Nat):Int) - ((0:Nat):Int)) 1;rw[D,C];exact Nh _ rfl
 .have e:b=(s.heap.push {cls:=.type "range",data:=.fields #[.int d t,.int hi u,.int 1 v,]}).objs.size:=by simpa using p
  subst e;exact m.AN (lj _) (m.hok.fresh (lj _))
def JD(ta:TA):TI:=λd H R=>ta d H λe g=>∃j:Int,e=[.int j]/\-(2 ^ 62)<=j/\j<2 ^ 62/\R (Hv 0 j.toNat) g
theorem uH {tg:Expr}{a:Expr}{ta:TA}{p pos:Pos}(u:Gl X "range")(o:X.mg "range"=none)(v:PA X [a] ta)(hs:Ob [a] X.env=[(false,eval a X.env)]:=by rfl):PI X tg (.Call (.Name "range" p) [a] [] pos) (JD ta):=by
 intro d s g H R I h;refine Call_ (qA I u o boot_range (Pk (cR (v pos d s g H _ I h) λB C ⟨z,D,y,l,q1⟩=>?_) hs rfl));have(j,e,q1,m,q):=q1;subst e
 cases l with
 |cons r rr =>
  cases rr
  have(t,rfl):=r;exact call_range_1 (B0 y () () q1 m (by simpa using q))
def Lg(p:TI)(g:TG)(q:TS):TS:=λD d H=>p d H λJ t=>∃W:Nat->Nat->St->Hp->Prop,(∃m,W 0 m d t)/\∀i m d H,W i m d H ->
 (J.stop i H/\D.nx d H)\/(J.go i H/\∃N:St->Hp->Prop,(∀e j,N e j->∃o,o < m/\W (i+1) o e j)/\∀x j,J.yld i H x j->g x d j λl r=>q {D with nx:=N,ct:=N,bk:=D.nx} l r)
noncomputable def oN(d:List Addr)(h:Heap):List (Addr×Obj):=d.filterMap λb=>(h.get? b).map λo=>(b,o)
theorem fb (g:b∈d)(e:h.get? b=some o):(b,o)∈oN d h:=R0.mpr #[b,g,by rw[e];rfl]
theorem uI (g:p∈oN d h):p.1∈d/\h.get? p.1=some p.2:=by
 have(b,j,e):=R0.mp g
 cases q:h.get? b with
 |none=>rw[q]at e;cases e
 |some o =>
  rw[q]at e;have l:(b,o)=p:=Nk e;subst l;exact#[j,q]
theorem Inv.pinned (I:Inv X g l H s)(u:∀b∈j,pB X g H b)(t:∀b∈j,∃o,s.heap.get? b=some o/\∀v,o.data≠.cell v):Inv X (g++oN j s.heap) l H s :=
 I.fu λp r=>(L0.mp r).elim (λz=>I.pin p (vv _ z)) λz=>by
  have(m,e):=uI z;have(C,B,y,_):=u p.1 m;have(o,q,d):=t p.1 m;rw[e]at q;cases q;exact#[e,C,B,y,d]
theorem Inv.sA (I:Inv X (d++pl) e H s):Inv X d e H s:=I.fu λp g=>I.pin p (vv _ (NK _ g))
theorem Hz {tg:Expr}{iter:Expr}{L:List Stmt}{wi:TI}{g:TG}{tb:TS}{pos:Pos}(S:PassesOwn (Nj X.prog X.w) X.A X.env X.xe)(hc:X.calm=true)(hi:PI X tg iter wi)(hg:PG X tg g)(y:qP X L tb)(hs:∀x,NQ iter X.env x=pure x:=by intro _;rfl):PS X (.For tg iter L [] pos) (Lg wi g tb):=by
 intro l s σ H D I h;refine wpAny_For (cR (hi l s σ H _ I h) λv s1 h1=>cR h1 λad s2 h2=>?_) hs;have(it,V,tn,J,H2,e,I2,T,aa,f2,W,(m0,w0),O):=h2;subst e
 -- what stays true of the iterator's objects through the loop
 have t:∀{C:Hp},(∀b∈V,C b=none)->∀b∈V,pB X l C b:=λhn b y=>#[hn b y,(f2 b y).2];refine codeAny_forLoop_any (λn s'=>∃i q C,Inv X l q C s'/\tn i s'.heap/\(∀b∈V,C b=none)/\W i n q C) ?_ m0 #[0,σ,H2,I2,aa,λb y=>(f2 b y).1,w0];rintro n s3 ⟨i,p,Y,I3,Q,U,w3⟩;rcases O i n p Y w3 with⟨stop,qn⟩|⟨go,N,hN,step⟩
 .refine PK S (cR (T.done X rfl rfl rfl hc i l s3 p Y X.xe I3 (t U) Q stop) λr s4 ⟨hr,I4⟩=>?_);subst hr;exact RH #[p,Y,I4,qn]
 .refine PK S (cR (T.item X rfl rfl rfl hc i l s3 p Y X.xe I3 (t U) Q go) λr s4 ⟨u,hr,h4⟩=>?_);subst hr;refine PK S (cR h4 λ_ s5 ⟨x,H5,I5,r5,y5,M,ab⟩=>?_);have ac:=I5.pinned (t ab) (T.obj _ _ M);refine PK S (cR (hg _ s5 p H5 x u _ ac r5 (step x H5 y5)) λ_ s6 ⟨Z,H6,I6,q6⟩=>?_);refine PK S (cR (y _ s6 Z H6 _ I6 q6) λf s7 G=>?_)
  have again:∀{j:St}{B:Hp},Inv X (l++oN V s5.heap) j B s7->N j B->∃m,m<n/\∃i q C,Inv X l q C s7/\tn i s7.heap/\(∀b∈V,C b=none)/\W i m q C:=λ{j B} z R=>by
   have(m',hm,w7):=hN j B R;refine#[m',hm,i+1,j,B,z.sA,T.keep _ _ _ M λb y o e=>(z.pin (b,o) (vv _ (vv _ (fb y e)))).1,λb y=>?_,w7];have(o,e,d):=T.obj _ _ M b y;exact(z.pin (b,o) (vv _ (vv _ (fb y e)))).2.1
  cases f with
  |next=>have(j,B,z,R):=G;exact again z R
  |cont=>have(j,B,z,R):=G;exact again z R
  |brk=>have(j,B,z,G):=G;exact#[j,B,z.sA,G]
  |ret v=>have(x7,j,B,z,r7,G):=G;exact#[x7,j,B,z.sA,r7,G]
theorem xg {K:bN}{g:TG}{u:TS}{D:Ends}(j:Nat->St->Hp->Prop)(C:j 0 d H)(z:∀i d H,i<=xs.length->j i d H->bQ K H a xs)(hs:∀i x d H,xs[i]?=some x->j i d H->g x d H λl t=>u {D with nx:=j (i+1),ct:=j (i+1),bk:=D.nx} l t)(hd:∀d H,j xs.length d H->D.nx d H):
  ∃W:Nat->Nat->St->Hp->Prop,(∃m,W 0 m d H)/\∀i m d H,W i m d H ->
   ((GC K a).stop i H/\D.nx d H)\/((GC K a).go i H/\∃N:St->Hp->Prop,(∀σ' o,N σ' o->∃m',m' < m/\W (i+1) m' σ' o)/\∀x o,(GC K a).yld i H x o->g x d o λl t=>u {D with nx:=N,ct:=N,bk:=D.nx} l t):=by
 refine#[λi m d H=>m=xs.length-i/\i<=xs.length/\j i d H,#[xs.length,by simp,Nu _,C],?_];rintro i m d H ⟨rfl,B,p⟩;have q:=z i d H B p
 by_cases r:i<xs.length
 .refine .inr #[#[xs,xs[i],q,by simp[r]],j (i+1),λσ' o v=>#[xs.length - (i+1),(),rfl,r,v],λx o y=>?_];have(e,y):=y;subst e;exact hs i x d _ (y xs q) p
 .have e:i=xs.length:=()
  subst e;exact .inl #[#[xs,q,lj _],hd d H p]
theorem eX {K:bN}{g:TG}{u:TS}{D:Ends}(j:Nat->St->Hp->Prop)(C:j 0 d H)(z:∀i d H,i<=xs.length->j i d H->cP K H a xs)(hs:∀i x d H,xs[i]?=some x->j i d H->g x d H λl t=>u {D with nx:=j (i+1),ct:=j (i+1),bk:=D.nx} l t)(hd:∀d H,j xs.length d H->D.nx d H):
  ∃W:Nat->Nat->St->Hp->Prop,(∃m,W 0 m d H)/\∀i m d H,W i m d H ->
   ((zE K a).stop i H/\D.nx d H)\/((zE K a).go i H/\∃N:St->Hp->Prop,(∀σ' o,N σ' o->∃m',m' < m/\W (i+1) m' σ' o)/\∀x o,(zE K a).yld i H x o->g x d o λl t=>u {D with nx:=N,ct:=N,bk:=D.nx} l t):=by
 refine#[λi m d H=>m=xs.length-i/\i<=xs.length/\j i d H,#[xs.length,by simp,Nu _,C],?_];rintro i m d H ⟨rfl,B,p⟩;have q:=z i d H B p
 by_cases r:i<xs.length
 .refine .inr #[#[xs,xs[i],q,by simp[r]],j (i+1),λσ' o v=>#[xs.length - (i+1),(),rfl,r,v],λx o y=>?_];have(e,y):=y;subst e;exact hs i x d _ (y xs q) p
 .have e:i=xs.length:=()
  subst e;exact .inl #[#[xs,q,lj _],hd d H p]
theorem iG {g:TG}{u:TS}{D:Ends}(o:Nat->St->Hp->Prop)(z:o 0 d H)(hs:∀i d H,i<n->o i d H->g (.int (r+i)) d H λj t=>u {D with nx:=o (i+1),ct:=o (i+1),bk:=D.nx} j t)(hd:∀d H,o n d H->D.nx d H):
  ∃W:Nat->Nat->St->Hp->Prop,(∃m,W 0 m d H)/\∀i m d H,W i m d H ->
   ((Hv r n).stop i H/\D.nx d H)\/((Hv r n).go i H/\∃N:St->Hp->Prop,(∀σ' q,N σ' q->∃m',m' < m/\W (i+1) m' σ' q)/\∀x q,(Hv r n).yld i H x q->g x d q λj t=>u {D with nx:=N,ct:=N,bk:=D.nx} j t):=by
 refine#[λi m d H=>m=n-i/\i<=n/\o i d H,#[n,by simp,Nu _,z],?_];rintro i m d H ⟨rfl,B,p⟩
 by_cases l:i<n
 .refine .inr #[l,o (i+1),λσ' q v=>#[n - (i+1),(),rfl,l,v],λx q y=>?_];have(e,y):=y;subst e y;exact hs i d _ l p
 .have e:i=n:=()
  subst e;exact .inl #[lj _,hd d H p]
abbrev R2:=V->V->Hp->VK->Prop
def mG(X:Cx)(f:eF->eF->Sem eF)(r:R2):Prop :=
 ∀(d:List (Addr×Obj)) (s:fy) (e:St) (H:Hp) (x y:V) (v u:eF) (Q:VK),Inv X d e H s->RelV x v->RelV y u->r x y H Q ->
  Nd (Nj X.prog X.w) X.A (f v u) (EP X d e Q) X.xe s
def Lh(X:Cx)(f:eF->Sem eF)(r:V->Hp->VK->Prop):Prop :=
 ∀(d:List (Addr×Obj)) (s:fy) (e:St) (H:Hp) (x:V) (v:eF) (Q:VK),Inv X d e H s->RelV x v->r x H Q ->
  Nd (Nj X.prog X.w) X.A (f v) (EP X d e Q) X.xe s
def iQ(X:Cx)(f:eF)(r:List V->Hp->VK->Prop):Prop :=
 ∀(d:List (Addr×Obj)) (s:fy) (e:St) (H:Hp) (g:List V) (j:List eF) (Q:VK),Inv X d e H s->Vals g j->r g H Q ->
  Nd (Nj X.prog X.w) X.A (call f j) (EP X d e Q) X.xe s
def Li(X:Cx)(r:V->Hp->(Bool->Hp->Prop)->Prop):Prop :=
 ∀(d:List (Addr×Obj)) (s:fy) (e:St) (H:Hp) (x:V) (v:eF) (Q:Bool->Hp->Prop),Inv X d e H s->RelV x v->r x H Q ->
  Nd (Nj X.prog X.w) X.A (truthy v) (TP X d e Q) X.xe s
abbrev Ms(r:R2)(x:V)(Q:VK):VK:=λy d=>r x y d Q
abbrev Mt(r:R2)(e:TE)(d:St)(Q:VK):VK:=λx g=>e d g (Ms r x Q)
abbrev GD(r:R2)(ta e:TE):TE:=λd H Q=>ta d H (Mt r e d Q)
abbrev Mu(r:V->Hp->VK->Prop)(Q:VK):VK:=λx d=>r x d Q
abbrev Mv(r:V->Hp->VK->Prop)(ta:TE):TE:=λd H Q=>ta d H (Mu r Q)
def rI(C:Int->Int->Prop)(g:Int->Int->V):R2:=λx y H Q=>∃i j,x=.int i/\y=.int j/\C i j/\Q (g i j) H
def HA(g:Int->Int->V):R2:=λx y H Q=>∃i j,x=.int i/\y=.int j/\Q (g i j) H
def rU(g:Int->V):V->Hp->VK->Prop:=λx H Q=>∃i,x=.int i/\Q (g i) H
theorem HC (z:PE X a ta)(t:PE X b tb){R:V->V->Hp->Prop}(I:Inv X d e H s)(h:ta e H λx o=>tb e o λy g=>R x y g){f:eF->eF->Sem eF}(hf:∀v u m x y g,Inv X d e g m->RelV x v->RelV y u->R x y g->Nd (Nj X.prog X.w) X.A (f v u) Q X.xe m):
  Nd (Nj X.prog X.w) X.A (eval a X.env) (λv l=>Nd (Nj X.prog X.w) X.A (eval b X.env) (λu j=>Nd (Nj X.prog X.w) X.A (f v u) Q X.xe j) X.xe l) X.xe s:=by
 refine cR (z d s e H _ I h) λv p ⟨x,o,C,q,q1⟩=>?_;refine cR (t d p e o _ C q1) λu m ⟨y,g,B,r2,r⟩=>?_;exact hf v u m x y g B q r2 r
theorem bS {a b:Expr}{ta tb:TE}{pos:Pos}{op:Operator}{r:R2}(m:mG X (PX op) r)(p:PE X a ta)(o:PE X b tb):PE X (.BinOp a op b pos) (GD r ta tb):=by
 intro d s e H Q I h;exact wpAny_BinOp (HC p o I h λv u g x y z t l j q=>m d g e z x y v u Q t l j q)
theorem pH (l:Lh X (unaryOp op) r)(m:PE X a ta):PE X (.UnaryOp op a pos) (Mv r ta):=by
 intro d s e H Q I h;exact UnaryOp_ (cR (m d s e H _ I h) λv g ⟨x,p,o,j,q1⟩=>l d g e p x v Q o j q1)
theorem KN {g:Int->Int->Int}(rule:∀(i j:Int) (t u:Tok) (s:fy) (Q:eF->fy->Prop) (E:eF->fy->Prop),C i j->Q (.int (g i j) s.toks) {s with toks:=s.toks+1}->Nd (Nj X.prog X.w) X.A (f (.int i t) (.int j u)) Q E s):
  mG X f (rI C λi j=>.int (g i j)):=by
 intro d s p H x y v u Q I m l h;have(i,j,rfl,rfl,o,q):=h;have(t,rfl):=m;have(e,rfl):=l;exact rule i j t e s _ _ o #[.int (g i j),H,I.tok _,#[_,rfl],q]
theorem JE {g:Int->Int->Int}(rule:∀(i j:Int) (t u:Tok) (s:fy) (Q:eF->fy->Prop) (E:eF->fy->Prop),Q (.int (g i j) s.toks) {s with toks:=s.toks+1}->Nd (Nj X.prog X.w) X.A (f (.int i t) (.int j u)) Q E s):
  mG X f (HA λi j=>.int (g i j)):=by
 intro d s o H x y v u Q I m l h;have(i,j,rfl,rfl,q):=h;have(t,rfl):=m;have(e,rfl):=l;exact rule i j t e s _ _ #[.int (g i j),H,I.tok _,#[_,rfl],q]
theorem HD {g:Int->Int->Bool}(rule:∀(i j:Int) (t u:Tok) (s:fy) (Q:eF->fy->Prop) (E:eF->fy->Prop),Q (.bool (g i j)) s->Nd (Nj X.prog X.w) X.A (f (.int i t) (.int j u)) Q E s):
  mG X f (HA λi j=>.bl (g i j)):=by
 intro d s o H x y v u Q I m l h;have(i,j,rfl,rfl,q):=h;have(t,rfl):=m;have(e,rfl):=l;exact rule i j t e s _ _ #[.bl (g i j),H,I,rfl,q]
def JF(i j:Int):Prop:=0<j/\j<1073741824
def JG(i j:Int):Prop:=0<=j/\j<=1000000/\i.natAbs<2 ^ 64
def Ek(i j:Int):Prop:=(-(2 ^ 64)<i/\i<2 ^ 64)\/(-(2 ^ 64)<j/\j<2 ^ 64)
theorem Ek.ok (h:Ek i j):IntMulOk i j:=by
 rcases h with⟨h1,h2⟩|⟨h1,h2⟩
 .exact .of_left (intBits_le_64 h1 h2)
 .exact .of_right (intBits_le_64 h1 h2)
theorem dR :mG X (PX .Add) (HA λi j=>.int (i+j)):=JE λ_ _ _ _ _ _ _ q=>add_int q
theorem kB :mG X (PX .Sub) (HA λi j=>.int (i-j)):=JE λ_ _ _ _ _ _ _ q=>sub_int q
theorem kF :mG X (PX .Mult) (rI Ek λi j=>.int (i*j)):=KN λ_ _ _ _ _ _ _ d q=>mul_int q d.ok
theorem rK :mG X (PX .FloorDiv) (rI JF λi j=>.int (i / j)):=KN λi j _ _ _ _ _ d q=>by
 have g:(0:Int)<j:=d.1;have e:j<1073741824:=d.2;exact floordiv_int () (by rw[Int.fdiv_eq_ediv_of_nonneg i ()];exact q) (.inl (PyProof.noPylong_small ()))
theorem iR :mG X (PX .Mod) (rI (λ_ j=>0<j) λi j=>.int (i % j)):=KN λi j _ _ _ _ _ d q=>by
 have e:(0:Int)<j:=d;exact mod_int' () (by rw[Int.fmod_eq_emod_of_nonneg i ()];exact q)
theorem HE :mG X (PX .Pow) (rI JG λi j=>.int (i ^ j.toNat)):=KN λ_ _ _ _ _ _ _ d q=>pow_int_small d.1 d.2.1 d.2.2 q
theorem Mw {g:Int->Int}(rule:∀(i:Int) (t:Tok) (s:fy) (Q:eF->fy->Prop) (E:eF->fy->Prop),Q (.int (g i) s.toks) {s with toks:=s.toks+1}->Nd (Nj X.prog X.w) X.A (f (.int i t)) Q E s):
  Lh X f (rU λi=>.int (g i)):=by
 intro d s j H x v Q I e h;have(i,rfl,q):=h;have(t,rfl):=e;exact rule i t s _ _ #[.int (g i),H,I.tok _,#[_,rfl],q]
theorem lE :Lh X (unaryOp .USub) (rU λi=>.int (-i)):=Mw λ_ _ _ _ _ q=>neg_int q
noncomputable def JH:V->V->Bool
 |.eN,.eN=>true|.eN,.int _=>true|.int _,.eN=>true|.eN,.bl _=>true|.bl _,.eN=>true|.eN,.str _=>true|.str _,.eN=>true
 |.int _,.int _=>true|.bl _,.bl _=>true|.str _,.str _=>true|.byt _,.byt _=>true
 |.int _,.str _=>true|.str _,.int _=>true|.bl _,.str _=>true|.str _,.bl _=>true
 |_,_=>false
def Mx:R2:=λx y H Q=>JH x y=true/\Q (.bl (decide (x=y))) H
def LW:R2:=λx y H Q=>JH x y=true/\Q (.bl (!decide (x=y))) H
theorem zF :decide (V.int i=V.int j)=(i == j):=by
 rw[QG];simp
theorem B3 :decide (V.bl i=V.bl j)=(i == j):=by
 rw[QG];simp
theorem zG :decide (V.str i=V.str j)=(i == j):=by
 rw[QG];simp
theorem zH :decide (V.byt i=V.byt j)=(i.toList == j.toList):=by
 rw[QG]
 cases i
 cases j
 simp
theorem cg (I:Inv X d g H s)(q:Q (.bl k) H)(e:k=j):EP X d g Q (.bool j) s:=by
 subst e;exact#[.bl k,H,I,rfl,q]
theorem bV :mG X (OB .Eq) Mx:=by
 intro m s o H x y v u Q I l d h;have(g,q):=h
 cases x with
 |eN =>
  cases l
  cases y with
  |eN=>cases d;exact PySem.EqNone.eq_none_none (cg I q (by simp))
  |bl j=>cases d;exact PySem.EqNone.eq_none_bool (cg I q (by simp))
  |int j=>have(e,rfl):=d;exact PySem.EqNone.eq_none_int (cg I q (by simp))
  |str j=>have(e,rfl):=d;exact PySem.EqNone.eq_none_str (cg I q (by simp))
  |_=>exact absurd (show false=true from g) Nq
 |bl i =>
  cases l
  cases y with
  |eN=>cases d;exact PySem.EqNone.eq_bool_none (cg I q (by simp))
  |bl j=>cases d;exact eq_bool (cg I q B3)
  |str j=>have(e,rfl):=d;exact PySem.EqMixed.eq_bool_str (cg I q (by simp))
  |_=>exact absurd (show false=true from g) Nq
 |int i =>
  have(t,rfl):=l
  cases y with
  |eN=>cases d;exact PySem.EqNone.eq_int_none (cg I q (by simp))
  |int j=>have(e,rfl):=d;exact eq_int (cg I q zF)
  |str j=>have(e,rfl):=d;exact PySem.EqMixed.eq_int_str (cg I q (by simp))
  |_=>exact absurd (show false=true from g) Nq
 |str i =>
  have(t,rfl):=l
  cases y with
  |eN=>cases d;exact PySem.EqNone.eq_str_none (cg I q (by simp))
  |bl j=>cases d;exact PySem.EqMixed.eq_str_bool (cg I q (by simp))
  |int j=>have(e,rfl):=d;exact PySem.EqMixed.eq_str_int (cg I q (by simp))
  |str j=>have(e,rfl):=d;exact eq_str (cg I q zG)
  |_=>exact absurd (show false=true from g) Nq
 |byt i =>
  have(t,rfl):=l
  cases y with
  |byt j=>have(e,rfl):=d;exact PySem.W.eq_bytes (cg I q zH)
  |_=>exact absurd (show false=true from g) Nq
 |_=>cases y<;>exact absurd (show false=true from g) Nq
theorem pI :mG X (OB .NotEq) LW:=by
 intro m s o H x y v u Q I l d h;have(g,q):=h
 cases x with
 |eN =>
  cases l
  cases y with
  |eN=>cases d;exact PySem.EqNone.ne_none_none (cg I q (by simp))
  |bl j=>cases d;exact PySem.EqNone.ne_none_bool (cg I q (by simp))
  |int j=>have(e,rfl):=d;exact PySem.EqNone.ne_none_int (cg I q (by simp))
  |str j=>have(e,rfl):=d;exact PySem.EqNone.ne_none_str (cg I q (by simp))
  |_=>exact absurd (show false=true from g) Nq
 |bl i =>
  cases l
  cases y with
  |eN=>cases d;exact PySem.EqNone.ne_bool_none (cg I q (by simp))
  |bl j=>cases d;exact ne_bool (cg I q (congrArg not B3))
  |str j=>have(e,rfl):=d;exact PySem.EqMixed.ne_bool_str (cg I q (by simp))
  |_=>exact absurd (show false=true from g) Nq
 |int i =>
  have(t,rfl):=l
  cases y with
  |eN=>cases d;exact PySem.EqNone.ne_int_none (cg I q (by simp))
  |int j=>have(e,rfl):=d;exact ne_int (cg I q (congrArg not zF))
  |str j=>have(e,rfl):=d;exact PySem.EqMixed.ne_int_str (cg I q (by simp))
  |_=>exact absurd (show false=true from g) Nq
 |str i =>
  have(t,rfl):=l
  cases y with
  |eN=>cases d;exact PySem.EqNone.ne_str_none (cg I q (by simp))
  |bl j=>cases d;exact PySem.EqMixed.ne_str_bool (cg I q (by simp))
  |int j=>have(e,rfl):=d;exact PySem.EqMixed.ne_str_int (cg I q (by simp))
  |str j=>have(e,rfl):=d;exact ne_str (cg I q (congrArg not zG))
  |_=>exact absurd (show false=true from g) Nq
 |byt i =>
  have(t,rfl):=l
  cases y with
  |byt j=>have(e,rfl):=d;exact PySem.W.ne_bytes (cg I q (congrArg not zH))
  |_=>exact absurd (show false=true from g) Nq
 |_=>cases y<;>exact absurd (show false=true from g) Nq
theorem mS :mG X (OB .Lt) (HA λi j=>.bl (decide (i<j))):=HD λ_ _ _ _ _ _ _ q=>lt_int q
theorem pJ :mG X (OB .Gt) (HA λi j=>.bl (decide (j<i))):=HD λ_ _ _ _ _ _ _ q=>gt_int q
theorem JI :mG X (OB .GtE) (HA λi j=>.bl (decide (j<=i))):=HD λ_ _ _ _ _ _ _ q=>ge_int q
theorem qC :mG X (OB .Is) (λx y H Q=>y=.eN/\Q (.bl (decide (x=.eN))) H):=by
 intro e s j H x y v u Q I d g h;have(rfl,q):=h
 cases g
 refine is_none_gen (cg I q ?_)
 cases x<;>first
  |(cases d;rfl)
  |(have(t,rfl):=d;rfl)
theorem rL :mG X (OB .IsNot) (λx y H Q=>y=.eN/\Q (.bl (!decide (x=.eN))) H):=by
 intro e s j H x y v u Q I d g h;have(rfl,q):=h
 cases g
 refine isnot_none_gen (cg I q ?_)
 cases x<;>first
  |(cases d;rfl)
  |(have(t,rfl):=d;rfl)
theorem bI (b:Expr)(h:op≠.In:=by decide)(d:op≠.NotIn:=by decide):Sw op b=false:=by
 have g:(op == CmpOp.In)=false:=by cases op<;>first|rfl|exact absurd rfl h
 have e:(op == CmpOp.NotIn)=false:=by cases op<;>first|rfl|exact absurd rfl d
 cases b<;>simp[Sw,g,e]
theorem jo {a b:Expr}{ta tb:TE}{pos:Pos}{op:CmpOp}{r:R2}(m:mG X (OB op) r)(t:PE X a ta)(p:PE X b tb)(o:Sw op b=false):PE X (.Compare a [op] [b] pos) (GD r ta tb):=by
 intro d s e H Q I h;exact wpAny_Compare1 (HC t p I h λv u g x y B z l j q=>m d g e B x y v u Q z l j q) o
def My(Q:Bool->Hp->Prop):VK:=λx d=>∃k,x=.bl k/\Q k d
abbrev B4(t:TE):TT:=λd H Q=>t d H (My Q)
theorem nQ {a b:Expr}{ta tb:TE}{pos:Pos}{op:CmpOp}{r:R2}(q:mG X (OB op) r)(C:PE X a ta)(B:PE X b tb)(t:Sw op b=false):PT X (.Compare a [op] [b] pos) (B4 (GD r ta tb)):=by
 intro d s g H Q I h
 refine wpAny_isTrue_Compare1 (cR (C d s g H _ I h) λv l ⟨x,N,J,m,q1⟩=>cR (B d l g N _ J q1) λu j ⟨y,M,G,r2,p⟩ =>
  cR (q d j g M x y v u _ G m r2 p) λc O ⟨z,L,D,r3,k,e,o⟩=>?_) t
 subst e
 cases r3
 exact PV #[L,D,o]
def HF(r j:R2)(ta tb tc:TE):TE:=λd H Q=>ta d H λx o=>tb d o λy m=>r x y m λz e=>∃k,z=.bl k /\
 (if k=true then tc d e λg l=>j y g l Q else Q (.bl false) e)
theorem B5 {a b c:Expr}{ta tb tc:TE}{pos:Pos}{op j:CmpOp}{r o:R2}(U:mG X (OB op) r)(m:mG X (OB j) o)(Y:PE X a ta)(W:PE X b tb)(V:PE X c tc)(hm:lastMarks [op,j] [b,c]=false:=by with_unfolding_all rfl):PT X (.Compare a [op,j] [b,c] pos) (B4 (HF r o ta tb tc)):=by
 intro g s l H Q I h
 refine isTrue_chain (cR (Y g s l H _ I h) λv L ⟨x,H1,I1,N,q1⟩=>test_link (cR (W g L l H1 _ I1 q1) λu J ⟨y,H2,I2,r2,S⟩ =>
  cR (U g J l H2 x y v u _ I2 N r2 S) λd G ⟨z,t,q,r3,k,e,p⟩=>?_)) hm
 subst e
 cases r3
 refine PV ?_
 cases k with
 |false =>
  have(k',e',T):=p
  cases e'
  exact ite_ff #[t,q,T]
 |true =>
  refine ite_tt (test_last (cR (V g G l t _ q p) λC D ⟨B,H4,I4,r4,R⟩=>cR (m g D l H4 y B u C _ I4 r2 r4 R) λd' s5 ⟨z2,H5,I5,M,k2,Z,O⟩=>?_));subst Z
  cases M
  exact PV #[H5,I5,O]
def HG(K:bN)(x:V)(H:Hp)(k:Bool):Prop :=
 match x with
 |.eN=>k=false
 |.bl b=>k=b
 |.int i=>k=(i != 0)
 |.str y=>y.length<=mH/\k=((y.length:Int) != 0)
 |.byt y=>y.size<=mH/\k=((y.size:Int) != 0)
 |.ref p=>(∃d,bQ K H p d/\k=!d.isEmpty)\/(∃d,cP K H p d/\k=!d.isEmpty)\/∃e,H p=some (.dK e)/\k=!e.isEmpty
 |_=>False
theorem yJ {kvs:List (d×V)}{vs:List (d×eF)}(r:KV kvs vs):(!vs.isEmpty)=!kvs.isEmpty:=by
 cases r<;>rfl
theorem sC (r:Vals xs d):(!d.toArray.isEmpty)=!xs.isEmpty:=by
 cases r<;>simp
theorem oO :(mH:Nat)<2 ^ 63:=by rw[Qo];decide
theorem HH :Li X (λx H Q=>∃k,HG X.K x H k/\Q k H):=by
 intro C s L H x v Q I o h;have(k,e,q):=h;have N:=oO;have M:mH=16777216:=Qo
 cases x with
 |eN =>
  cases o
  have d:k=false:=e;subst d;exact truthy_none #[H,I,q]
 |bl b =>
  cases o
  have d:k=b:=e;subst d;exact PV #[H,I,q]
 |int i =>
  have(t,rfl):=o;have d:k=(i != 0):=e;subst d;exact PySem.P.truthy_int #[H,I,q]
 |str y =>
  have(t,rfl):=o;obtain⟨G,d⟩:y.length<=mH/\k=((y.length:Int) != 0):=e;subst d;exact PySem.P.truthy_str () #[H,I.tok _,q]
 |byt y =>
  have(t,rfl):=o;obtain⟨G,d⟩:y.size<=mH/\k=((y.size:Int) != 0):=e;subst d;exact PySem.W.truthy_bytes () #[H,I.tok _,q]
 |ref p =>
  cases o
  have d:(∃l,bQ X.K H p l/\k=!l.isEmpty)\/(∃l,cP X.K H p l/\k=!l.isEmpty)\/∃g,H p=some (.dK g)/\k=!g.isEmpty:=e;rcases d with⟨l,hx,d⟩|⟨l,hx,d⟩|⟨g,hx,d⟩
  .subst d;have(B,r,z,D):=I.list hx;have j:=r.length;exact wpAny_truthy_list z.isList (by simp only[Nb];omega) #[H,I.tok _,by rw[sC r];exact q]
  .subst d;have(B,r,z,D):=I.tuple hx;have j:=r.length;exact truthy_tuple z (by simp only[Nb];omega) #[H,I.tok _,by rw[sC r];exact q]
  .subst d;obtain⟨D,J,u,r,m⟩:g.length<=mH/\(p == OV)=false/\∃u,KV g u/\s.heap.DictOf (bf X.prog X.w) p u:=I.hok p _ hx;have j:g.length=u.length:=Paired.length r;exact wpAny_truthy_dict J m () #[H,I.tok _,by rw[yJ r];exact q]
 |_=>exact(show False from e).elim
theorem xh (p:PE X a ta)(o:∀d,isTrue a X.env d=(do let v ←d;SY a.pos;Sj [v] (truthy v))):
  PT X a (λg H Q=>ta g H λx j=>∃k,HG X.K x j k/\Q k j):=by
 intro e s g H Q I h;exact isTrue_plain (cR (p e s g H _ I h) λv l ⟨x,r,q,m,q1⟩=>HH e l g r x v Q q m q1) (o _)
theorem lF :mG X (PX .Add) (λx y H Q=>∃i j,x=.str i/\y=.str j/\i.length+j.length<=mH/\Q (.str (i++j)) H):=by
 intro d s o H x y v u Q I l g h;have(i,j,rfl,rfl,m,q):=h;have(t,rfl):=l;have(e,rfl):=g;exact add_str (λe p=>#[.str (i++j),H,I.tok _,#[_,rfl],q]) m
theorem vals1 (r:Vals [x] us):∃u,us=[u]/\RelV x u:=by
 cases r with
 |cons r1 r2=>cases r2;exact#[_,rfl,r1]
theorem vals2 (r:Vals [x,y] us):∃u d,us=[u,d]/\RelV x u/\RelV y d:=by
 cases r with
 |cons r1 r2 =>
  cases r2 with
  |cons r3 r4=>cases r4;exact#[_,_,rfl,r1,r3]
theorem iH :iQ X (.type "int") (λxs H Q=>(∃i,xs=[.int i]/\Q (.int i) H)\/∃k,xs=[.bl k]/\Q (.int (if k then 1 else 0)) H):=by
 intro d s g H xs j Q I r h;rcases h with⟨i,rfl,q⟩|⟨k,rfl,q⟩
 .have(u,rfl,t,rfl):=vals1 r;exact call_int_int #[.int i,H,I,#[_,rfl],q]
 .have(u,rfl,e):=vals1 r
  cases e
  exact call_int_bool #[.int (if k then 1 else 0),H,I.tok _,#[_,rfl],q]
structure AQ(h:Heap) (x dx C:Addr) (mA:Str->Option eF):Prop where
 obj:h.get? x=some (Pb C dx)
 ns:h.Ns1 dx mA
 ne:dx≠x
theorem AR {h:Heap}(n:h.Ns1 l g):∃od,h.get? l=some od/\∀name,Sx name od=some (g name):=by
 have(o,j,B,p,hd,u,_,r):=n;refine#[o,p,λname=>?_];have e:=r name;unfold UC findBy at e;rw[<-Ud]at e;unfold Sx;rw[hd];dsimp only
 split
 .rename_i y q
  rw[q]at e;exact congrArg some e
 .rename_i q
  rw[q]at e
  have a:j.toList.any (·.refKey)=false:=by
   rw[Q0];intro y m;have(z,t,d):=u y (RB.mp m);simp[PL.refKey,d]
  have v:¬j.toList.any (·.refKey)=true:=by rw[a];exact Nq
  rw[if_neg v];exact congrArg some e
theorem AQ.look (I:AQ h x e C d):∃od,PySem.W.InstAt h x (Pb C e) C (some od)/\∀name,Sx name od=some (d name) :=
 let⟨od,ho,hl⟩:=AR I.ns
 #[od,#[I.obj,rfl,rfl,ho],hl]
theorem get_map {K:bN}(X:K.In s.heap)(I:AQ s.heap x dx C mA)(j:SM K C name=true)(g:P9 K C=true)(ha:Of K (.ref C) name=some none)(hv:mA name=some v)(hv':UD v=true)(h:Q v {s with toks:=s.toks+1}):
  Nd (Nj prog w) A (UR (.ref x) name d) Q E s:=by
 have(l,J,e):=I.look;exact PySem.W.get_value X J (PySem.W.plainGet_of j).1 (PySem.W.findObj_own g ha rfl (by rw[e,hv])) hv' h
theorem El {K:bN}(X:K.In s.heap)(I:AQ s.heap x dx C mA)(hs:Of K (.ref C) "__setattr__"=some (some (.builtin "object.__setattr__")))(hp:Up K C=true)(ht:Rg K C name=some none)(hh:P9 K C=true)(hw:SX mA ns)(hsz:ns.length<=mH)(h:∀h',AQ h' x dx C (λy=>if y=name then some v else mA y)->PU dx s.heap h'->Q Unit.unit {s with heap:=h',toks:=s.toks+2}):
  Nd (Nj prog w) A (setAttr (.ref x) name v) Q E s:=by
 have(u,J,B):=I.look;refine PySem.W.set_plain X J hs (PySem.W.osa_open (s:={s with toks:=s.toks+1}) (r:=none) X J hp ht λb=>?_);have(D,p,l):=PySem.W.any_some hh;have o:s.heap.get? x=some #[.ref C,some dx,.plain,#[]]:=I.obj;refine cB (tF (cB (cB (R1 o (cB (PySem.W.Looks.here (s:={s with toks:=s.toks+1}) (PySem.W.looks_clsIn X p) ?_))))));rw[l];refine tF (a:=some dx) (cB (tF (cB ?_)));refine wpAny_nsSet1 (s:={s with toks:=s.toks+1}) I.ns λh' e d=>?_;have(z,q,t,g,j,m):=e.count (SX.cons name v hw);refine cB (wpAny_lookBehind g (by rw[j];exact pastItsLine_dict (Nz m (by rw[Nv];omega))) ?_);exact tF (h _ #[(d.2 _ (PR I.ne)).trans I.obj,e,I.ne] d)
theorem B6 {K:bN}(X:K.In s.heap)(l:UP K C=true)(hi:Of K (.ref C) "__init__"=some (some (.ref f)))(hf:PySem.W.typeIn K (.ref f)=some (.type "function"))(h:OW (Nj prog w) (A.under (.builtin "type.__call__" #[.ref C::vs,j])) (.call (.ref f) #[.ref (s.heap.objs.size+1)::vs,j]) (PySem.W.InitBack (s.heap.objs.size+1) R)
   {s with heap:=(s.heap.push OO).push (Pb C s.heap.objs.size)}):
  OW (Nj prog w) A (.call (.ref C) #[vs,j]) R s:=by
 have(o,g,d,t,m):=s;exact PySem.W.make_core (PySem.W.makes_of X l) (PySem.W.looks_findIn X hi) (λe=>PySem.W.bind_fn X e hf) (.inl rfl) h
noncomputable def aX(f:Str)(v:V):List (Str×V)->List (Str×V)
 | []=>[(f,v)]
 |(g,x)::r=>if g=f then(g,v)::r else(g,x)::aX f v r
theorem qQ (f g:Str)(v:V):∀fs:List (Str×V),(aX f v fs).lookup g=if g=f then some v else fs.lookup g
 | []=>by
  show O9 g [(f,v)]=_
  by_cases h:g=f
  .have d:(g == f)=true:=beq_iff_eq.mpr h;simp only[O9,d,if_pos h]
  .have d:(g == f)=false:=beq_eq_false_iff_ne.mpr h;simp only[O9,d,if_neg h]
 |(k,x)::r=>by
  have l:=qQ f g v r;rw[show aX f v ((k,x)::r)=(if k=f then(k,v)::r else(k,x)::aX f v r)from rfl]
  by_cases j:k=f
  .rw[if_pos j]
   by_cases h:g=k
   .have d:(g == k)=true:=beq_iff_eq.mpr h;simp only[O9,d,if_pos (h.trans j)]
   .have d:(g == k)=false:=beq_eq_false_iff_ne.mpr h;simp only[O9,d,if_neg (λe:g=f=>h (e.trans j.symm))]
  .rw[if_neg j]
   by_cases h:g=k
   .have d:(g == k)=true:=beq_iff_eq.mpr h;simp only[O9,d,if_neg (λe:g=f=>j (h.symm.trans e))]
   .have d:(g == k)=false:=beq_eq_false_iff_ne.mpr h;simp only[O9,d];exact l
theorem qD (f:Str)(v:V):∀fs:List (Str×V),f∈(aX f v fs).map (·.1)/\∀g,g∈fs.map (·.1)->g∈(aX f v fs).map (·.1)
 | []=>#[by simp[aX],λg h=>by simp at h]
 |(k,x)::r=>by
  have(l,j):=qD f v r;rw[show aX f v ((k,x)::r)=(if k=f then(k,v)::r else(k,x)::aX f v r)from rfl]
  by_cases d:k=f
  .rw[if_pos d];subst d;exact#[by simp,λg h=>by simpa using h]
  .rw[if_neg d];refine#[?_,λg h=>?_]
   .rw[Ny];exact Og _ l
   .rw[Ny]at h|-;rcases Nc.mp h with e|e
    .exact Nc.mpr (.inl e)
    .exact Og _ (j g e)
theorem qR (f:Str)(v:V):∀fs:List (Str×V),(aX f v fs).length<=fs.length+1
 | []=>by simp[aX]
 |(k,x)::r=>by
  have e:=qR f v r;rw[show aX f v ((k,x)::r)=(if k=f then(k,v)::r else(k,x)::aX f v r)from rfl]
  by_cases d:k=f
  .rw[if_pos d,Nv,Nv];omega
  .rw[if_neg d,Nv,Nv];omega
theorem lA.some_of (r:lA (some v) o):∃u,o=some u/\RelV v u:=by
 cases o with
 |none=>exact(show False from r).elim
 |some u=>exact#[u,rfl,r]
theorem uJ (r:RelV v u):UD u=true:=by
 cases v with
 |eN=>cases(show u=Value.none from r);rfl
 |bl b=>cases(show u=Value.bool b from r);rfl
 |int i=>have(t,e):=(show ∃t,u=Value.int i t from r);cases e;rfl
 |str x=>have(t,e):=(show ∃t,u=Value.str x t from r);cases e;rfl
 |byt b=>have(t,e):=(show ∃t,u=Value.bytes b t from r);cases e;rfl
 |flt b=>have(t,e):=(show ∃t,u=Value.float b t from r);cases e;rfl
 |ref a=>cases(show u=Value.ref a from r);rfl
 |ty n=>cases(show u=Value.type n from r);rfl
theorem zI (j:mL P w H h)(e:H a=some (.ins C dx fs)):∃g,AQ h a dx C g/\(∀f,lA (fs.lookup f) (g f))/\SX g (fs.map (·.1))/\fs.length<=1000/\H dx=some (.own a):=by
 have(d,z,m,l,g,n,r,q):=(show eM P w H h a (.ins C dx fs)from j a _ e);exact#[g,#[l,n,m],r,q,z,d]
structure GF(K:bN) (C:Addr):Prop where
 pg:SM K C Nt=true
 hd:P9 K C=true
 po:Up K C=true
 sa:Of K (.ref C) "__setattr__"=some (some (.builtin "object.__setattr__"))
theorem GF.get {K:bN}(c:GF K C)(f:Str):SM K C f=true:=c.pg
def jD(K:bN)(C:Addr)(f:Str):Prop:=Of K (.ref C) f=some none
theorem jD.JJ {K:bN}(n:jD K C f):Rg K C f=some none:=by
 unfold Rg;rw[show Of K (.ref C) f=some none from n];rfl
structure Meth(K:bN) (C:Addr) (m:Str) (f:Addr):Prop where
 at_:Of K (.ref C) m=some (some (.ref f))
 fn:PySem.W.isFn K (.ref f)=true
 kp:Pd K (.ref f)=true
theorem yK (I:Inv X pins σ H s)(e:H a=some (.ins C dx fs))(c:GF X.K C)(n:jD X.K C f)(l:fs.lookup f=some v)(h:∀u s',Inv X pins σ H s'->RelV v u->Q u s'):Nd (Nj X.prog X.w) A (UR (.ref a) f b) Q E s:=by
 have(g,O,r,_,_,_):=zI I.hok e;have(u,j,d):=lA.some_of (v:=v) (o:=g f) (by rw[<-l];exact r f);exact get_map I.rY O (c.get f) c.hd n j (uJ d) (h u _ (I.tok _) d)
theorem yL (I:Inv X pins σ H s)(e:H a=some (.ins C dx fs))(c:GF X.K C)(n:jD X.K C f)(L:fs.length<1000)(t:RelV y u)(h:∀s',Inv X pins σ (upd H a (.ins C dx (aX f y fs))) s'->Q Unit.unit s'):Nd (Nj X.prog X.w) A (setAttr (.ref a) f u) Q E s:=by
 have(l,O,r,j,_,m):=zI I.hok e;have B:(fs.map (·.1)).length<=mH:=by rw[bM,Qo];omega
 refine El I.rY O c.sa c.po n.JJ c.hd j B λJ d p=>h _ ?_;have hd:∃o,J.get? dx=some o:=let⟨o,_,_,e',_⟩:=d.ns;#[o,e'];refine I.write (x:=a) (e:=dx) (by rw[e];exact True.intro) (.inr m) (λb q G z=>(p.2 b G).trans z) hd ?_;refine#[by rw[au O.ne];exact m,?_,O.ne,d.obj,_,d.ns,λg=>?_,λg D=>?_]
 .have:=qR f y fs;omega
 .show lA ((aX f y fs).lookup g) (if g=f then some u else l g);rw[qQ]
  by_cases q:g=f
  .rw[if_pos q,if_pos q];exact t
  .rw[if_neg q,if_neg q];exact r g
 .by_cases q:g=f
  .rw[q];exact(qD f y fs).1
  .refine(qD f y fs).2 g (j g λz=>D ?_);show(if g=f then some u else l g)=none;rw[if_neg q];exact z
theorem Inv.made (I:Inv X pins σ H s):Inv X pins σ (upd (upd H s.heap.objs.size (.own (s.heap.objs.size+1))) (s.heap.objs.size+1) (.ins C s.heap.objs.size []))
  {s with heap:=(s.heap.push OO).push (Pb C s.heap.objs.size)}:=by
 have g:(s.heap.push OO).get? s.heap.objs.size=some OO:=Nh s.heap rfl
 have p:((s.heap.push OO).push (Pb C s.heap.objs.size)).get? (s.heap.objs.size+1)=some (Pb C s.heap.objs.size):=by
  have:=Nh (s.heap.push OO) (o:=Pb C s.heap.objs.size) rfl
  rwa [Oh]at this
 have m:(s.heap.push OO).Ns s.heap.objs.size (λ_=>none):=#[OO,#[],_,g,rfl,(λe l=>absurd l (by simp)),λ_=>rfl];have r:=I.laid (a:=s.heap.objs.size) (o:=.own (s.heap.objs.size+1)) (h':=s.heap.push OO) (t':=s.toks) (λb u q=>pC _ q) (lj _) #[_,g];refine r.laid (a:=s.heap.objs.size+1) (o:=.ins C s.heap.objs.size []) (t':=s.toks) (λb u q=>pC _ q) (Uq (Oh _ _)) ?_;have d:s.heap.objs.size≠s.heap.objs.size+1:=ND (Pp _);refine#[by rw[au d,af],Nu _,d,p,λ_=>none,(Heap.Ns1.of_empty m).at λo q=>pC _ q,λ_=>True.intro,λy j=>absurd rfl j]
theorem zJ (j:QD e f d (eval e d)=eval e d)(h:Nd (Nj prog w) A (eval e d) (λo g=>Nd (Nj prog w) A (UR o f true) Q E g) E s):Nd (Nj prog w) A (eval (.Attribute e f pos) d) Q E s :=
 Attribute_any_ h (by rw[arm_eval_Attribute,j])
def Lj(K:bN)(ta:TE)(f:Str):TE:=λe H Q=>ta e H λx d=>∃a C g fs v,x=.ref a/\d a=some (.ins C g fs)/\GF K C/\jD K C f/\fs.lookup f=some v/\Q v d
def Lk(K:bN)(ta j:TE)(f:Str):TS:=λD d H=>j d H λy l=>ta d l λx g=>∃a C e fs,x=.ref a/\g a=some (.ins C e fs)/\GF K C/\jD K C f/\fs.length<1000 /\
 D.nx d (upd g a (.ins C e (aX f y fs)))
theorem jU (p:PE X e ta)(r:QD e f X.env (eval e X.env)=eval e X.env):PE X (.Attribute e f pos) (Lj X.K ta f):=by
 intro d s g H Q I h;refine zJ r (cR (p d s g H _ I h) λu J ⟨x,B,z,j,a,C,L,fs,v,ex,t,c,n,l,q⟩=>?_);subst ex;obtain rfl:u=Value.ref a:=j;exact yK z t c n l λD G y m=>#[v,B,y,m,q]
theorem qE {o value:Expr}{f:Str}{pos pos':Pos}{ta tv:TE}(z:PE X o ta)(v:PE X value tv)(hs:Rq value (some (.Attribute o f pos')) pos.line X.env=pure false):PS X (.Assign [.Attribute o f pos'] value pos) (Lk X.K ta tv f):=by
 intro d s g H D I h;refine Rh (cR (v d s g H _ I h) λu j ⟨y,M,L,m,q⟩=>cR (z d j g M _ L q) λt O ⟨x,R,J,p,a,C,Q,fs,ex,B,c,n,l,r⟩=>?_) hs;subst ex;obtain rfl:t=Value.ref a:=p;exact yL J B c n l m λN G=>#[g,_,G,r]
structure di(k:Nat) (A:Nx):Prop where
 hd:A.handled=none
 dp:A.depth+2*k+5<recursionLimit
 un:A.units+16*k+200<Ri
 gd:A.guards=some []
theorem di.mono (r:di k A)(h:j<=k):di j A:=#[r.hd,by have:=r.dp;omega,by have:=r.un;omega,r.gd]
theorem di.deeper (r:di (k+1) A)(d:Env):di k (A.deeper d) :=
 #[r.hd,by have:=r.dp;show A.depth+1+2*k+5<_;omega,by have:=r.un;show A.units+3+16*k+200<_;omega,r.gd]
theorem yM {A:Nx}:(A.under (.builtin "type.__call__" #[.ref C::us,d])).depth=A.depth+1:=by
 first|rfl|simp[S1,Code.weight,Code.isCreation,Code.isGuard,Code.isCaller,Code.frames,Ur,guardIds]
theorem yN {A:Nx}:(A.under (.builtin "type.__call__" #[.ref C::us,d])).units=A.units+1:=by
 first|rfl|simp[S1,Code.cUnits,Code.frames,Ur]
theorem xm {A:Nx}:(A.under (.builtin "type.__call__" #[.ref C::us,d])).guards=A.guards:=by
 first|rfl|simp[S1,pushGuards,Code.guards,Code.isGuard,guardIds]
theorem di.make (r:di (k+1) A)(C:Addr)(us:List eF)(d:List (Str×eF)):di k (A.under (.builtin "type.__call__" #[.ref C::us,d])) :=
 #[r.hd,by have:=r.dp;rw[yM];omega,by have:=r.un;rw[yN];omega,by rw[xm];exact r.gd]
theorem di.depth (r:di k A):A.depth<recursionLimit:=by have:=r.dp;omega
theorem di.units (r:di k A):A.units+64<Ri:=by have:=r.un;omega
abbrev xo:TA:=λ_ H Q=>Q [] H
abbrev Mz(x:V)(Q:List V->Hp->Prop):List V->Hp->Prop:=λd e=>Q (x::d) e
abbrev MA(e:TA)(d:St)(Q:List V->Hp->Prop):VK:=λx g=>e d g (Mz x Q)
abbrev oq(ta:TE)(e:TA):TA:=λd H Q=>ta d H (MA e d Q)
theorem aA :PA X [] xo:=λ_ _ _ _ H Q I h=>Calls.spliced_nil #[[],H,I,.nil,h]
theorem bJ (p:PE X e te)(hr:PA X es t)(hs:Ob (e::es) X.env=(false,eval e X.env)::Ob es X.env:=by rfl):PA X (e::es) (oq te t):=by
 intro pos d s g H Q I h;rw[hs];show Nd _ _ (spliced ((false,eval e X.env)::RV pos (Ob es X.env))) _ _ s;refine Calls.spliced_cons (cR (p d s g H _ I h) λu l ⟨x,y,r,m,q1⟩=>?_);exact cR (hr pos d l g y _ r q1) λz B ⟨j,v,q,r2,o⟩=>#[x::j,v,q,.cons m r2,o]
def MB(Q:VK):List V->Hp->Prop:=λd g=>d.length<=mH/\∀p,g p=none->Q (.ref p) (upd g p (.tup d))
def MC(Q:VK):List V->Hp->Prop:=λd g=>d.length<=mH/\∀p,g p=none->Q (.ref p) (upd g p (.lst d))
abbrev yO(t:TA):TE:=λd H Q=>t d H (MB Q)
abbrev HK(t:TA):TE:=λd H Q=>t d H (MC Q)
theorem fH {es:List Expr}{t:TA}{pos:Pos}{x1}(h:PA X es t):PE X (.Tuple es x1 pos) (yO t):=by
 intro d s m H Q I v;refine wpAny_Tuple_spliced (cR (h pos d s m H _ I v) λp g ⟨o,l,j,r,z,q⟩=>#[by rw[<-r.length];exact z,?_]);have y:l g.heap.objs.size=none:=j.hok.fresh (lj _);refine#[.ref g.heap.objs.size,upd l g.heap.objs.size (.tup o),j.laid (t':=g.toks) (λb u e=>pC _ e) (lj _) ?_,rfl,q _ y];exact#[z,p,r,#[_,Nh _ rfl,rfl,_,rfl],_,Nh _ rfl,rfl]
theorem dB {es:List Expr}{t:TA}{pos:Pos}(h:PA X es t):PE X (.List es pos) (HK t):=by
 intro d s m H Q I v;refine wpAny_List_spliced (cR (h pos d s m H _ I v) λp g ⟨o,l,j,r,z,q⟩=>#[by rw[<-r.length];exact z,?_]);have y:l g.heap.objs.size=none:=j.hok.fresh (lj _);refine#[.ref g.heap.objs.size,upd l g.heap.objs.size (.lst o),j.laid (t':=g.toks) (λb u e=>pC _ e) (lj _) ?_,rfl,q _ y];exact#[z,p,0,r,Nh _ rfl]
abbrev Sp:=List V->Hp->VK->XK->Prop
abbrev wU:=List Env->Hp->fy->XK->eF->fy->Prop
structure yP(P:IF) (w:Nn) (K:bN) (mg:Str->Option eF) (base:Heap) (A:Nx) (outer:List Env) (s:fy) (H:Hp):Prop where
 frames:A.frames=some outer
 mod:Mod K mg base
 bs:∀b o,base.get? b=some o->s.heap.get? b=some o/\H b=none
 bsz:base.objs.size<=s.heap.objs.size
 qz:s.heap.FunFrames base outer
 frf:∀b∈frs outer,H b=none
 hok:mL P w H s.heap
 bare:RS s.gens
def CE(outer:List Env)(P:IF)(w:Nn)(H:Hp)(s:fy)(Q:VK)(u:eF)(s':fy):Prop :=
 ∃v d,s'.os=s.os/\RS s'.gens/\Un (frs outer) [] H d s.heap s'.heap/\mL P w d s'.heap/\RelV v u/\Q v d
def CR(CX:wU)(outer:List Env)(P:IF)(w:Nn)(H:Hp)(s:fy)(Q:VK)(E:XK)(r:Q2)(s':fy):Prop :=
 match r with
 |.ok (.ret u)=>CE outer P w H s Q u s'
 |.ok _=>False
 |.error e=>CX outer H s E e s'
structure cA(P:IF) (w:Nn) (K:bN) (mg:Str->Option eF) (base:Heap) (CX:wU) (k:Nat) (f:Addr) (fd:L1) (ps:List Str) (sp:Sp):Prop where
 len:∀vs H Q E,sp vs H Q E->vs.length=ps.length
 run:∀(A:Nx) (outer:List Env) (s:fy) (H:Hp) (args:Args) (us:List eF) (vs:List V) (Q:VK) (E:XK),di k A->yP P w K mg base A outer s H->Us s fd args (ps.zip us)->Vals vs us->sp vs H Q E ->
  OW (Nj P w) A (.call (.ref f) args) (CR CX outer P w H s Q E) s
theorem yP.make {K:bN}(e:yP P w K mg base A outer s H)(C:Addr)(us:List eF)(d:List (Str×eF)):
  yP P w K mg base (A.under (.builtin "type.__call__" #[.ref C::us,d])) outer s H:=#[by first|exact e.frames|(simpa[S1,Code.envs,Ur,pushEnvs]using e.frames),e.mod,e.bs,e.bsz,e.qz,e.frf,e.hok,e.bare]
theorem Inv.HL (I:Inv X pins σ H s):yP X.prog X.w X.K X.mg X.base X.A X.stack s H :=
 #[I.ok.frames,I.ok.mod,I.bs,Nz I.ok.bsz I.sz,I.stack,I.vF,I.hok,I.bare]
theorem Inv.after (I:Inv X pins σ H s)(h:CE X.stack X.prog X.w H s Q u s'):EP X pins σ Q u s':=by
 have(v,p,m,e,un,l,r,q):=h;have(o,g,d,t,j):=s';obtain rfl:j=s.os:=m;exact#[v,p,I.call (h':=o) (g':=g) (d':=d) (t':=t) (ch:=[]) un l e (λb z=>absurd z (by simp)),r,q]
abbrev MD(sp:Sp)(d:List V)(E:XK)(Q:VK):List V->Hp->Prop:=λe g=>sp (e++d) g Q E
abbrev JK(sp:Sp)(d:List V)(E:XK)(t:TA):TE:=λe H Q=>t e H (MD sp d E Q)
def JL(C:Addr)(sp:Sp)(e:List V)(E:XK)(t:TA):TE:=λj H Q=>t j H λl g=>∀x d,g x=none->g d=none->d≠x ->
 sp (.ref x::(l++e)) (upd (upd g d (.own x)) x (.ins C d [])) (λv m=>v=.eN/\Q (.ref x) m) E
def Binds(K:bN)(e:L1)(ps:List Str)(ds:List eF):Prop :=
 ∀(s:fy) (d:List eF),K.In s.heap->(d++ds).length=ps.length->Us s e #[d,[]] (ps.zip (d++ds))
theorem Binds.all {K:bN}(h:∀us:List eF,us.length=ps.length->bindArgs e #[us,[]]=pure (ps.zip us)):Binds K e ps []:=λs us _ d=>by
 rw[NF]at d|-;exact .of_eq (h us d)
def Passes(CX:wU)(X:Cx)(E:XK):Prop:=∀(d:List (Addr×Obj)) (j:St) (H:Hp) (s:fy) (e:eF) (g:fy),Inv X d j H s->CX X.stack H s E e g->X.xe e g
theorem HM {sp:Sp}(F:cA X.prog X.w X.K X.mg X.base CX k f fd ps sp)(hr:di k X.A)(y:Binds X.K fd ps ds)(hd:Vals dvs ds)(q:Passes CX X E)(I:Inv X d j H s)(r:Vals vs us)(h:sp (vs++dvs) H Q E):Nd (Nj X.prog X.w) X.A (call (.ref f) us) (EP X d j Q) X.xe s:=by
 have r2:Vals (vs++dvs) (us++ds):=r.append hd;have v:(us++ds).length=ps.length:=by rw[<-r2.length];exact F.len _ _ _ _ h
 refine R3 (Qt (F.run X.A X.stack s H #[us,[]] (us++ds) (vs++dvs) Q E hr I.HL (y s us I.rY v) r2 h) λr l g=>?_)
 cases r with
 |error e=>exact q d j H s e l I g
 |ok fl =>
  cases fl with
  |ret u=>exact I.after g
  |next=>exact OE g
  |brk=>exact OE g
  |cont=>exact OE g
theorem eJ {CX:wU}{k:Nat}{f:Addr}{fd:L1}{ps:List Str}{sp:Sp}{dvs:List V}{ds:List eF}{E:XK}{x:Str}{p pos:Pos}{e:Expr}{es:List Expr}{t:TA}(F:cA X.prog X.w X.K X.mg X.base CX k f fd ps sp)(hr:di k X.A)(y:Gl X x)(u:X.mg x=some (.ref f))(v:Pd X.K (.ref f)=true)(z:Binds X.K fd ps ds)(hd:Vals dvs ds)(l:Passes CX X E)(ha:PA X (e::es) t)(hdb:(x == ("__debug__":Str))=false:=by decide)(he:Ob (e::es) X.env=(false,eval e X.env)::Ob es X.env:=by rfl)(hpl:(RV pos (Ob es X.env)).any (·.1)=false:=by rfl):
  PE X (.Call (.Name x p) (e::es) [] pos) (JK sp dvs E t):=by
 intro d s j H Q I h;refine O6 (pe I y u ?_ hdb);refine Ue (h₀:=X.base) I.ok.mod.kin v (cR (ha pos d s j H _ I h) λD G ⟨B,J,g,r,q⟩=>#[g.rY,?_]) he hpl;exact HM F hr z hd l g r q
structure Mk(K:bN) (C f:Addr):Prop where
 makes:UP K C=true
 init:Of K (.ref C) "__init__"=some (some (.ref f))
 fn:PySem.W.isFn K (.ref f)=true
 kp:Pd K (.ref C)=true
theorem B7 {sp:Sp}(M:Mk X.K C f)(F:cA X.prog X.w X.K X.mg X.base CX k f fd ps sp)(hr:di (k+1) X.A)(J:Binds X.K fd ps ds)(hd:Vals dvs ds)(hx:Passes CX X E)(I:Inv X d q H s)(r:Vals vs us)(h:∀x j,H x=none->H j=none->j≠x->sp (.ref x::(vs++dvs)) (upd (upd H j (.own x)) x (.ins C j [])) (λv O=>v=.eN/\Q (.ref x) O) E):
  Nd (Nj X.prog X.w) X.A (call (.ref C) us) (EP X d q Q) X.xe s:=by
 have y:=h (s.heap.objs.size+1) s.heap.objs.size (I.hok.fresh (OC _)) (I.hok.fresh (lj _)) (ND (Pp _));have l:=Inv.made (C:=C) I;have r2:Vals (V.ref (s.heap.objs.size+1)::(vs++dvs)) (Value.ref (s.heap.objs.size+1)::(us++ds)):=.cons rfl (r.append hd)
 have G:(Value.ref (s.heap.objs.size+1)::us++ds).length=ps.length:=by
  have e:=r2.length;rw[F.len _ _ _ _ y]at e;exact e.symm
 refine R3 (B6 (f:=f) I.rY M.makes M.init (beq_iff_eq.mp M.fn) (Qt (F.run _ X.stack _ _ #[Value.ref (s.heap.objs.size+1)::us,[]] (Value.ref (s.heap.objs.size+1)::(us++ds)) _ _ E (hr.make C us [])
  (l.HL.make C us []) (J _ (Value.ref (s.heap.objs.size+1)::us) l.rY G) r2 y) λr z g=>?_))
 cases r with
 |error e=>exact hx d q _ _ e z l g
 |ok fl =>
  cases fl with
  |ret u =>
   have(v,R,N,B,L,D):=l.after g;subst L;exact#[B,#[V.ref (s.heap.objs.size+1),R,N,rfl,D]]
  |next=>exact OE g
  |brk=>exact OE g
  |cont=>exact OE g
theorem Em {CX:wU}{k:Nat}{f C:Addr}{fd:L1}{ps:List Str}{sp:Sp}{dvs:List V}{ds:List eF}{E:XK}{x:Str}{p pos:Pos}{e:Expr}{es:List Expr}{t:TA}(M:Mk X.K C f)(F:cA X.prog X.w X.K X.mg X.base CX k f fd ps sp)(hr:di (k+1) X.A)(v:Gl X x)(u:X.mg x=some (.ref C))(y:Binds X.K fd ps ds)(hd:Vals dvs ds)(l:Passes CX X E)(ha:PA X (e::es) t)(hdb:(x == ("__debug__":Str))=false:=by decide)(he:Ob (e::es) X.env=(false,eval e X.env)::Ob es X.env:=by rfl)(hpl:(RV pos (Ob es X.env)).any (·.1)=false:=by rfl):
  PE X (.Call (.Name x p) (e::es) [] pos) (JL C sp dvs E t):=by
 intro d s j H Q I h;refine O6 (pe I v u ?_ hdb);refine Ue (h₀:=X.base) I.ok.mod.kin M.kp (cR (ha pos d s j H _ I h) λB D ⟨z,G,g,r,q⟩=>#[g.rY,?_]) he hpl;exact B7 M F hr y hd l g r q
structure aZ(N P:List Str) (sc:OG):Prop where
 kind:sc.kind=.function
 co:sc.isCoroutine=false
 gen:sc.isGenerator=false
 nd:N.Nodup
 pre:N.take P.length=P
 par:∀x∈P,sc.names.lookup x=some .local\/sc.names.lookup x=some .cell
 nofree:∀y∈sc.names,y.2≠.free
theorem uK :∀{binds:List (Str×eF)}{m:Str->Option eF},(∀v,(x,v)∉binds)->UU d binds m x=m x
 | [],_,_=>rfl
 |(n,v)::r,m,h=>by
  unfold UU;rw[uK λw e=>h w (Og _ e)]
  split
  .have:x≠n:=by rintro rfl;exact h v OL
   simp[this]
  .rfl
theorem uL :∀{binds:List (Str×eF)}{m:Str->Option eF},(∀v,(x,v)∉binds)->UW d binds m x=m x
 | [],_,_=>rfl
 |(n,v)::r,m,h=>by
  unfold UW;rw[uL λw e=>h w (Og _ e)]
  split
  .rfl
  .have:x≠n:=by rintro rfl;exact h v OL
   simp[this]
theorem uM :∀{P:List Str}{vs:List eF}{i:Nat}{m:Str->Option eF},P.Nodup->P[i]?=some x->vs[i]?=some v->d x=some .local ->
  UU d (P.zip vs) m x=some v
 | [],_,_,_,_,h,_,_=>by simp at h
 |_::_,[],_,_,_,_,h,_=>by simp at h
 |p::P,w::vs,0,m,nd,h1,h2,hk=>by
  simp at h1 h2;subst h1;subst h2;show UU d ((p,w)::P.zip vs) m p=_;unfold UU;rw[uK λv e=>(O5.mp nd).1 (Pe e).1,if_pos hk];simp
 |p::P,w::vs,i+1,m,nd,h1,h2,hk=>by
  show UU d ((p,w)::P.zip vs) m x=_;unfold UU;exact uM (i:=i) (O5.mp nd).2 (by simpa using h1) (by simpa using h2) hk
theorem uN :∀{P:List Str}{vs:List eF}{i:Nat}{m:Str->Option eF},P.Nodup->P[i]?=some x->vs[i]?=some v->d x≠some .local ->
  UW d (P.zip vs) m x=some v
 | [],_,_,_,_,h,_,_=>by simp at h
 |_::_,[],_,_,_,_,h,_=>by simp at h
 |p::P,w::vs,0,m,nd,h1,h2,hk=>by
  simp at h1 h2;subst h1;subst h2;show UW d ((p,w)::P.zip vs) m p=_;unfold UW;rw[uL λv e=>(O5.mp nd).1 (Pe e).1,if_neg hk];simp
 |p::P,w::vs,i+1,m,nd,h1,h2,hk=>by
  show UW d ((p,w)::P.zip vs) m x=_;unfold UW;exact uN (i:=i) (O5.mp nd).2 (by simpa using h1) (by simpa using h2) hk
noncomputable def start(N:List Str)(vs:List V):St:=vs.map some++Ng (N.length-vs.length) none
noncomputable def vI(CX:wU)(P:IF)(w:Nn)(K:bN)(mg:Str->Option eF)(base:Heap)(N:List Str)(d:Str)(scope:OG)(f:Addr)(j:eF)(A:Nx)(outer:List Env)(s:fy)(H:Hp)(E:XK):Cx where
 prog:=P
 w:=w
 K:=K
 mg:=mg
 base:=base
 A:=A.deeper (Np d scope s.heap.objs.size f j)
 N:=N
 s₀:=s
 H₀:=H
 env:=Np d scope s.heap.objs.size f j
 outer:=outer
 stack:=Np d scope s.heap.objs.size f j::outer
 ex:=[]
 calm:=true
 fn:=λ_=>true
 pn:=[]
 xe:=λe l=>Nd (Nj P w) (A.deeper (Np d scope s.heap.objs.size f j)) (leaving (Np d scope s.heap.objs.size f j) e) (λ_ g=>CX outer H s E e g) (λm g=>CX outer H s E m g) l
theorem xq {d:OG}(h:d.names.lookup x=some .cell):∃c,(UE n d.names []).lookup x=some c:=by
 have q:=Q3 d.names n [] (.inl h);exact Option.isSome_iff_exists.mp q
theorem uO {K:bN}(S:aZ N ps scope)(hd:A.handled=none)(e0:yP P w K mg base A outer s H)(hl:vs.length=ps.length)(r:Vals vs us)(x:InCallC s s.heap.objs.size (UU (Np d scope s.heap.objs.size f B).kindOf (ps.zip us) λ_=>none) (UE (s.heap.objs.size+1) scope.names []) (UW (Np d scope s.heap.objs.size f B).kindOf (ps.zip us) λ_=>none) C):
  Inv (vI CX P w K mg base N d scope f B A outer s H E) [] (start N vs) H C:=by
 have J:ps.length<=N.length:=by have:=congrArg QO S.pre;rw[I0]at this;omega
 have(t,M,rfl,G):=x.done;have j:∀b:Addr,b∉(vI CX P w K mg base N d scope f B A outer s H E).ex:=λb z=>absurd (show b∈([]:List Addr)from z) (by simp)
 refine#[#[e0.mod,S.kind,rfl,rfl,lj _,λy z c t g=>?_,λy hy=>?_,λy c _ h=>?_,λ_=>hd,Nx.frames_deeper e0.frames,.inr #[rfl,rfl],λb z=>absurd z (j b),e0.bs,e0.bsz,λb _ _=>j b,λb z=>absurd z (j b),e0.qz,e0.frf],
  rfl,e0.bare,Un.kept G,#[_,x.toInCall.ns,λi y v t g O=>?_],λy c h=>#[_,x.cell y c h],e0.hok.fresh (lj _),λy c h=>?_,λp m=>absurd (show p∈([]:List (Addr×Obj))from m) (by simp),e0.hok.kept G,?_]
 .exact name_of_addr x.apart (ON t) (ON g)
 .have hy:scope.names.lookup y=some .cell\/scope.names.lookup y=some .free:=hy;rcases hy with hy|hy
  .exact xq hy
  .exact absurd rfl (S.nofree _ (ON hy))
 .exact Ot (x.above y c (ON h))
 .have o:i<vs.length:=by
   unfold start at g
   by_cases o:i<vs.length
   .exact o
   .rw[NR (by simpa using o)]at g;rw[P4]at g
    split at g<;>cases g
  have L:vs[i]?=some v:=by
   unfold start at g;rw[N9 (by simpa using o),xn]at g
   cases e:vs[i]? with
   |none=>rw[e]at g;cases g
   |some a=>rw[e]at g;cases g;rfl
  have(u,D,I):=r.get L
  have m:ps[i]?=some y:=by
   rw[<-S.pre,List.getElem?_take_of_lt ()];exact t
  have l:ps.Nodup:=by rw[<-S.pre];exact S.nd.sublist (Ql _ _)
  refine#[u,I,?_];rcases S.par y (Nf m)with k|k
  .exact .inl #[k,uM l m D k]
  .have(c,e):=xq (n:=s.heap.objs.size+1) k;refine .inr #[.inl k,c,e,?_];have q:=x.cell y c e;rw[uN l m D (by show scope.names.lookup y≠_;rw[k];decide)]at q;exact q
 .exact e0.hok.fresh (Ot (x.above y c (ON h)))
 .unfold start;show _=N.length;rw[i4,bM,OQ];omega
theorem GG {K:bN}{T kV:eF}{sp:Sp}(lk:K.lookup f=some #[oc,od,.func (Q4 name d g j scope T kV D R X cdv ct),osl])(hcd:Sy K cdv d=true)(S:aZ N ps scope)(len:∀vs H Q E,sp vs H Q E->vs.length=ps.length)(hbody:∀(A:Nx) (outer:List Env) (s:fy) (H:Hp) (vs:List V) (Q:VK) (E:XK),di k (A.deeper (Np d scope s.heap.objs.size f cdv))->sp vs H Q E ->
   ∃t,qP (vI CX P w K mg base N d scope f cdv A outer s H E) j t/\t {nx:=λ_ m=>Q .eN m,rt:=Q} (start N vs) H):
  cA P w K mg base CX (k+1) f (Q4 name d g j scope T kV D R X cdv ct) ps sp:=by
 refine#[len,λA outer s H U Z vs Q E hr C hb r B=>?_];have hl:=len _ _ _ _ B;have Y:K.In s.heap:=C.mod.kin.keeps λb o e=>(C.bs b o e).1;have M:s.heap.NoLimit:=C.mod.nolimit.keeps λb o e=>(C.bs b o e).1
 have p:∀y∈ps.zip Z,scope.names.lookup y.1=some .local\/(scope.names.lookup y.1=some .cell/\((UE (s.heap.objs.size+1) scope.names []).lookup y.1).isSome=true):=λ⟨n,v⟩ hy=>by
  rcases S.par n (Pe hy).1 with q|q
  .exact .inl q
  .exact .inr #[q,Q3 _ _ _ (.inl q)]
 refine Ti hr.depth (Y _ _ lk) rfl S.co S.gen rfl (Ug Y hcd) (hb _ _ _ _ ?_);refine R4 S.kind p λaa he O x=>?_;subst he;refine#[M.keeps x.toInCall.keep,codeAny_func ?_];have(t,ht,hq):=hbody A outer s H vs Q E (hr.deeper _) B;have I:Inv (vI CX P w K mg base N d scope f cdv A outer s H E) [] (start N vs) H O:=uO S hr.hd C hl r x;refine NG (ht [] O (start N vs) H _ I hq) (λfl G z=>?_) λe G z=>z
 have fin:∀{l:St}{m:Hp}{v:V}{u:eF},Inv (vI CX P w K mg base N d scope f cdv A outer s H E) [] l m G->RelV v u->Q v m->CE outer P w H s Q u G :=
  λ{l m v u} J L q=>#[v,m,J.os,J.bare,J.base,J.hok,L,q]
 cases fl with
 |ret u =>
  have(v,l,m,J,L,q):=z;exact fin J L q
 |next =>
  have(l,m,J,q):=z;exact fin (v:=V.eN) (u:=Value.none) J rfl q
 |brk =>
  have(_,_,_,q):=z;exact OE q
 |cont =>
  have(_,_,_,q):=z;exact OE q
abbrev ME(r:List V->Hp->VK->Prop)(Q:VK):List V->Hp->Prop:=λd g=>r d g Q
abbrev Ll(r:List V->Hp->VK->Prop)(t:TA):TE:=λd H Q=>t d H (ME r Q)
theorem pK {x:Str}{p pos:Pos}{e:Expr}{es:List Expr}{t:TA}{id:String}{r:List V->Hp->VK->Prop}(z:iQ X (.builtin id) r)(y:Gl X x)(v:X.mg x=none)(u:QW x=some (.builtin id))(B:PA X (e::es) t)(hn:x≠"__name__":=by decide)(g:(x == ("__debug__":Str))=false:=by decide)(he:Ob (e::es) X.env=(false,eval e X.env)::Ob es X.env:=by rfl)(hpl:(RV pos (Ob es X.env)).any (·.1)=false:=by rfl):PE X (.Call (.Name x p) (e::es) [] pos) (Ll r t):=by
 intro d s j H Q I h;refine O6 (qA I y v u ?_ hn g);exact PyProof.Rows.callWith_builtin1 (cR (B pos d s j H _ I h) λm o ⟨l,D,C,q,q1⟩=>z d o j D l m Q C q q1) he hpl
theorem AS {x:Str}{p pos:Pos}{e:Expr}{es:List Expr}{t:TA}{T:String}{r:List V->Hp->VK->Prop}(z:iQ X (.type T) r)(y:Gl X x)(v:X.mg x=none)(u:QW x=some (.type T))(B:PA X (e::es) t)(hn:x≠"__name__":=by decide)(g:(x == ("__debug__":Str))=false:=by decide)(he:Ob (e::es) X.env=(false,eval e X.env)::Ob es X.env:=by rfl)(hpl:(RV pos (Ob es X.env)).any (·.1)=false:=by rfl):PE X (.Call (.Name x p) (e::es) [] pos) (Ll r t):=by
 intro d s j H Q I h;refine O6 (qA I y v u ?_ hn g);exact Pk (cR (B pos d s j H _ I h) λm o ⟨l,D,C,q,q1⟩=>z d o j D l m Q C q q1) he hpl
end L2
namespace HT
open PySem PyProof.Rows
section
open PySem.SeqAt
open PySem.AutoSeq1 (wpAny_loadPart')
open PySem.MeetsSeq PySem.MeetsSeq2 PySem.MeetsSeq3
end
theorem En (ht:UT s.heap t vs.toArray)(D:UT s.heap b d.toArray)(y:vs≠[])(h1:d=[]->Q (.ref t) s)(h2:d≠[]->Q (.ref s.heap.objs.size) {s with heap:=s.heap.push {cls:=.type "tuple",data:=.seq (vs++d).toArray}})(hsz:vs.length+d.length<=mH):Nd (Nj prog w) A (PX .Add (.ref t) (.ref b)) Q E s:=by
 have((cls,B,data,u),q,z,n,hd):=id ht;have((C,o,r,j),g,m,v,l):=id D;simp only at z hd m l;subst z hd m l;have e:vs.toArray++d.toArray=(vs++d).toArray:=by simp
 by_cases p:d=[]
 .exact Ut #[_,q,rfl] #[_,g,rfl] SN T7 Q5 QS (QE _ _)
   (tuple_addW1 t b vs.toArray d.toArray n v B o u j (by simpa using y) (by simp[p])) #[q,g,h1 p]
 .refine Ut #[_,q,rfl] #[_,g,rfl] SN T7 Q5 QS (QE _ _)
   (tuple_addW2 t b vs.toArray d.toArray n v B o u j (by simpa using y) (by simpa using p) (by rw[Nb,Nb];exact hsz)) #[q,g,?_]
  rw[e];exact h2 p
noncomputable def ir(n d:Nat):Option Int->Nat
 |none=>d
 |some v=>if v<0 then(v+(n:Int)).toNat else min v.toNat n
theorem sD (n d:Nat):ir n d none=d:=rfl
theorem j9 (n d k:Nat):ir n d (some (k:Int))=min k n:=by
 show(if(k:Int)<0 then((k:Int)+(n:Int)).toNat else min (k:Int).toNat n)=min k n;rw[if_neg (),OP]
theorem HN (n d:Nat)(hd:d<=n)(o:Option Int):ir n d o<=n:=by
 cases o with
 |none=>exact hd
 |some v =>
  show(if v<0 then(v+(n:Int)).toNat else min v.toNat n)<=n
  by_cases e:v<0
  .rw[if_pos e];omega
  .rw[if_neg e];exact Nat.min_le_right _ _
theorem zK (v:Int)(n d:Nat):(if v<0 then max (v+(n:Int)) 0 else min v (n:Int))=((ir n d (some v):Nat):Int):=by
 show(if v<0 then max (v+(n:Int)) 0 else min v (n:Int))=(((if v<0 then(v+(n:Int)).toNat else min v.toNat n):Nat):Int)
 by_cases e:v<0
 .simp only[if_pos e];omega
 .simp only[if_neg e];omega
theorem yQ (d hi:Option Int)(n:Nat):Qy d hi 1 (n:Int)=(((ir n 0 d:Nat):Int),((ir n n hi:Nat):Int)):=by
 have e:¬((1:Int)<0):=()
 unfold Qy;simp only[e,if_false];refine Prod.ext ?_ ?_
 .cases d with
  |none=>rfl
  |some v=>exact zK v n 0
 .cases hi with
  |none=>rfl
  |some v=>exact zK v n n
theorem yR (i j:Nat):Ox (i:Int) (j:Int) 1=j-i:=by
 unfold Ox;have d:(1:Int)>0:=()
 simp only[d,if_true,Uu]
 split<;>omega
theorem jV (p:Sz v o)(h:Q o s):Nd (Nj prog w) A (QZ.Slice.slicePartIndex v) Q E s:=by
 cases p with
 |none=>exact slicePart_none h
 |int i t=>exact slicePart_int h
theorem kO {d hi:Option Int}{n:Nat}{Q:Int×Int×Nat->fy->Prop}(hs:s.heap.IsSliceOf m l j .none)(pl:Sz l d)(o:Sz j hi)(h:Q (((ir n 0 d:Nat):Int),1,ir n n hi-ir n 0 d) s):Nd (Nj prog w) A (Pz (.ref m) (pure (n:Int))) Q E s:=by
 have(q,e,p,g):=id hs;unfold Pz Sg;refine cB (cB (NZ e g (x:=l) rfl (cB (NZ e g (x:=j) rfl (cB (NZ e g (x:=.none) rfl (tF ?_)))))));refine cB (slicePart_none ?_);show Nd _ _ (if((1:Int) == 0)=true then _ else _) _ _ s;rw[if_neg (by decide)];refine cB (jV pl (cB (jV o (cB (tF ?_)))));show Nd _ _ (match Qy d hi 1 (n:Int)with|(d,hi)=>pure (d,(1:Int),Ox d hi 1)) _ _ s
 rw[yQ d hi n];show Nd _ _ (pure (((ir n 0 d:Nat):Int),(1:Int),Ox ((ir n 0 d:Nat):Int) ((ir n n hi:Nat):Int) 1)) _ _ s;rw[yR];exact tF h
theorem B8 (xs:Array eF)(i k:Nat):((Pc k).filterMap λ(m:Nat)=>xs[((i:Int)+(m:Int)*1).toNat]?).toArray=((xs.toList.drop i).take k).toArray:=by
 have e:(λ(m:Nat)=>xs[((i:Int)+(m:Int)*1).toNat]?)=λm=>xs[i+m]?:=by
  funext m
  have:((i:Int)+(m:Int)*1).toNat=i+m:=()
  rw[this]
 rw[e];have:=pick_run xs i k;rw[Uh]at this;have d:((λx=>xs[x]?) ∘ λx=>i+x)=λm=>xs[i+m]?:=rfl;rw[d]at this;rw[this]
theorem pL (ht:UT s.heap t items)(hs:s.heap.IsSliceOf g u r .none)(pl:Sz u e)(v:Sz r hi)(hw:¬(ir items.size 0 e=0/\ir items.size items.size hi=items.size))(h:Q (.ref s.heap.objs.size) {s with heap:=s.heap.push {cls:=.type "tuple",data:=.seq ((items.toList.drop (ir items.size 0 e)).take (ir items.size items.size hi-ir items.size 0 e)).toArray}})(hsz:items.size<=mH):Nd (Nj prog w) A (Q6 (.ref t) (.ref g)) Q E s:=by
 have d:sizeOk (.seq ((items.toList.drop (ir items.size 0 e)).take (ir items.size items.size hi-ir items.size 0 e)).toArray):=by
  show((items.toList.drop (ir items.size 0 e)).take (ir items.size items.size hi-ir items.size 0 e)).toArray.size<=mH;rw[Nb,I0,N7,O3];omega
 have C:ir items.size items.size hi<=items.size:=HN _ _ (lj _) hi;have(y,j,o,z):=id hs;have p:s.TypeIs (.ref g) "slice":=#[y,j,o];unfold Q6
 try with_reducible refine Ov ?_
 first|refine cB (tF ?_)|skip
 refine cB (Sk ht.typeIs (by decide) ?_)
 refine cB (OI (name:=Oi "__getitem__") ht.typeIs NN
  (O7 NN ht.typeIs RO ?_ (R5 _ _)))
 show Nd _ _ (Qq (.ref t)>>=_) _ _ s;refine cB (T8 ht ?_);refine cB (RT p ?_);rw[if_pos (by decide)];refine cB (kO hs pl v ?_)
 have l:¬((((ir items.size 0 e:Nat):Int) == 0&&(1:Int) == 1&&(ir items.size items.size hi-ir items.size 0 e) == items.size)=true):=by
  intro q;rw[NO,NO]at q;have q1:((ir items.size 0 e:Nat):Int)=0:=Pq q.1.1;have B:ir items.size items.size hi-ir items.size 0 e=items.size:=Pq q.2;exact hw #[(),()]
 show Nd _ _ (if(((ir items.size 0 e:Nat):Int) == 0&&(1:Int) == 1&&(ir items.size items.size hi-ir items.size 0 e) == items.size)=true then _ else _) _ _ s;rw[if_neg l,B8]
 first
  |exact cB (m:=Oo _) (NX (tF #[_,rfl,tF h]) d)
  |exact cB (m:=Oo _) (NX (cB (tF (tF #[_,rfl,tF h]))) d)
  |exact cB (cB (m:=Oo _) (NX (tF (tF #[_,rfl,tF h])) d))
  |exact cB (cB (m:=Oo _) (NX (tF #[_,rfl,tF h]) d))
end HT
namespace L2
open PySem PySem.Spec PyProof.Rows
abbrev TO:=St->Hp->(Option Int->Hp->Prop)->Prop
def PO(X:Cx)(e:Option Expr)(t:TO):Prop :=
 ∀(d:List (Addr×Obj)) (s:fy) (g:St) (H:Hp) (Q:Option Int->Hp->Prop),Inv X d g H s->t g H Q ->
  Nd (Nj X.prog X.w) X.A (evalPart e X.env) (λu l=>∃o j,Inv X d g j l/\Sz u o/\Q o j) X.xe s
abbrev Eo:TO:=λ_ H Q=>Q none H
def MF(Q:Option Int->Hp->Prop):VK:=λx d=>∃i,x=.int i/\Q (some i) d
abbrev JM(t:TE):TO:=λd H Q=>t d H (MF Q)
theorem eY :PO X none Eo:=by
 intro d s g H Q I h;rw[evalPart_none];exact tF #[none,H,I,.none,h]
theorem dj {e:Expr}{te:TE}(h:PE X e te):PO X (some e) (JM te):=by
 intro d s g H Q I l;rw[evalPart_some];refine cR (h d s g H _ I l) λu p ⟨x,o,m,j,q1⟩=>?_;have(i,rfl,q):=q1;have(t,rfl):=j;exact#[some i,o,m,.int i t,q]
def BS(X:Cx)(r:V->Option Int->Option Int->Hp->VK->Prop):Prop :=
 ∀(d:List (Addr×Obj)) (s:fy) (g:St) (H:Hp) (x:V) (v l j:eF) (lo hi:Option Int) (m:Addr) (Q:VK),Inv X d g H s->RelV x v->s.heap.IsSliceOf m l j .none->Sz l lo->Sz j hi->r x lo hi H Q ->
  ∃T id,typeLookup (.type T) "__getitem__"=pure (some (.builtin id))/\s.TypeIs v T/\Nd (Nj X.prog X.w) X.A (Q6 v (.ref m)) (EP X d g Q) X.xe s
theorem BS.or (h:BS X r)(h':BS X p):BS X (λx lo hi H Q=>r x lo hi H Q\/p x lo hi H Q):=by
 intro d s g H x v l j lo hi m Q I o y u t q;rcases q with q|q
 .exact h d s g H x v l j lo hi m Q I o y u t q
 .exact h' d s g H x v l j lo hi m Q I o y u t q
abbrev MG(r:V->Option Int->Option Int->Hp->VK->Prop)(x:V)(l:Option Int)(Q:VK):Option Int->Hp->Prop:=λu d=>r x l u d Q
abbrev MH(r:V->Option Int->Option Int->Hp->VK->Prop)(th:TO)(d:St)(x:V)(Q:VK):Option Int->Hp->Prop:=λl g=>th d g (MG r x l Q)
abbrev MI(r:V->Option Int->Option Int->Hp->VK->Prop)(tl th:TO)(d:St)(Q:VK):VK:=λx g=>tl d g (MH r th d x Q)
abbrev MJ(r:V->Option Int->Option Int->Hp->VK->Prop)(te:TE)(tl th:TO):TE:=λd H Q=>te d H (MI r tl th d Q)
theorem dX {e:Expr}{te:TE}{lo hi:Option Expr}{tl th:TO}{pos p2:Pos}{r:V->Option Int->Option Int->Hp->VK->Prop}(hr:BS X r)(O:PE X e te)(M:PO X lo tl)(J:PO X hi th):PE X (.Subscript e (.Slice lo hi none p2) pos) (MJ r te tl th):=by
 intro d s j H Q I h;refine S2 (cR (O d s j H _ I h) λv y ⟨x,H1,Y,z,q1⟩=>?_);refine wpAny_Slice (cR (M d y j H1 _ Y q1) λo t ⟨l,Z,W,G,C⟩=>cR (J d t j Z _ W C) λm g ⟨u,p,U,D,B⟩=>?_);rw[evalPart_none];refine tF ?_;have S:Inv X d j p {g with heap:=g.heap.push {cls:=.type "slice",data:=.fields #[o,m,.none,]}}:=U.kept (t':=g.toks) λb ob q=>pC _ q;have(T,id,R,L,N):=hr d {g with heap:=g.heap.push {cls:=.type "slice",data:=.fields #[o,m,.none,]}} j p x v o m l u g.heap.objs.size Q S z (R6 ..) G D B;show Nd (Nj X.prog X.w) X.A (T9 e (.Slice lo hi none p2) v (.ref g.heap.objs.size)) (EP X d j Q) X.xe {g with heap:=g.heap.push {cls:=.type "slice",data:=.fields #[o,m,.none,]}};exact tail_any (ops:=[.ref g.heap.objs.size,v]) L R N (by with_unfolding_all rfl)
noncomputable def ju(xs:List V)(lo hi:Option Int):List V:=(xs.drop (HT.ir xs.length 0 lo)).take (HT.ir xs.length xs.length hi-HT.ir xs.length 0 lo)
theorem qS (xs:List V)(lo hi:Option Int):(ju xs lo hi).length<=xs.length:=by
 unfold ju;rw[I0,N7];omega
def JN(K:bN):V->Option Int->Option Int->Hp->VK->Prop:=λx lo hi H Q=>∃a d,x=.ref a/\cP K H a d /\
 ¬(HT.ir d.length 0 lo=0/\HT.ir d.length d.length hi=d.length)/\∀p,H p=none->Q (.ref p) (upd H p (.tup (ju d lo hi)))
theorem vJ :BS X (JN X.K):=by
 intro l s D H x v J G lo hi L Q I t C y u h;have(a,g,rfl,z,B,q):=h
 cases t
 have(j,r,p,m):=I.tuple z;have d:j.toArray.size=g.length:=by rw[Nb];exact r.length.symm
 refine#["tuple",_,NN.lookup,p.typeIs,?_];refine HT.pL p C y u (by rw[d];exact B) ?_ (by rw[d];exact m);rw[d];refine#[.ref s.heap.objs.size,_,I.laid (t':=s.toks) (o:=.tup (ju g lo hi)) (λb M q=>pC _ q) (lj _) ?_,rfl,q _ (I.hok.fresh (lj _))];exact#[Nz (qS g lo hi) m,_,(r.drop (HT.ir g.length 0 lo)).take (HT.ir g.length g.length hi-HT.ir g.length 0 lo),TR _ _,_,Nh _ rfl,rfl]
def JO(K:bN):R2:=λx y H Q=>∃a b g d,x=.ref a/\y=.ref b/\cP K H a g/\cP K H b d/\g≠[]/\g.length+d.length<=mH /\
 (d=[]->Q (.ref a) H)/\(d≠[]->∀p,H p=none->Q (.ref p) (upd H p (.tup (g++d))))
theorem Vals.vK (r:Vals xs us):us=[]↔xs=[]:=by
 cases r with
 |nil=>simp
 |cons _ _=>simp
theorem Ep :mG X (PX .Add) (JO X.K):=by
 intro g s M H x y v u Q I t r h;have(a,b,p,m,rfl,rfl,L,J,G,l,q1,B):=h
 cases t
 cases r
 have(D,d,C,_):=I.tuple L;have(j,r2,p2,_):=I.tuple J;refine HT.En C p2 (λz=>G (d.vK.mp z)) (λz=>#[.ref a,H,I,rfl,q1 (r2.vK.mp z)]) (λz=>?_) (by rw[<-d.length,<-r2.length];exact l);refine#[.ref s.heap.objs.size,_,I.laid (t':=s.toks) (o:=.tup (p++m)) (λb N q=>pC _ q) (lj _) ?_,rfl,B (λw=>z (r2.vK.mpr w)) _ (I.hok.fresh (lj _))];exact#[by rw[i4];exact l,_,d.append r2,TR _ _,_,Nh _ rfl,rfl]
noncomputable def vL(n:Nat)(i:Int):Option Nat:=if 0<=i then(if i<n then some i.toNat else none)else if -(n:Int)<=i then some (i+n).toNat else none
noncomputable def eK{d:Type}(xs:List d)(i:Int):Option d:=(vL xs.length i).bind λj=>xs[j]?
theorem zL (h:vL n i=some j):seqIndex? i n=some j/\j<n/\-(n:Int)<=i/\i<n:=by
 unfold vL at h
 by_cases g:0<=i
 .rw[if_pos g]at h
  by_cases d:i<n
  .rw[if_pos d]at h;have e:i.toNat=j:=Nk h;exact#[by rw[seqIndex_of g d,e],(),(),d]
  .rw[if_neg d]at h;cases h
 .rw[if_neg g]at h
  by_cases d:-(n:Int)<=i
  .rw[if_pos d]at h;have e:(i+n).toNat=j:=Nk h;exact#[by rw[seqIndex_neg () d,e],(),d,()]
  .rw[if_neg d]at h;cases h
theorem vM {xs:List d}{v:d}(h:eK xs i=some v):∃j,seqIndex? i xs.length=some j/\xs[j]?=some v/\j<xs.length/\-(xs.length:Int)<=i/\i<xs.length:=by
 unfold eK at h
 cases e:vL xs.length i with
 |none=>rw[e]at h;cases h
 |some j =>
  rw[e]at h;have(o,m,l,g):=zL e;exact#[j,o,h,m,l,g]
theorem aH {xs:List d}{j:Nat}{v:d}(h:xs[j]?=some v):eK xs (j:Int)=some v:=by
 have g:j<xs.length:=(bH.mp h).1
 have e:vL xs.length (j:Int)=some j:=by
  unfold vL;rw[if_pos (),if_pos ()];simp
 unfold eK;rw[e];exact h
theorem sE (xs:List d)(v:d):eK (xs++[v]) (-1)=some v:=by
 have g:(xs++[v]).length=xs.length+1:=by simp
 have e:vL (xs++[v]).length (-1)=some xs.length:=by
  unfold vL;rw[g,if_neg (by decide),if_pos ()]
  congr 1
  omega
 unfold eK;rw[e];show(xs++[v])[xs.length]?=some v;simp
def Es(b:Expr):Prop:=∀o i,Tr b false o i=operate [o,i] (Q6 o i)
def B9(X:Cx)(r:R2):Prop :=
 ∀(e slice:Expr) (d:List (Addr×Obj)) (s:fy) (g:St) (H:Hp) (x y:V) (v u:eF) (Q:VK),Inv X d g H s->RelV x v->RelV y u->r x y H Q ->
  Tr slice false v u=operate [v,u] (Q6 v u)->Nd (Nj X.prog X.w) X.A (T9 e slice v u) (EP X d g Q) X.xe s
def KO(X:Cx)(id:String)(r:V->List V->Hp->VK->Prop):Prop :=
 ∀(d:List (Addr×Obj)) (s:fy) (e:St) (H:Hp) (x:V) (g:List V) (v:eF) (j:List eF) (Q:VK),Inv X d e H s->RelV x v->Vals g j->r x g H Q ->
  Nd (Nj X.prog X.w) X.A (call (.builtin id) (v::j)) (EP X d e Q) X.xe s
theorem B9.or (h:B9 X r)(h':B9 X m):B9 X (λx y H Q=>r x y H Q\/m x y H Q):=by
 intro d slice e s g H x y v u Q I l j q o;rcases q with q|q
 .exact h d slice e s g H x y v u Q I l j q o
 .exact h' d slice e s g H x y v u Q I l j q o
theorem iI {a b:Expr}{ta tb:TE}{pos:Pos}{r:R2}(hr:B9 X r)(o:PE X a ta)(m:PE X b tb)(hs:Es b):PE X (.Subscript a b pos) (GD r ta tb):=by
 intro d s e H Q I h;exact S2 (HC o m I h λv u g x y t p l j q=>hr a b d g e t x y v u Q p l j q (hs _ _))
def HQ(K:bN):R2:=λx y H Q=>∃p d i v,x=.ref p/\y=.int i/\bQ K H p d/\eK d i=some v/\Q v H
def Et(K:bN):R2:=λx y H Q=>∃p d i v,x=.ref p/\y=.int i/\cP K H p d/\eK d i=some v/\Q v H
def JP:R2:=λx y H Q=>∃z i c,x=.str z/\y=.int i/\z.length<=mH/\eK z.cps.toList i=some c/\Q (.str ⟨#[c]⟩) H
theorem bx :B9 X (HQ X.K):=by
 intro g slice d s C H x y v u Q I N M h D;have(p,W,i,z,rfl,rfl,O,S,q):=h
 cases N
 have(t,rfl):=M;have(o,r,m,Y):=I.list O;have(j,e,V,h3,U,T):=vM S;have(w,J,l):=r.get V;have R:=r.length;have Z:=oO;have fin:EP X d C Q w s:=#[z,H,I,l,q]
 by_cases G:0<=i
 .have B:i.toNat=j:=by
   rw[seqIndex_of G T]at e;exact Nk e
  exact item_listR m.isList G () (by rw[B];simpa using J) fin D
 .have B:(i+(o.toArray.size:Int)).toNat=j:=by
   rw[seqIndex_neg () U]at e;rw[Nb,<-R];exact Nk e
  exact S3 (x:=w) m.isList.typeIs Sl.lookup
   (wpAny_getItem_list_neg (Q:=λr L=>r=w/\EP X d C Q r L) m.isList () (by rw[Nb]<;>omega) () (by rw[B];simpa using J) #[rfl,fin]) D
theorem aP :B9 X (Et X.K):=by
 intro e slice d s l H x y v u Q I C B h G;have(p,S,i,z,rfl,rfl,J,M,q):=h
 cases C
 have(t,rfl):=B;have(D,r,m,T):=I.tuple J;have(j,O,N,Y,W,V):=vM M;have(w,R,g):=r.get N;have L:=r.length;have U:=oO;have fin:EP X d l Q w s:=#[z,H,I,g,q]
 exact S3 (x:=w) m.typeIs slot_tuple_getitem.lookup
  (getItem_tuple (j:=j) (Q:=λr o=>r=w/\EP X d l Q r o) m () () (by rw[Nb,<-L];exact O) (by simpa using R) #[rfl,fin]) G
theorem vN :B9 X JP:=by
 intro d slice e s L H x y v u Q I m l h o;have(z,i,c,rfl,rfl,N,r,q):=h;have(t,rfl):=m;have(M,rfl):=l;have(j,g,D,R,C,B):=vM r;have p:z.cps.toList.length=z.length:=by simp[S4]
 rw[p]at g C B;have O:=oO
 exact tail_any (typeIs_str s z t) slot_str_getitem.lookup (getItem_str (c:=c) (by
  have J:decide (i < -(2 ^ 63:Int))=false:=decide_eq_false ();have G:decide (i ≥ 2 ^ 63)=false:=decide_eq_false ();rw[J,G,Bool.or_false]) (by rw[g];simpa using D) #[.str ⟨#[c]⟩,H,I.tok _,#[_,rfl],q]) o
def GH(K:bN):R2:=λx y H Q=>HQ K x y H Q\/Et K x y H Q\/JP x y H Q
theorem mT :B9 X (GH X.K):=bx.or (aP.or vN)
theorem yS (d:List eF)(n j:Nat)(u:eF):S5 (·.setIfInBounds j u) {cls:=.type "list",data:=.seq d.toArray n}={cls:=.type "list",data:=.seq (d.set j u).toArray n}:=by
 simp[S5]
theorem Inv.lst (I:Inv X g j H s)(h:H p=some (.lst xs)):
  ∃(d:List eF) (n:Nat),Vals xs d/\s.heap.get? p=some {cls:=.type "list",data:=.seq d.toArray n}/\xs.length<=mH:=by
 have(z,d,n,r,e):=I.hok p _ h;exact#[d,n,r,e,z]
theorem Inv.HR {g:List eF}(I:Inv X d l H s)(h:H p=some (.lst xs))(ho:s.heap.get? p=some {cls:=.type "list",data:=.seq g.toArray n})(hf:f {cls:=.type "list",data:=.seq g.toArray n}={cls:=.type "list",data:=.seq its'.toArray j})(r:Vals ys its')(hz:ys.length<=mH)(t:Nat):
  Inv X d l (upd H p (.lst ys)) {s with heap:=s.heap.update p f,toks:=t}:=by
 have e:(s.heap.update p f).get? p=some {cls:=.type "list",data:=.seq its'.toArray j}:=by
  rw[OR f ho (by rw[hf]<;>rfl),hf]
 refine I.write (x:=p) (e:=p) (by rw[h];trivial) (.inl rfl) (λb u m q=>(Oz _ _ (PR m)).trans q) #[_,e] ?_;exact#[hz,its',j,r,e]
def JQ:V->V->V->Hp->(Hp->Prop)->Prop:=λo i v H Q=>∃p d k j,o=.ref p/\i=.int k/\H p=some (.lst d)/\vL d.length k=some j/\Q (upd H p (.lst (d.set j v)))
theorem set_list :JB X JQ:=by
 intro d s J H o i v T U u Q I N O M h;have(p,L,k,j,rfl,rfl,z,S,q):=h
 cases N
 have(t,rfl):=O;have(e,n,r,l,R):=I.lst z;have(g,Y,C,B):=zL S;have m:=r.length;have V:=oO
 have G:Inv X d J (upd H p (.lst (L.set j v))) {s with heap:=s.heap.update p (S5 (·.setIfInBounds j u))} :=
  I.HR z l (yS e n j u) (r.set M j) (by rw[RJ];exact R) s.toks
 by_cases D:0<=k
 .have y:k.toNat=j:=by
   rw[seqIndex_of D B]at g;exact Nk g
  exact PySem.W.ki_setAt l D () (by rw[Nb,<-m];exact B) (by rw[y];exact#[_,G,q])
 .have y:(k+(e.toArray.size:Int)).toNat=j:=by
   rw[seqIndex_neg () C]at g;rw[Nb,<-m];exact Nk g
  exact PySem.W.ki_setBack l () (by rw[Nb,<-m];exact C) () (by rw[y];exact#[_,G,q])
theorem vO (d hi:Option Int)(n:Nat):(Oq d hi none n).1=((HT.ir n 0 d:Nat):Int)/\(Oq d hi none n).2.1=((HT.ir n n hi:Nat):Int)/\(Oq d hi none n).2.2=1:=by
 refine#[?_,?_,rfl]
 .cases d with
  |none=>simp[Oq,HT.ir]
  |some i =>
   simp only[Oq,HT.ir,UG,show(1:Int)>0 by decide,if_true]
   by_cases h:i<0
   .simp only[h,if_true]<;>omega
   .simp only[h,if_false]<;>omega
 .cases hi with
  |none=>simp[Oq,HT.ir]
  |some i =>
   simp only[Oq,HT.ir,UG,show(1:Int)>0 by decide,if_true]
   by_cases h:i<0
   .simp only[h,if_true]<;>omega
   .simp only[h,if_false]<;>omega
theorem uw (d:List eF)(e hi:Option Int):UH d.toArray e hi none=((d.drop (HT.ir d.length 0 e)).take (HT.ir d.length d.length hi-HT.ir d.length 0 e)).toArray:=by
 have(l,j,g):=vO e hi d.toArray.size;unfold UH;rw[l,j,g];simp only[sliceRange_one,pick_run,Nb]<;>rfl
def JR(K:bN):V->Option Int->Option Int->Hp->VK->Prop:=λx e g H Q=>∃a d,x=.ref a/\bQ K H a d/\∀p,H p=none->Q (.ref p) (upd H p (.lst (ju d e g)))
theorem rM :BS X (JR X.K):=by
 intro l s D H x v J G g j L Q I p C u t h;have(a,d,rfl,B,q):=h
 cases p
 have(y,r,m,z):=I.list B;have e:=r.length;refine#["list",_,Sl.lookup,m.isList.typeIs,?_];refine SA m.isList C u t .none (by simp) ?_ (by rw[Nb]<;>omega)
 rw[uw,<-e];refine#[.ref s.heap.objs.size,_,I.laid (t':=s.toks) (o:=.lst (ju d g j)) (λb M q=>pC _ q) (lj _) ?_,rfl,q _ (I.hok.fresh (lj _))];exact#[Nz (qS d g j) z,_,0,(r.drop (HT.ir d.length 0 g)).take (HT.ir d.length d.length j-HT.ir d.length 0 g),Nh _ rfl]
noncomputable def ou:V->Bool
 |.eN=>true
 |.bl _=>true
 |.int _=>true
 |.str _=>true
 |_=>false
noncomputable def Eu:V->V->Bool
 |.eN,.eN=>true
 |.bl a,.bl b=>a == b
 |.bl a,.int b=>(if a then 1 else 0) == b
 |.int a,.bl b=>a == (if b then 1 else 0)
 |.int a,.int b=>a == b
 |.str a,.str b=>a == b
 |_,_=>false
theorem Ca (g:RelV y u)(d:RelV x v)(l:ou y=true)(j:ou x=true):OT A s u v (Eu y x):=by
 cases y with
 |eN =>
  cases g
  cases x with
  |eN=>cases d;exact OT.same _
  |bl b=>cases d;exact OT.none_bool b
  |int b=>have(t,rfl):=d;exact OT.none_int b t
  |str b=>have(t,rfl):=d;exact OT.none_str b t
  |_=>exact absurd (show false=true from j) Nq
 |bl a =>
  cases g
  cases x with
  |eN=>cases d;exact OT.bool_none a
  |bl b=>cases d;exact OT.bool_bool a b
  |int b=>have(t,rfl):=d;exact OT.bool_int a b t
  |str b=>have(t,rfl):=d;exact OT.bool_str a b t
  |_=>exact absurd (show false=true from j) Nq
 |int a =>
  have(e,rfl):=g
  cases x with
  |eN=>cases d;exact OT.int_none a e
  |bl b=>cases d;exact OT.int_bool a e b
  |int b=>have(t,rfl):=d;exact OT.int_int a e b t
  |str b=>have(t,rfl):=d;exact Ua a e b t
  |_=>exact absurd (show false=true from j) Nq
 |str a =>
  have(e,rfl):=g
  cases x with
  |eN=>cases d;exact OT.str_none a e
  |bl b=>cases d;exact OT.str_bool a e b
  |int b=>have(t,rfl):=d;exact Ub a e b t
  |str b=>have(t,rfl):=d;exact OT.str_str a e b t
  |_=>exact absurd (show false=true from j) Nq
 |_=>exact absurd (show false=true from l) Nq
noncomputable def yT(x:V)(u:eF):Bool:=match u with
 |.none=>Eu .eN x
 |.bool b=>Eu (.bl b) x
 |.int i _=>Eu (.int i) x
 |.str z _=>Eu (.str z) x
 |_=>false
theorem Cb (r:RelV y u)(f:ou y=true):yT x u=Eu y x:=by
 cases y with
 |eN=>cases r;rfl
 |bl b=>cases r;rfl
 |int i=>have(t,rfl):=r;rfl
 |str z=>have(t,rfl):=r;rfl
 |_=>exact absurd (show false=true from f) Nq
theorem pN :∀{xs:List V}{us:List eF},Vals xs us->xs.all ou=true->us.any (yT x)=xs.any λy=>Eu y x
 |_,_,.nil,_=>rfl
 |y::xs,u::us,.cons r t,f=>by
  rw[SD,NO]at f;rw[Rw,Rw,Cb r f.1,pN t f.2]
theorem mU (d:RelV x v)(e:ou x=true):∀{xs:List V}{us:List eF},Vals xs us->xs.all ou=true->∀u∈us,OT A s u v (yT x u)
 |_,_,.nil,_=>λu hu=>by cases hu
 |y::xs,u::us,.cons r t,f=>λg hu=>by
  rw[SD,NO]at f;rcases Nc.mp hu with rfl|hu
  .rw[Cb r f.1];exact Ca r d f.1 e
  .exact mU d e t f.2 g hu
noncomputable def nR(x:V)(xs:List V):Bool:=xs.any λy=>Eu y x
def Ln(K:bN)(e:Bool):R2:=λx y H Q=>∃p d,y=.ref p/\(bQ K H p d\/cP K H p d)/\ou x=true/\d.all ou=true/\Q (.bl (if e then !nR x d else nR x d)) H
theorem gq :mG X (OB .In) (Ln X.K false):=by
 intro l s z H x y v u Q I j o h;have(p,B,rfl,hq,m,fs,q):=h
 cases o
 rcases hq with hq|hq
 .have(d,r,e,t):=I.list hq;refine SeqAt.in_listAt (yT x) e.isList (λw g=>mU j m r fs w (by simpa using g)) #[.bl _,H,I,rfl,?_];rw[show d.toArray.any (yT x)=d.any (yT x) by simp,pN r fs];exact q
 .have(d,r,e,t):=I.tuple hq;refine SeqAt.in_tupleAt (yT x) e (λw g=>mU j m r fs w (by simpa using g)) #[.bl _,H,I,rfl,?_];rw[show d.toArray.any (yT x)=d.any (yT x) by simp,pN r fs];exact q
theorem lH :mG X (OB .NotIn) (Ln X.K true):=by
 intro l s z H x y v u Q I j o h;have(p,B,rfl,hq,m,fs,q):=h
 cases o
 rcases hq with hq|hq
 .have(d,r,e,t):=I.list hq;refine SeqAt.notIn_listAt (yT x) e.isList (λw g=>mU j m r fs w (by simpa using g)) #[.bl _,H,I,rfl,?_];rw[show d.toArray.any (yT x)=d.any (yT x) by simp,pN r fs];exact q
 .have(d,r,e,t):=I.tuple hq;refine SeqAt.notIn_tupleAt (yT x) e (λw g=>mU j m r fs w (by simpa using g)) #[.bl _,H,I,rfl,?_];rw[show d.toArray.any (yT x)=d.any (yT x) by simp,pN r fs];exact q
theorem aJ :iQ X (.builtin "len") (λxs H Q=>∃p ys,xs=[.ref p]/\(bQ X.K H p ys\/cP X.K H p ys)/\Q (.int ys.length) H):=by
 intro l s t H xs v Q I r h;have(p,ys,rfl,hq,q):=h;have(u,rfl,m):=vals1 r
 cases m
 have y:=oO;rcases hq with hq|hq
 .have(j,e,g,o):=I.list hq;have d:=e.length;exact Calls.call_len_list g.isList (by simp only[Nb]<;>omega) #[.int ys.length,H,I.tok _,#[s.toks+1,by rw[Nb,d]],q]
 .have(j,e,g,o):=I.tuple hq;have d:=e.length;exact len_tuple g (by simp only[Nb]<;>omega) #[.int ys.length,H,I.tok _,#[s.toks+1,by rw[Nb,d]],q]
theorem pQ :iQ X (.builtin "len") (λxs H Q=>∃z,xs=[.str z]/\z.length<=mH/\Q (.int z.length) H):=by
 intro d s e H xs g Q I r h;have(z,rfl,j,q):=h;have(u,rfl,t,rfl):=vals1 r;have l:=oO;exact len_str () #[.int z.length,H,I.tok _,#[_,rfl],q]
theorem iS :iQ X (.type "list") (λxs H Q=>∃p ys,xs=[.ref p]/\(bQ X.K H p ys\/cP X.K H p ys)/\∀l,H l=none->Q (.ref l) (upd H l (.lst ys))):=by
 intro t s G H xs L Q I r h;have(p,ys,rfl,hq,q):=h;have(u,rfl,J):=vals1 r
 cases J
 have fin:∀(d:List eF),Vals ys d->ys.length<=mH->∀(g:Heap) (m:Nat),(∀b D,s.heap.get? b=some D->g.get? b=some D) ->
   g.get? s.heap.objs.size=some {cls:=.type "list",dict:=none,data:=.seq d.toArray m,slots:=#[]}->EP X t G Q (.ref s.heap.objs.size) {s with heap:=g}:=λd j v g m kp e =>
  #[.ref s.heap.objs.size,_,I.laid (t':=s.toks) kp (lj _) (show eM X.prog X.w _ g _ (.lst ys)from#[v,d,m,j,e]),rfl,q _ (I.hok.fresh (lj _))]
 rcases hq with hq|hq
 .have(d,j,z,v):=I.list hq;have y:=j.length;have(o,B,C,n,hd):=z.isList;exact call_list_seq p (.inl rfl) B C hd (λg m kp e=>fin d j v g m kp e) (by simp only[Nb]<;>omega)
 .have(d,j,z,v):=I.tuple hq;have y:=j.length;have(o,B,C,n,hd):=z;exact call_list_seq p (.inr rfl) B C hd (λg m kp e=>fin d j v g m kp e) (by simp only[Nb]<;>omega)
theorem cQ :iQ X (.type "tuple") (λxs H Q=>∃p ys,xs=[.ref p]/\((bQ X.K H p ys/\∀l,H l=none->Q (.ref l) (upd H l (.tup ys)))\/(cP X.K H p ys/\Q (.ref p) H))):=by
 intro d s v H xs G Q I r h;have(p,ys,rfl,h):=h;have(u,rfl,C):=vals1 r
 cases C
 rcases h with⟨hq,q⟩|⟨hq,q⟩
 .have(g,m,t,y):=I.list hq;have z:=m.length;refine call_tuple_list t.isList (λj kp=>?_) (by simp only[Nb]<;>omega)
  have B:Inv X d v H {s with heap:=j}:=I.kept (t':=s.toks) kp
  have D:Inv X d v (upd H j.objs.size (.tup ys)) {s with heap:=j.push {cls:=.type "tuple",data:=.seq g.toArray}} :=
   B.laid (t':=s.toks) (λb o e=>pC _ e) (lj _) (show eM X.prog X.w _ _ _ (.tup ys)from#[y,g,m,TR _ _,_,Nh _ rfl,rfl])
  exact#[.ref j.objs.size,_,D,rfl,q _ (B.hok.fresh (lj _))]
 .have(g,m,t,y):=I.tuple hq;exact call_tuple_same t #[.ref p,H,I,rfl,q]
def KP(K:bN)(T:String)(x:V)(H:Hp):Prop:=match x with
 |.str _=>T="str"
 |.int _=>T="int"
 |.ref p=>(T="list"/\∃e,bQ K H p e)\/(T="tuple"/\∃o,K.lookup p=some o/\o.cls=.type "tuple"/\o.dict=none) \/
   (T="dict"/\((∃d,H p=some (.dK d))\/∃d,H p=some (.dT d)))\/(T="set"/\∃S n,H p=some (.set S n))
 |_=>False
theorem Cc {T:String}(I:Inv X d m H s)(r:RelV x v)(ty:KP X.K T x H):
  s.TypeIs v T/\∀a,v=.ref a->∃l,s.heap.get? a=some l/\l.dict=none:=by
 cases x with
 |str z =>
  have(t,rfl):=r
  cases(show T="str" from ty)
  exact#[typeIs_str s z t,λ_ e=>nomatch e]
 |int i =>
  have(t,rfl):=r
  cases(show T="int" from ty)
  exact#[R7 s i t,λ_ e=>nomatch e]
 |ref p =>
  cases r
  rcases ty with⟨rfl,xs,hq⟩|⟨rfl,o,hk,hc,hd⟩|⟨rfl,hk⟩|⟨rfl,S,n,hk⟩
  .have(q,_,j,_):=I.list hq;refine#[j.isList.typeIs,λa e=>?_]
   cases e
   have(o,n,e,c,hd,_):=j;exact#[o,e,hd]
  .refine#[#[o,I.rY p o hk,hc],λa e=>?_]
   cases e
   exact#[o,I.rY _ o hk,hd]
  .have z:∃o,s.heap.get? p=some o/\o.ExactDict:=by
    rcases hk with⟨kvs,hk⟩|⟨kvs,hk⟩
    .have(_,_,_,_,o,_,_,e,ex,_):=I.hok p _ hk;exact#[o,e,ex]
    .have(_,_,_,_,o,_,_,e,ex,_):=I.hok p _ hk;exact#[o,e,ex]
   have(o,e,ex):=z;refine#[#[o,e,ex.1],λa g=>?_]
   cases g
   exact#[o,e,ex.2.1]
  .have(o,_,_,_,e,ex,_):=I.hok p _ hk;refine#[#[o,e,ex.1],λa g=>?_]
   cases g
   exact#[o,e,ex.2.1]
 |_=>exact OE ty
abbrev ML(r:V->List V->Hp->VK->Prop)(x:V)(Q:VK):List V->Hp->Prop:=λd e=>r x d e Q
def MM(K:bN)(T:String)(r:V->List V->Hp->VK->Prop)(t:TA)(e:St)(Q:VK):VK:=λx d=>KP K T x d/\t e d (ML r x Q)
def Lp(K:bN)(T:String)(r:V->List V->Hp->VK->Prop)(g:TE):TE:=λe H Q=>g e H λx d=>KP K T x d/\r x [] d Q
abbrev MN(K:bN)(T:String)(r:V->List V->Hp->VK->Prop)(e:TE)(t:TA):TE:=λd H Q=>e d H (MM K T r t d Q)
theorem HS {T id:String}(u:PlainAttrs T)(g:Slot T name id)(j:typeOf (.builtin id)=pure (.type "method_descriptor"))(z:KO X id r)(y:PE X o to)(hbase:QD o name X.env (eval o X.env)=eval o X.env:=by rfl)(hline:(apos.endLine == cpos.line)=true:=by rfl):PE X (.Call (.Attribute o name apos) [] [] cpos) (Lp X.K T r to):=by
 intro d s l H Q I h;refine SO hbase hline (cR (y d s l H _ I h) λv q ⟨x,D,p,m,ty,q1⟩=>?_);have(C,B):=Cc p m ty;exact#[T,id,u,g,j,C,B,S6 rfl (TX (z d q l D x [] v [] Q p m .nil q1))]
theorem xr {o e:Expr}{es:List Expr}{to:TE}{t:TA}{name:Str}{apos cpos:Pos}{T id:String}{r:V->List V->Hp->VK->Prop}(G:PlainAttrs T)(g:Slot T name id)(l:typeOf (.builtin id)=pure (.type "method_descriptor"))(L:KO X id r)(J:PE X o to)(M:PA X (e::es) t)(hbase:QD o name X.env (eval o X.env)=eval o X.env:=by rfl)(hfew:((RV cpos (Ob (e::es) X.env)).all (λx=>!x.1)&&(backToKw cpos (keywordEach [] X.env)).all (λx=>x.1.isSome)
   && decide ((e::es).length+([]:List Keyword).length+(if([]:List Keyword).isEmpty then 0 else 1)<30))=true:=by rfl)(hline:(apos.endLine == cpos.line)=true:=by rfl)(hs:Ob (e::es) X.env=(false,eval e X.env)::Ob es X.env:=by rfl)(hplain:(RV cpos (Ob es X.env)).any (·.1)=false:=by rfl):
  PE X (.Call (.Attribute o name apos) (e::es) [] cpos) (MN X.K T r to t):=by
 intro d s j H Q I h;refine wpAny_Call_method_late hbase hfew hline rfl (cR (J d s j H _ I h) λv C ⟨x,U,u,p,ty,q1⟩=>?_);have(O,N):=Cc u p ty;refine#[T,id,G,g,l,O,N,?_];have q:=M cpos d C j U _ u q1;rw[hs]at q|-;refine S6 (by show(false||(RV cpos (Ob es X.env)).any (·.1))=false;rw[hplain]<;>rfl) (Calls.evalArgs_plain ?_)
 exact cR q λz B ⟨y,S,R,r2,D⟩=>L d B j S x y v z Q R p r2 D
/- xs.append(e),list.index on a module's tuple .. are KO facts of 06m -/
def KQ(X:Cx)(id:String)(r:V->List V->Hp->VK->Prop):Prop :=
 ∀(d:List (Addr×Obj)) (s:fy) (e:St) (H:Hp) (x:V) (g:List V) (v:eF) (j:List eF) (Q:VK),Inv X d e H s->RelV x v->Vals g j->r x g H Q ->
  Nd (Nj X.prog X.w) X.A (call (.builtin id) (v::j)) (EP X d e Q) X.xe s
theorem Vals.one :∀{x:V}{us:List eF},Vals [x] us->∃u,us=[u]/\RelV x u
 |_,_,.cons r .nil=>#[_,rfl,r]
theorem Vals.zero :∀{us:List eF},Vals [] us->us=[]
 |_,.nil=>rfl
theorem Vals.dropLast (h:Vals xs us):Vals xs.dropLast us.dropLast:=by
 induction h with
 |nil=>exact .nil
 |cons r t ih =>
  cases t with
  |nil=>exact .nil
  |cons q t'=>exact .cons r ih
theorem Vals.reverse (h:Vals xs us):Vals xs.reverse us.reverse:=by
 induction h with
 |nil=>exact .nil
 |cons r t ih=>rw[PY,PY];exact Vals.append ih (.cons r .nil)
theorem Vals.rep (h:Vals xs us):∀k:Nat,Vals (Ng k xs).flatten (Ng k us).flatten
 |0=>.nil
 |k+1=>by
  rw[Ph,Ph,Q7,Q7];exact Vals.append h (Vals.rep h k)
theorem yU {d:Type}(l:List d):l.eraseIdx (l.length-1)=l.dropLast:=by
 induction l with
 |nil=>rfl
 |cons a r ih =>
  cases r with
  |nil=>rfl
  |cons b r =>
   have e:(a::b::r).length-1=((b::r).length-1)+1:=by
    have j:(a::b::r).length=r.length+2:=rfl;have g:(b::r).length=r.length+1:=rfl;omega
   rw[e,List.eraseIdx_cons_succ,ih]
   all_goals rfl
theorem foldl_rep (d:List eF):∀(k:Nat) (g:List eF),
  UX (λl j=>l++j) g.toArray (Ng k d.toArray)=(g++(Ng k d).flatten).toArray
 |0,g=>by simp
 |k+1,g=>by
  have e:g.toArray++d.toArray=(g++d).toArray:=by simp
  have m:(g++d)++(Ng k d).flatten=g++(Ng (k+1) d).flatten:=by
   rw[Ph,Q7,Od]
  rw[<-m,<-foldl_rep d k (g++d),<-e,Ph,List.foldl_cons]
theorem Inv.HU {d:List eF}(I:Inv X pins σ H s)(m:H l=some (.lst xs))(e:s.heap.get? l=some {cls:=.type "list",data:=.seq d.toArray n})(hf:f d.toArray=its'.toArray)(hv:Vals ys its')(hz:ys.length<=mH):
  Inv X pins σ (upd H l (.lst ys)) {s with heap:=s.heap.update l (S5 f),toks:=t'}:=by
 have q:=PySem.IsL.update e f;rw[hf]at q;refine I.write (x:=l) (e:=l) (by rw[m];exact trivial) (.inl rfl) (λo u j g=>(Oz s.heap (S5 f) (PR j)).trans g) #[_,q] ?_;exact#[hz,its',_,hv,q]
theorem Inv.JS (I:Inv X pins σ H s)(g:Vals ys d)(e:ys.length<=mH):
  Inv X pins σ (upd H s.heap.objs.size (.lst ys)) {s with heap:=s.heap.push {cls:=.type "list",data:=.seq d.toArray},toks:=t'} :=
 I.laid (λ_ _ q=>pC _ q) (lj _) #[e,d,0,g,Nh _ rfl]
theorem Inv.fresh (I:Inv X pins σ H s):H s.heap.objs.size=none:=I.hok.fresh (lj _)
theorem Inv.xu (I:Inv X pins σ H s)(g:H l=some (.lst xs)):xs.length<=mH/\∃(d:List eF) (n:Nat),Vals xs d/\xs.length=d.length/\s.heap.get? l=some {cls:=.type "list",data:=.seq d.toArray n}:=by
 have(z,d,n,r,e):=I.hok l _ g;exact#[z,d,n,r,r.length,e]
theorem xw (h:n<=mH):P0 n=false:=by
 unfold P0;exact decide_eq_false ()
def Ew:V->List V->Hp->VK->Prop:=λx e H Q=>∃l d y,x=.ref l/\e=[y]/\H l=some (.lst d)/\d.length<mH/\Q .eN (upd H l (.lst (d++[y])))
theorem AU :KQ X "list.append" Ew:=by
 intro g s t H x C v D Q I m o h;have(l,B,y,rfl,rfl,j,G,q):=h
 cases m
 have(u,rfl,p):=o.one;have(z,d,n,r,J,e):=I.xu j;refine R8 F.slot_list_append #[_,e,rfl] F.entry_list_append (F.args_list_append_2 _ _) (PySem.list_append l d.toArray n u (by rw[Nb];omega)) #[e,?_];refine#[.eN,_,I.HU (its':=d++[u]) j e (by simp) (r.append (.cons p .nil)) ?_,rfl,q];rw[i4,Rj];omega
def Ex:V->List V->Hp->VK->Prop:=λx g H Q=>∃l b e d,x=.ref l/\g=[.ref b]/\H l=some (.lst e)/\H b=some (.lst d)/\e.length+d.length<=mH/\Q .eN (upd H l (.lst (e++d)))
theorem uP :KQ X "list.extend" Ex:=by
 intro o s L H x R v S Q I t y h;have(l,b,O,M,rfl,rfl,p,G,T,q):=h
 cases t
 have(u,rfl,B):=y.one
 cases B
 have(z,g,n,r,U,e):=I.xu p;have(N,d,C,r2,D,J):=I.xu G;have m:g.toArray.size+d.toArray.size<=mH:=by rw[Nb,Nb];omega
 have j:¬(!g.toArray.isEmpty&&P0 (g.toArray.size+d.toArray.size))=true:=by
  rw[xw m,Tt];exact Nq
 refine R8 F.slot_list_extend #[_,e,rfl] F.entry_list_extend (F.args_list_extend_2 _ _)
  (AutoSeq1.list_extend_list_list_0 l g.toArray n b d.toArray C j (by rw[Nb];omega) ()) #[e,J,?_]
 refine#[.eN,_,I.HU (its':=g++d) p e (by simp) (r.append r2) ?_,rfl,q];rw[i4];omega
def Lq:V->List V->Hp->VK->Prop:=λx e H Q=>∃l d y,x=.ref l/\e=[]/\H l=some (.lst d)/\d[d.length-1]?=some y/\Q y (upd H l (.lst d.dropLast))
theorem HV :KQ X "list.pop" Lq:=by
 intro m s J H x M v N Q I p t h;have(l,L,y,rfl,rfl,o,C,q):=h
 cases p
 have j:=t.zero;subst j;have(z,d,n,r,G,e):=I.xu o;have(u,D,B):=r.get C
 have g:d.toArray[d.toArray.size-1]?=some u:=by
  show d.toArray[d.length-1]?=some u;rw[<-Tj,<-G];exact D
 refine R8 F.slot_list_pop #[_,e,rfl] F.entry_list_pop (F.args_list_pop_1 _) (MeetsSeq.list_pop_last l d.toArray n u g (by rw[Nb];omega)) #[e,?_];refine#[y,_,I.HU (its':=d.dropLast) o e ?_ r.dropLast ?_,B,q]
 .show d.toArray.eraseIdxIfInBounds (d.toArray.size-1)=d.dropLast.toArray;rw[Nb,List.eraseIdxIfInBounds_toArray,yU]
 .rw[List.length_dropLast];omega
def JT:R2:=λx y H Q=>∃l b e d,x=.ref l/\y=.ref b/\H l=some (.lst e)/\H b=some (.lst d)/\e.length+d.length<=mH/\∀p,H p=none->Q (.ref p) (upd H p (.lst (e++d)))
theorem iT :mG X (PX .Add) JT:=by
 intro j s G H x y v u Q I o m h;have(l,b,M,J,rfl,rfl,t,B,O,q):=h
 cases o
 cases m
 have(z,g,n,r,R,e):=I.xu t;have(L,d,N,r2,p,D):=I.xu B;refine PySem.P.add_list e D ?_ (by rw[Nb,Nb];omega);have C:g.toArray++d.toArray=(g++d).toArray:=by simp
 rw[C];exact#[.ref _,_,I.JS (t':=s.toks) (r.append r2) (by rw[i4];omega),rfl,q _ I.fresh]
def Lr:R2:=λx y H Q=>∃l k d,x=.ref l/\y=.int k/\H l=some (.lst d)/\-(2 ^ 63)<=k/\k<2 ^ 63/\d.length*k.toNat<=mH /\
 ∀p,H p=none->Q (.ref p) (upd H p (.lst (Ng k.toNat d).flatten))
theorem len_rep {d:Type}(xs:List d)(k:Nat):(Ng k xs).flatten.length=k*xs.length:=by
 induction k with
 |zero=>simp
 |succ k ih=>rw[Ph,Q7,i4,ih,S7,Nat.add_comm]
theorem Cd :mG X (PX .Mult) Lr:=by
 intro G s Y H x y v u Q I N M h;have(l,k,Z,rfl,rfl,R,V,S,J,q):=h
 cases N
 have(t,rfl):=M;have(z,d,n,r,O,e):=I.xu R;have o:d.toArray.size*k.toNat<=mH:=by rw[Nb,<-O];exact J
 have B:¬d.toArray.size*k.toNat>(2 ^ 63-1) / 8:=by
  have:(mH:Nat)<=(2 ^ 63-1) / 8:=by decide
  omega
 have p:¬(!QZ.List.listFitsIndex k)=true:=by
  rw[fitsIndex_both V S];exact Nq
 have g:¬P0 (d.toArray.size*k.toNat)=true:=by
  rw[xw o];exact Nq
 have j:UX (λD C=>D++C) #[] (Ng (if d.toArray.isEmpty=true then 0 else k.toNat) d.toArray)=(Ng k.toNat d).flatten.toArray:=by
  have W:∀m:Nat,UX (λD C=>D++C) #[] (Ng m d.toArray)=(Ng m d).flatten.toArray:=λm=>by
   have:=foldl_rep d m [];rw[PM]at this;exact this
  rw[W]
  cases d with
  |nil=>simp
  |cons a r'=>rw[if_neg (by simp)]
 refine wpAny_binaryOp_repeat_ref (T:="list") (U:="int") (by decide) #[_,e,rfl] (λL=>R7 L k t) noFill_list_mul F.fills_int_mul F.slot_int_rmul repeat_list F.slot_int_index.lookup
  (R8 F.slot_int_rmul (R7 s k t) F.entry_int_rmul (F.args_int_rmul_2 _ _) (int___rmul___int_list k t l d.toArray n)
   #[e,rfl,#[_,e,rfl],R8 F.slot_list_mul #[_,e,rfl] F.entry_list_mul (F.args_list_mul_2 _ _) (AutoListH.list___mul___list_int_3 l d.toArray n k t p B g) #[e,?_]])
 rw[j];exact#[.ref _,_,I.JS (t':=s.toks) (r.rep k.toNat) (by rw[len_rep,Nat.mul_comm];exact J),rfl,q _ I.fresh]
end L2
namespace Att
open PySem PySem.W PySem.Calls PyProof.Rows
theorem rF :∀(ns:List Int) (vs:List eF),WellAll P h vs (ns.map WData.int)->US vs ns:=by
 intro ns
 induction ns with
 |nil =>
  intro vs w;rw[OX]at w
  cases w
  exact .nil
 |cons n ns ih =>
  intro vs w;rw[Ny]at w
  cases w with
  |cons a b =>
   cases a
   exact .cons _ _ (ih _ b)
theorem AV {l:RP}(hn:l.most=some n)(hpre:l.row.toRowW.claim.pre args=true)(hwl:WellAll P h e args):
  ∃a vs ns,e=[Value.ref a]/\args=[WData.list (ns.map WData.int)]/\h.get? a=some {cls:=.type "list",data:=.seq vs.toArray}/\US vs ns/\ns.length<=n:=by
 have o:WShape.hasAll [] args [.list .int]=true:=(pre_splitW hpre).1;have p:l.pre.holds [] {args:=args}=true:=(pre_splitW hpre).2;have(d,r,rfl,y,v):=hasAllW_cons o;obtain rfl:=hasAllW_nil v;have(z,rfl,u):=hasW_list y;have(ns,rfl):=items_int u
 have g:ns.length<=n:=by
  unfold RP.pre at p
  have m:(WTm.not (.lt (.lit (.int (n:Int))) (.len (.arg 0)))).holds [] {args:=[.list (ns.map .int)]}=true:=by
   have m:=(holds_andW p).1;rw[hn]at m;exact m
  have j:=condW_of m (w_not (w_lt w_lit (w_len_list (w_arg rfl))));rw[bM]at j;refine Nat.le_of_not_lt λq=>?_;have t:(n:Int)<((ns.length:Nat):Int):=()
  first
   |(rw[decide_eq_true t]at j;exact absurd j (by decide))
   |(simp at j;omega)
 cases hwl with
 |cons w1 w2 =>
  cases w2
  cases w1 with
  |list ho hall=>exact#[_,_,ns,rfl,rfl,ho,rF ns _ hall,g]
theorem AW (l:RP)(args:List WData):l.row.toRowW.claim.post args (.bool true) args=true :=
 postW_of (r:=l.row.toRowW) (X:=(true == true))
  (show WShape.has [] (.bool true) .bool=true by first|rfl|decide|simp[WShape.has,WShape.arms,WShape.armsAll])
  (show(WTm.eq .res (.lit (.bool true))).value [] {args:=args,res:=some (.bool true),after:=args}=some (.bool (true == true))from w_eq_bool (w_res rfl) w_lit) rfl
theorem xx {l:RP}(hn:l.most=some n)(hdf:d.params.defaults=[])(call:∀(w:Nn) (g e:fy) (mg C:Str->Option eF) (y:Addr) (o:Obj) (B z p:eF) (a:Addr) (vs:List eF) (ns:List Int),
   Ground q j [] Q w g mg C e.heap->O w e.heap ->
   e.heap.get? y=some o->o.data=.func (docDef d.name d.params d.body d.scope B z p)->e.heap.CodeRec z d.name->mg d.name=some (.ref y) ->
   e.heap.get? a=some {cls:=.type "list",data:=.seq vs.toArray}->US vs ns->ns.length<=n->e.gens=#[] ->
   OW (Nj l.prog w) TU (.call (.ref y) #[[.ref a],[]]) (λr s'=>r=.ok (.ret (.bool true))/\OldK e.heap s'.heap/\s'.os=e.os/\RS s'.gens) e):
  WalkO q j Q O l.row.toRowW d [] (λf vs=>UY f vs):=by
 intro w g e mg C G Y y o B z p dV kV T hd I M H W N J as t L R D V;obtain rfl:dV=.none:=Dflts.none M hdf;obtain rfl:kV=.none:=Dflts.noKw M;have(a,vs,ns,rfl,rfl,u,m,v):=AV hn t D;refine enter_call (Qt (call w g e mg C y o B z p a vs ns G Y T (fd_plain hd) I H u m v W) λr s' S=>?_);have(rfl,h2,Z,X):=S;exact#[.inl #[.bool true,.bool true,[],rfl,λ_=>rfl,.bool true,AW l _,λ_=>#[List.Pairwise.nil,λ_ U=>(nomatch U)]],h2,Z,X]
end Att
namespace L2
open PySem PySem.Spec PyProof.Rows
theorem uQ :∀{vs:List eF}{ns:List Int},US vs ns->Vals (ns.map V.int) vs
 |_,_,.nil=>.nil
 |_,_,.cons n t h=>.cons #[t,rfl] (uQ h)
def HX(H:Hp):Prop:=∀b,H b=none\/∃o d,H b=some (.nC o (.lst d))
theorem Ce {K:bN}{T:L1}{sp:Sp}(KX:K.In g.heap)(hns:g.heap.Ns NC mg)(l:g.heap.Ns builtinsNs M)(hbb:∀x:Str,x≠"__name__"->M x=QW x)(hlim:g.heap.NoLimit)(hg:g.gens=#[])(ha:g.heap.get? a=some {cls:=.type "list",data:=.seq vs.toArray})(hi:US vs ns)(hl:ns.length<=mH)(hr:di k TU)(F:∀base:Heap,K.In base->base.Ns NC mg->cA P w K mg base CX k N T [x] sp)(hbind:∀(s:fy) (u:eF),Us s T #[[u],[]] [(x,u)])(hsp:∀H:Hp,HX H->bQ K H a (ns.map V.int)->sp [.ref a] H (λv _=>v=.bl true) λ_ _ _=>False)(hCX:∀H e s',CX [] H g (λ_ _ _=>False) e s'->False):
  OW (Nj P w) TU (.call (.ref N) #[[.ref a],[]]) (λr s'=>r=.ok (.ret (.bool true))/\OldK g.heap s'.heap/\s'.os=g.os/\RS s'.gens) g:=by
 have Q:=uQ hi;have y:=hi.length
 -- from an abstract heap in which nothing but the script may be tracked
 have core:∀H:Hp,HX H->bQ K H a (ns.map V.int)->mL P w H g.heap->(∀b,H b≠none->b=a)->(H a≠none->K.lookup a=none) ->
   OW (Nj P w) TU (.call (.ref N) #[[.ref a],[]]) (λr s'=>r=.ok (.ret (.bool true))/\OldK g.heap s'.heap/\s'.os=g.os/\RS s'.gens) g:=by
  intro H R hS C S hK;have j:∀{b:Addr}{o:Obj},g.heap.get? b=some o->H b=none->(vE g.heap H).get? b=some o:=λe n=>BX e n
  have L:∀{b:Addr}{o:Obj}{G:Array PL}{I:Nat},g.heap.get? b=some o->o.data=.dict G I->H b=none:=λ{b o G I} e d=>by
   cases q:H b with
   |none=>rfl
   |some u =>
    have O:b=a:=S b (by rw[q];simp);subst O;rw[ha]at e;cases e;have d':Data.seq vs.toArray _=Data.dict G I:=d
    cases d'
  have p:∀{b:Addr}{m:Str->Option eF},g.heap.Ns b m->(vE g.heap H).Ns b m:=λ{b m} ⟨o,G,I,e,d,r⟩=>#[o,G,I,j e (L e d),d,r]
  have D:K.In (vE g.heap H):=λb o e=>j (KX b o e) (by
   cases q:H b with
   |none=>rfl
   |some u =>
    have O:b=a:=S b (by rw[q];simp);subst O;rw[hK (by rw[q];simp)]at e;cases e)
  have hM:Mod K mg (vE g.heap H):=#[D,p hns,#[M,p l,hbb],let⟨mc,h1,h2⟩:=hlim;#[mc,p h1,h2]];have e0:yP P w K mg (vE g.heap H) TU [] g H:=#[rfl,hM,λb o e=>Ed e,Uq (AL _ _),trivial,λb l=>absurd (show b∈([]:List Addr)from l) (by simp),C,.of_eq hg];refine Qt ((F _ D (p hns)).run TU [] g H #[[.ref a],[]] [.ref a] [.ref a] _ _ hr e0 (hbind g (.ref a)) (.cons rfl .nil) (hsp H R hS)) λr s' h=>?_
  cases r with
  |error e=>exact(hCX H e s' h).elim
  |ok fl =>
   cases fl with
   |next=>exact OE h
   |brk=>exact OE h
   |cont=>exact OE h
   |ret u =>
    have(v,H',os,J,un,B,Y,q):=h;have Z:v=.bl true:=q;subst Z;obtain rfl:u=Value.bool true:=Y;refine#[rfl,OldK.of_keep λb o e=>?_,os,J]
    cases q:H b with
    |none=>exact un.keep b o e q (by intro z;exact absurd (show b∈([]:List Addr)from z) (by simp)) (by simp)
    |some u =>
     rcases R b with z|⟨ob,xs,z⟩
     .rw[q]at z;cases z
     .have X:=un.frzs b ob _ z;have(U,_):=C b _ z;have(e2,_):=B b _ X;rw[e]at U;cases U;exact e2
 cases hk:K.lookup a with
 |some o =>
  -- the script is one of the module's own objects
  have e:=KX a o hk;rw[ha]at e
  cases e
  refine core (λ_=>none) (λ_=>.inl rfl) (.inr #[_,vs.toArray,_,hk,rfl,rfl,rfl,by rw[Nb,y];exact hl,by simpa using Q]) (λb u z=>by have t:(none:Option HO)=some u:=z;cases t) (λb z=>absurd rfl z) λz=>absurd rfl z
 |none =>
  refine core (λb=>if b=a then some (.nC {cls:=.type "list",data:=.seq vs.toArray} (.lst (ns.map V.int)))else none) (λb=>?_) (.inl (.inr #[{cls:=.type "list",data:=.seq vs.toArray},if_pos rfl])) (λb u z=>?_) (λb z=>?_) λ_=>hk
  .by_cases l:b=a
   .exact .inr #[_,_,if_pos l]
   .exact .inl (if_neg l)
  .by_cases l:b=a
   .have t:=(if_pos l).symm.trans z
    cases t
    subst l;exact#[ha,by rw[bM];exact hl,vs,_,Q,ha]
   .have t:=(if_neg l).symm.trans z
    cases t
  .by_cases l:b=a
   .exact l
   .exact absurd (if_neg l) z
theorem Ey {l:RP}{K:Params->bN}{CX:Nn->wU}{sp:Nn->Sp}(hn:l.most=some n)(hn2:n<=mH)(hdf:d.params.defaults=[])(hr:di k TU)(hY:∀(w:Nn) (h:Heap),D w h->(K w.params).In h)(F:∀(w:Nn) (mg:Str->Option eF) (y:Addr) (h:Heap),(K w.params).In h->h.Ns NC mg->mg d.name=some (.ref y) ->
   ∃B:L1,(∀(s:fy) (u:eF),Us s B #[[u],[]] [(x,u)]) /\
    ∀base:Heap,(K w.params).In base->base.Ns NC mg->cA l.prog w (K w.params) mg base (CX w) k y B [x] (sp w))(hsp:∀(w:Nn) (H:Hp) (a:Addr) (ns:List Int),ns.length<=n->HX H->bQ (K w.params) H a (ns.map V.int)->sp w [.ref a] H (λv _=>v=.bl true) λ_ _ _=>False)(hCX:∀(w:Nn) (H:Hp) (s:fy) (e:eF) (s':fy),CX w [] H s (λ_ _ _=>False) e s'->False):
  U3 q m S D l.row.toRowW d [] (λf vs=>UY f vs):=by
 refine Att.xx hn hdf λw C r mg X y o U cd R a vs ns G Y Z hd L z t p j J=>?_;have I:=hY w _ Y;have(B,M,Q):=F w mg y _ I G.T.g z;exact Ce I G.T.g G.T.b G.T.builtins G.T.nolimit J t p (Nz j hn2) hr Q M (λH O N=>hsp w H a ns j O N) λH e s'=>hCX w H r e s'
noncomputable def lI(s:Stmt):Arguments:=match s with
 |.FunctionDef _ a _ _ _ _ _ _ _ _=>a
 |_=>{posonlyargs:=[],args:=[],vararg:=none,kwonlyargs:=[],kw_defaults:=[],kwarg:=none,defaults:=[]}
noncomputable def bh(s:Stmt):List Stmt:=match s with
 |.FunctionDef _ _ b _ _ _ _ _ _ _=>b
 |_=>[]
noncomputable def ak(s:Stmt):OG:=match s with
 |.FunctionDef _ _ _ _ _ _ sc _ _ _=>sc
 |_=>{kind:=.function,names:=[],isGenerator:=false,isCoroutine:=false}
abbrev gy:wU:=λ_ _ _ _ _ _=>False
abbrev E0:XK:=λ_ _ _=>False
theorem kQ :Passes gy X E0:=λ_ _ _ _ _ _ _ h=>h.elim
structure jq(K:bN) (x qual:Str) (st:Stmt) (f:Addr) (fd:L1):Prop where
 ex:∃(oc:eF) (od:Option Addr) (kV doc pm:eF) (an:Option Addr) (cdv ct:eF) (osl:Array (Option eF)),
  fd=Q4 x qual (lI st) (bh st) (ak st) .none kV doc pm an cdv ct/\K.lookup f=some #[oc,od,.func fd,osl]/\Sy K cdv qual=true
 kp:Pd K (.ref f)=true
theorem jq.ok {K:bN}{st:Stmt}{sp:Sp}(F:jq K x d st f l)(S:aZ N ps (ak st))(e:∀vs H Q E,sp vs H Q E->vs.length=ps.length)(hbody:∀(cdv:eF) (A:Nx) (outer:List Env) (s:fy) (H:Hp) (vs:List V) (Q:VK) (E:XK),di k (A.deeper (Np d (ak st) s.heap.objs.size f cdv))->sp vs H Q E ->
   ∃t,qP (vI gy P w K mg base N d (ak st) f cdv A outer s H E).nN (bh st) t/\t {nx:=λ_ r=>Q .eN r,rt:=Q} (start N vs) H):cA P w K mg base gy (k+1) f l ps sp:=by
 have(y,v,kV,p,u,B,cdv,z,m,rfl,o,j):=F.ex;refine GG o j S e λA outer s H vs Q E hr g=>?_;have(t,h,q):=hbody cdv A outer s H vs Q E hr g;exact#[t,h.nN,q]
theorem jq.binds {K:bN}{st:Stmt}(F:jq K x d st f l)(h:∀(kV e g:eF) (j:Option Addr) (cdv ct:eF) (us:List eF),us.length=ps.length->bindArgs (Q4 x d (lI st) (bh st) (ak st) .none kV e g j cdv ct) #[us,[]]=pure (ps.zip us)):Binds K l ps []:=by
 have(q,p,kV,e,g,j,cdv,ct,m,rfl,r,o):=F.ex;exact .all (h kV e g j cdv ct)
theorem gE (hr:di k A):A.units+1<Ri:=R9 (TY (by decide:1<=64) _) hr.units
theorem br (h:n<=1000):n<mH:=R9 h (by decide)
theorem pv (i:Nat)(e:X.N[i]?=some x:=by rfl)(d:Jw X.env.scope x:=by first|exact Or.inl rfl|exact Or.inr (Or.inl rfl)|exact Or.inr (Or.inr rfl))(hd:(x == ("__debug__":Str))=false:=by decide)(hcd:(x == ("__classdict__":Str))=false:=by decide):PE X (.Name x pos) (mO i):=BY e d hd hcd
theorem bW {c A B:Prop}[Decidable c](e:c->A)(d:¬c->B):if c then A else B:=by
 by_cases h:c
 .rw[if_pos h];exact e h
 .rw[if_neg h];exact d h
def aT(H d:Hp):Prop:=∀b o,H b=some o->d b=some o
theorem aT.refl (H:Hp):aT H H:=λ_ _ h=>h
theorem aT.trans (a:aT H e)(b:aT e d):aT H d:=λc o h=>b c o (a c o h)
theorem aT.free (e:aT H d)(h:d l=Option.none):H l=Option.none:=by
 cases q:H l with
 |none=>rfl
 |some o =>
  rw[e l o q]at h
  cases h
theorem aT.seq {K:bN}(e:aT H d)(h:bQ K H a xs):bQ K d a xs:=by
 rcases h with(h|⟨o,h⟩)|h
 .exact .inl (.inl (e _ _ h))
 .exact .inl (.inr #[o,e _ _ h])
 .exact .inr h
noncomputable def cV {κ:Type}[DecidableEq κ](kvs:List (κ×V))(k:κ):Option V:=(kvs.find? λd=>decide (d.1=k)).map (·.2)
noncomputable def putK {κ:Type}[DecidableEq κ](kvs:List (κ×V))(k:κ)(v:V):List (κ×V) :=
 if(kvs.any λd=>decide (d.1=k))=true then kvs.map (λd=>if d.1=k then(d.1,v)else d)else kvs++[(k,v)]
theorem fJ {κ:Type}[DecidableEq κ]{p:κ×V}{r:List (κ×V)}{k:κ}(e:p.1=k):cV (p::r) k=some p.2:=by simp[cV,Oe,e]
theorem fK {κ:Type}[DecidableEq κ]{p:κ×V}{r:List (κ×V)}{k:κ}(e:¬p.1=k):cV (p::r) k=cV r k:=by simp[cV,Oe,e]
theorem sF {κ:Type}[DecidableEq κ](k:κ):∀kvs:List (κ×V),(kvs.any λd=>decide (d.1=k))=(cV kvs k).isSome
 | []=>rfl
 |p::r=>by
  rw[Rw]
  by_cases e:p.1=k
  .simp only[fJ e,decide_eq_true e,Bool.true_or,Option.isSome_some]
  .rw[fK e,decide_eq_false e,Bool.false_or];exact sF k r
theorem mV {κ:Type}[DecidableEq κ](kvs:List (κ×V))(k:κ)(v:V):(putK kvs k v).length<=kvs.length+1:=by
 unfold putK
 split
 .rw[bM];omega
 .rw[i4,Nv,Qf];omega
theorem Cf {κ:Type}[DecidableEq κ]{kvs:List (κ×V)}{k:κ}(v:V)(h:cV kvs k=none):putK kvs k v=kvs++[(k,v)]:=by
 unfold putK;rw[sF,h];exact if_neg (by decide)
theorem lA.kR (r:lA o u):o.isSome=u.isSome:=by
 cases o with
 |none=>cases u with
  |none=>rfl
  |some _=>exact(show False from r).elim
 |some _=>cases u with
  |none=>exact(show False from r).elim
  |some _=>rfl
theorem KV.val {κ:Type}[DecidableEq κ]{kvs:List (κ×V)}{vs:List (κ×eF)}(r:KV kvs vs)(k:κ):lA (cV kvs k) (Qu vs k):=by
 unfold KV at r
 induction r with
 |nil=>exact True.intro
 |@cons p q ps qs h t ih =>
  have(g,j):=h
  by_cases e:p.1=k
  .have d:q.1=k:=g.symm.trans e;have b:Qu (q::qs) k=some q.2:=by simp[Qu,Oe,d]
   rw[fJ e,b];exact j
  .have d:¬q.1=k:=λz=>e (g.trans z);have b:Qu (q::qs) k=Qu qs k:=by simp[Qu,Oe,d]
   rw[fK e,b];exact ih
theorem KV.any {κ:Type}[DecidableEq κ]{kvs:List (κ×V)}{vs:List (κ×eF)}(r:KV kvs vs)(k:κ):(kvs.any λd=>decide (d.1=k))=vs.any λd=>decide (d.1=k):=by
 unfold KV at r
 induction r with
 |nil=>rfl
 |cons h t ih=>rw[Rw,Rw,ih,h.1]
theorem KV.repl {κ:Type}[DecidableEq κ]{kvs:List (κ×V)}{vs:List (κ×eF)}(r:KV kvs vs)(k:κ){y:V}{u:eF}(j:RelV y u):
  KV (kvs.map λd=>if d.1=k then(d.1,y)else d) (vs.map λd=>if d.1=k then(d.1,u)else d):=by
 unfold KV at r|-
 induction r with
 |nil=>exact .nil
 |@cons p q ps qs h t ih =>
  rw[Ny,Ny];refine .cons ?_ ih;have(g,l):=h
  by_cases e:p.1=k
  .rw[if_pos e,if_pos (g.symm.trans e)];exact#[g,j]
  .rw[if_neg e,if_neg (λz=>e (g.trans z))];exact#[g,l]
theorem KV.put {κ:Type}[DecidableEq κ]{kvs:List (κ×V)}{vs:List (κ×eF)}(r:KV kvs vs)(k:κ){y:V}{u:eF}(d:RelV y u):KV (putK kvs k y) (stored vs k u):=by
 unfold putK stored;rw[r.any k]
 by_cases e:(vs.any λg=>decide (g.1=k))=true
 .rw[if_pos e,if_pos e];exact r.repl k d
 .rw[if_neg e,if_neg e];exact Paired.snoc r #[rfl,d]
theorem KV.length {κ:Type}[DecidableEq κ]{kvs:List (κ×V)}{vs:List (κ×eF)}(r:KV kvs vs):kvs.length=vs.length:=Paired.length r
theorem qT (r:RelV (kV k) u):(bf P w).is k u=true:=by
 cases k with
 |inl i=>have(t,e):=(show ∃t,u=Value.int i t from r);subst e;exact wY P w i t
 |inr x=>have(t,e):=(show ∃t,u=Value.str x t from r);subst e;exact wZ P w x t
theorem uR :∀{ks:List Key}{us:List eF},Vals (ks.map kV) us->ItemsAre (bf P w) ks us
 | [],_,r=>by rw[OX]at r;cases r;exact .nil
 |k::ks,_,r=>by
  rw[Ny]at r
  cases r with
  |cons h t=>exact .cons (qT h) (uR t)
abbrev KT(H:Hp):List (List Key×V)->List (List Key×Addr×eF)->Prop:=Paired λp q=>p.1=q.1/\H q.2.1=some (.tup (p.1.map kV))/\RelV p.2 q.2.2
theorem KT.val (r:KT H kvs xs)(k:List Key):lA (cV kvs k) ((UN xs k).map (·.2)):=by
 induction r with
 |nil=>exact True.intro
 |@cons p q ps qs h t ih =>
  have(g,_,j):=h
  by_cases e:p.1=k
  .have d:q.1=k:=g.symm.trans e;have b:UN (q::qs) k=some q.2:=by simp[UN,Oe,d]
   rw[fJ e,b];exact j
  .have d:¬q.1=k:=λz=>e (g.trans z);have b:UN (q::qs) k=UN qs k:=by simp[UN,Oe,d]
   rw[fK e,b];exact ih
theorem KT.repl (r:KT H kvs xs)(k:List Key)(l:RelV y u):
  KT H (kvs.map λg=>if g.1=k then(g.1,y)else g) (xs.map (putAt k u)):=by
 induction r with
 |nil=>exact .nil
 |@cons p q ps qs h t ih =>
  rw[Ny,Ny];refine .cons ?_ ih;have(d,j,m):=h;unfold putAt
  by_cases e:p.1=k
  .rw[if_pos e,if_pos (d.symm.trans e)];exact#[d,j,l]
  .rw[if_neg e,if_neg (λz=>e (d.trans z))];exact#[d,j,m]
theorem KT.put (r:KT H kvs xs)(k:List Key)(j:H b=some (.tup (k.map kV)))(d:RelV y u):
  KT H (putK kvs k y) (storedH xs k b u):=by
 have e:(kvs.any λg=>decide (g.1=k))=(UN xs k).isSome:=by
  rw[sF,(r.val k).kR,Sm]
 unfold putK storedH;rw[e]
 by_cases q:(UN xs k).isSome=true
 .rw[if_pos q,if_pos q];exact r.repl k d
 .rw[if_neg q,if_neg q];exact Paired.snoc r #[rfl,j,d]
theorem KT.keeps (r:KT H kvs xs)(ht:∀b ys,H b=some (.tup ys)->d b=some (.tup ys)):KT d kvs xs :=
 Paired.Ec r λ_ _ z=>#[z.1,ht _ _ z.2.1,z.2.2]
theorem GI (ok:mL P w H h)(e:Rd H a u):eM P w H h a u:=e.ok ok
theorem sG (ok:mL P w H h)(e:Rd H a (.dK kvs)):kvs.length<=mH/\(a == OV)=false/\∃vs,KV kvs vs/\h.DictOf (bf P w) a vs :=
 show eM P w H h a (.dK kvs)from GI ok e
theorem GJ (ok:mL P w H h)(e:H a=some (.dK kvs)):kvs.length<=mH/\(a == OV)=false/\∃vs,KV kvs vs/\h.DictOf (bf P w) a vs:=sG ok (.inl e)
theorem sH (ok:mL P w H h)(e:H a=some (.tup (ks.map kV))):(TQ (bf P w)).is h ks a:=by
 have(_,d,r,(o,l,j,n,g),_):=(show eM P w H h a (.tup (ks.map kV))from ok a _ e);exact#[o,d.toArray,n,l,j,g,by simpa using uR r]
theorem xy (ok:mL P w H h)(e:Rd H a (.dT kvs)):kvs.length<=mH/\(a == OV)=false /\
  ∃xs,KT H kvs xs/\h.DictOfH (TQ (bf P w)) a xs:=by
 have(z,y,xs,r,o,B,C,v,u,j,g,d):=(show eM P w H h a (.dT kvs)from GI ok e);refine#[z,y,xs,r,o,B,C,v,u,j,g,λx hx=>?_,d]
 have all:∀{l:List (List Key×V)}{m:List (List Key×Addr×eF)},KT H l m->∀x∈m,(TQ (bf P w)).is h x.1 x.2.1:=by
  intro l m q
  induction q with
  |nil=>intro x hx;exact nomatch hx
  |@cons p q ps qs hq t ih =>
   intro x hx;rcases Nc.mp hx with e|hx
   .subst e;exact sH ok (by rw[<-hq.1];exact hq.2.1)
   .exact ih x hx
 exact all r x hx
theorem JU (ok:mL P w H h)(e:H a=some (.dT kvs)):kvs.length<=mH/\(a == OV)=false /\
  ∃xs,KT H kvs xs/\h.DictOfH (TQ (bf P w)) a xs:=xy ok (.inl e)
def cu(H:Hp)(a:Addr)(y:V)(r:Option V):Prop :=
 (∃d k,Rd H a (.dK d)/\y=kV k/\r=cV d k)\/∃d k b,Rd H a (.dT d)/\y=.ref b/\H b=some (.tup (k.map kV))/\r=cV d k
def nZ(H:Hp)(a:Addr)(y v:V)(e:Hp):Prop :=
 (∃d k,H a=some (.dK d)/\y=kV k/\d.length<mH/\e=upd H a (.dK (putK d k v))) \/
 ∃d k b,H a=some (.dT d)/\y=.ref b/\H b=some (.tup (k.map kV))/\d.length<mH/\e=upd H a (.dT (putK d k v))
theorem cu.k {k:Key}(e:H a=some (.dK kvs)):cu H a (kV k) (cV kvs k):=.inl #[kvs,k,.inl e,rfl,rfl]
theorem cu.t {k:List Key}(e:H a=some (.dT kvs))(d:H b=some (.tup (k.map kV))):cu H a (.ref b) (cV kvs k):=.inr #[kvs,k,b,.inl e,rfl,d,rfl]
theorem nZ.k {k:Key}(e:H a=some (.dK kvs))(d:kvs.length<mH):nZ H a (kV k) v (upd H a (.dK (putK kvs k v))):=.inl #[kvs,k,e,rfl,d,rfl]
theorem nZ.t {k:List Key}(e:H a=some (.dT kvs))(g:H b=some (.tup (k.map kV)))(d:kvs.length<mH):
  nZ H a (.ref b) v (upd H a (.dT (putK kvs k v))):=.inr #[kvs,k,b,e,rfl,g,d,rfl]
theorem Inv.big (I:Inv X pins σ H s):OV<s.heap.objs.size:=by
 have h:NC<s.heap.objs.size:=(I.mod.glob.keeps I.bk).lt;exact Nat.lt_trans (by decide) h
theorem AX (J:A.units+1<Ri)(I:Inv X pins σ H s)(g:cu H a y (some v))(C:RelV y u)(h:∀m s',Inv X pins σ H s'->RelV v m->Q m s'):
  Nd (Nj X.prog X.w) A (Q6 (.ref a) u) Q E s:=by
 rcases g with⟨kvs,k,e,ey,l⟩|⟨kvs,k,b,e,ey,eb,l⟩
 .subst ey;have(z,hd,G,j,B):=sG I.hok e;have(m,q,d):=lA.some_of (v:=v) (o:=Qu G k) (by rw[l];exact j.val k);exact wpAny_getItem_of (qT C) B.mapOf q (h m _ (I.tok _) d)
 .subst ey
  cases(show u=Value.ref b from C)
  have(z,hd,D,j,B):=xy I.hok e;have(m,q,d):=lA.some_of (v:=v) (o:=(UN D k).map (·.2)) (by rw[l];exact j.val k);have(p,L,t):=we.mp q;refine wpAny_getItem_heap (QJ J) (sH I.hok eb) B L ?_;rw[t];exact h m _ (I.tok _) d
theorem Ls (p:A.units+1<Ri)(I:Inv X pins σ H s)(g:cu H a y o)(m:RelV y u)(h:∀s',Inv X pins σ H s'->Q (.bool o.isSome) s'):
  Nd (Nj X.prog X.w) A (OB .In u (.ref a)) Q E s:=by
 rcases g with⟨kvs,k,e,ey,l⟩|⟨kvs,k,b,e,ey,eb,l⟩
 .subst ey;have(z,hd,B,d,j):=sG I.hok e;refine wpAny_in_of (qT m) hd j.mapOf ?_;rw[<-(d.val k).kR,<-l];exact h _ (I.tok _)
 .subst ey
  cases(show u=Value.ref b from m)
  have(z,hd,t,d,j):=xy I.hok e;refine wpAny_in_heap (QJ p) (sH I.hok eb) hd j ?_;have q:=(d.val k).kR;rw[Sm]at q;rw[<-q,<-l];exact h _ (I.tok _)
theorem Ez (p:A.units+1<Ri)(I:Inv X pins σ H s)(g:cu H a y o)(m:RelV y u)(h:∀s',Inv X pins σ H s'->Q (.bool (!o.isSome)) s'):
  Nd (Nj X.prog X.w) A (OB .NotIn u (.ref a)) Q E s:=by
 rcases g with⟨kvs,k,e,ey,l⟩|⟨kvs,k,b,e,ey,eb,l⟩
 .subst ey;have(z,hd,B,d,j):=sG I.hok e;refine wpAny_notIn_of (qT m) hd j.mapOf ?_;rw[<-(d.val k).kR,<-l];exact h _ (I.tok _)
 .subst ey
  cases(show u=Value.ref b from m)
  have(z,hd,t,d,j):=xy I.hok e;refine wpAny_notIn_heap (QJ p) (sH I.hok eb) hd j ?_;have q:=(d.val k).kR;rw[Sm]at q;rw[<-q,<-l];exact h _ (I.tok _)
theorem vP (I:Inv X pins σ H s)(g:Jv (H a))(hs:PU a s.heap h')(j:∃q,h'.get? a=some q)(new:eM X.prog X.w (upd H a d) h' a d):
  Inv X pins σ (upd H a d) {s with heap:=h',toks:=t'} :=
 I.write (x:=a) (e:=a) g (.inl rfl) (λb q l z=>(hs.2 b l).trans z) j new
theorem Cg (z:kvs.length<=mH)(hd:(a == OV)=false)(d:KV kvs vs)(e:h'.DictOf (bf P w) a vs):
  eM P w g h' a (.dK kvs):=#[z,hd,vs,d,e]
theorem AY (R:A.units+1<Ri)(I:Inv X pins σ H s)(g:nZ H a y v M)(D:RelV y u)(G:RelV v r)(h:∀s',Inv X pins σ M s'->Q Unit.unit s'):
  Nd (Nj X.prog X.w) A (setItem (.ref a) u r) Q E s:=by
 rcases g with⟨kvs,k,e,ey,l,eH⟩|⟨kvs,k,b,e,ey,eb,l,eH⟩
 .subst ey eH;have(z,hd,O,d,C):=GJ I.hok e;have p:O.length<=mH:=by rw[<-d.length];exact z
  have B:(putK kvs k v).length<=mH:=by have:=mV kvs k v;omega
  refine wpAny_setItem_pairs (hsz:=p) (qT D) C λJ j t=>h _ ?_;have S:∃q,J.get? a=some q:=let⟨q,_,_,m,_⟩:=j;#[q,m];exact vP I (by rw[e];exact True.intro) t S (Cg B hd (d.put k G) j)
 .subst ey eH
  cases(show u=Value.ref b from D)
  have(z,hd,N,d,C):=JU I.hok e;have p:N.length<=mH:=by rw[<-Paired.length d];exact z
  have B:(putK kvs k v).length<=mH:=by have:=mV kvs k v;omega
  refine wpAny_setItem_heap (hsz:=p) (QJ R) (sH I.hok eb) C λJ j t=>h _ ?_;have(q,Y,Z,m,W,V,U,_,T):=j;refine vP I (by rw[e];exact True.intro) t #[q,m] #[B,hd,_,(d.put k eb G).keeps λc ys L=>?_,q,Y,Z,m,W,V,U,T];rw[au (jr L e nofun)]
  exact L
def HY(i:Expr):Prop:=∀d e,Tr i false d e=operate [d,e] (Q6 d e)
theorem zM {T id:String}(hl:typeLookup (.type T) "__getitem__"=pure (some (.builtin id)))(hs:HY slice)(h:Nd (Nj prog w) A (eval d m) (λo l=>Nd (Nj prog w) A (eval slice m) (λi e=>e.TypeIs o T/\Nd (Nj prog w) A (Q6 o i) Q E e) E l) E s):
  Nd (Nj prog w) A (eval (.Subscript d slice pos) m) Q E s:=by
 refine S2 (NG h (λo l q=>NG q (λi e g=>?_) λ_ _ x=>x) λ_ _ x=>x);have(t,g):=g;unfold T9;refine cB ?_;rw[getitemInPython_of_ne t.not_modules];refine cB (wpAny_specialOf t hl ?_)
 have fin:Nd (Nj prog w) A (Tr slice false o i) (λr j=>Nd (Nj prog w) A (letTemporaryGo d o r>>=λ_=>pure r) Q E j) E e:=by
  rw[hs o i];exact wpAny_operating (NG g (λr j p=>cB (wpAny_letTemporaryGo (tF p))) λ_ _ x=>x)
 first
  |exact tF (cB fin)
  |exact cB (tF (cB fin))
  |exact cB fin
theorem xA (I:Inv X d l H s)(g:cu H a y o):s.TypeIs (.ref a) "dict":=by
 rcases g with⟨kvs,k,e,_,_⟩|⟨kvs,k,b,e,_,_,_⟩
 .have(_,_,p,_,j):=sG I.hok e;exact j.typeIs
 .have(_,_,m,_,j):=xy I.hok e;exact j.typeIs
def MO(x:V)(Q:VK):VK:=λy d=>∃a v,x=.ref a/\cu d a y (some v)/\Q v d
abbrev MP(ty:TE)(d:St)(Q:VK):VK:=λx e=>ty d e (MO x Q)
abbrev JV(e ty:TE):TE:=λd H Q=>e d H (MP ty d Q)
def JW(j ty g:TE):TS:=λD d H=>g d H λv o=>j d o λx m=>ty d m λy l=>∃a e,x=.ref a/\nZ l a y v e/\D.nx d e
theorem jK {o i:Expr}{pos:Pos}{td ty:TE}(z:X.A.units+1<Ri)(B:PE X o td)(hi:PE X i ty)(hs:HY i):PE X (.Subscript o i pos) (JV td ty):=by
 intro d s l H Q I h;refine zM Sh.lookup hs (cR (B d s l H _ I h) λu p ⟨x,J,D,r,q1⟩=>cR (hi d p l J _ D q1) λO N ⟨y,G,m,q,a,v,ex,g,t⟩=>?_);subst ex;obtain rfl:u=Value.ref a:=r;exact#[xA m g,AX z m g q λL M C j=>#[v,G,C,j,t]]
theorem pR {o i value:Expr}{pos pos':Pos}{td ty tv:TE}(G:X.A.units+1<Ri)(J:PE X o td)(hi:PE X i ty)(C:PE X value tv)(hs:Rq value (some (.Subscript o i pos')) pos.line X.env=pure false):
  PS X (.Assign [.Subscript o i pos'] value pos) (JW td ty tv):=by
 intro d s j H D I h;refine wpAny_Assign_Subscript (cR (C d s j H _ I h) λr m ⟨v,S,O,t,q1⟩=>cR (J d m j S _ O q1) λu l ⟨x,R,N,q,B⟩=>cR (hi d l j R _ N B) λV U ⟨y,W,M,p,a,Q,ex,g,z⟩=>?_) hs;subst ex;obtain rfl:u=Value.ref a:=q;exact AY G M g p t λT L=>#[j,Q,L,z]
theorem xB (h:Heap)(d:OV<h.objs.size):eM P w H (h.push {cls:=.type "dict",data:=.dict #[]}) h.objs.size (.dK []) :=
 #[Nu _,beq_eq_false_iff_ne.mpr (PR (ND d)),[],.nil,UQ h]
def HZ:TE:=λ_ H Q=>∀p,H p=none->Q (.ref p) (upd H p (.dK []))
theorem pS {pos:Pos}:PE X (.Dict [] [] pos) HZ:=λd s e H Q I h =>
 wpAny_Dict_empty #[.ref s.heap.objs.size,_,I.laid (a:=s.heap.objs.size) (o:=.dK []) (t':=s.toks) (λ_ _ q=>pC _ q) (lj _) (xB s.heap I.big),rfl,h _ (I.hok.fresh (lj _))]
def yV:List (TE×TE)->St->Hp->(List (V×V)->Hp->Prop)->Prop
 | [],_,H,Q=>Q [] H
 |(tk,tv)::r,σ,H,Q=>tk σ H λx j=>tv σ j λy g=>yV r σ g λd e=>Q ((x,y)::d) e
abbrev VV:List (V×V)->List (eF×eF)->Prop:=Paired λp q=>RelV p.1 q.1/\RelV p.2 q.2
def KR(X:Cx)(pos:Pos)(keys:List (Option Expr))(d:List Expr)(j:List (TE×TE)):Prop :=
 ∀(e:List (Addr×Obj)) (s:fy) (g:St) (H:Hp) (Q:List (V×V)->Hp->Prop),Inv X e g H s->yV j g H Q ->
  Nd (Nj X.prog X.w) X.A (evalPairs (pairTrees keys d X.env pos)) (λo p=>∃l m,Inv X e g m p/\VV l o/\Q l m) X.xe s
theorem EA :KR X pos [] [] []:=λd s e H Q I h=>pairTrees_nil_walk #[[],H,I,.nil,h]
theorem mW (D:PE X k m)(C:PE X v l)(hr:KR X pos ks vs e):
  KR X pos (some k::ks) (v::vs) ((m,l)::e):=λd s g H Q I h =>
 pairTrees_cons_walk (cR (D d s g H _ I h) λu p ⟨x,O,L,r,q1⟩=>cR (C d p g O _ L q1) λS o ⟨y,N,J,q,z⟩ =>
  cR (hr d o g N _ J z) λR T ⟨B,M,G,j,t⟩=>#[(x,y)::B,M,G,.cons #[r,q] j,t])
noncomputable def oQ(kvs more:List (Key×V)):List (Key×V):=more.foldl (λd e=>putK d e.1 e.2) kvs
theorem KV.merge :∀{more:List (Key×V)}{d:List (Key×eF)}{kvs:List (Key×V)}{vs:List (Key×eF)},KV more d->KV kvs vs->KV (oQ kvs more) (merged vs d):=by
 intro more d kvs vs r;unfold KV at r
 induction r generalizing kvs vs with
 |nil=>intro q;exact q
 |@cons p q ps qs h t ih =>
  intro g
  have e:KV (putK kvs p.1 p.2) (stored vs q.1 q.2):=by
   have:=g.put p.1 h.2;rw[<-h.1];exact this
  exact ih e
theorem oz :∀(more kvs:List (Key×V)),(oQ kvs more).length<=kvs.length+more.length
 | [],kvs=>by show kvs.length<=kvs.length+0;omega
 |p::r,kvs=>by
  have e:=oz r (putK kvs p.1 p.2);have d:=mV kvs p.1 p.2;show(oQ (putK kvs p.1 p.2) r).length<=_;rw[Nv];omega
theorem sI :∀{kvs:List (Key×V)}{e:List (eF×eF)},VV (kvs.map λg=>(kV g.1,g.2)) e->∃d,Carries (bf P w) e d/\KV kvs d
 | [],_,r=>by rw[OX]at r;cases r;exact#[[],True.intro,.nil]
 |p::kvs,_,r=>by
  rw[Ny]at r
  cases r with
  |@cons a b as bs h t =>
   have(d,c,q):=sI (P:=P) (w:=w) t;have(l,j):=b;exact#[(p.1,j)::d,#[qT h.1,rfl,c],.cons #[rfl,h.2] q]
def GK(e:List (TE×TE)):TE:=λl H Q=>∀p,H p=none->yV e l (upd H p (.dK [])) λm j=>j p=some (.dK [])/\∃d:List (Key×V),m=d.map (λg=>(kV g.1,g.2))/\d.length<=15/\Q (.ref p) (upd j p (.dK (oQ [] d)))
theorem EB (h:KR X pos keys d g)(m:keys.all (·.isSome)=true)(M:keys.length=d.length)(R:keys≠[])(h15:keys.length<=15):PE X (.Dict keys d pos) (GK g):=by
 intro j s u H Q I q;have L:=I.hok.fresh (lj s.heap.objs.size);have U:=I.laid (a:=s.heap.objs.size) (o:=.dK []) (h':=s.heap.push {cls:=.type "dict",data:=.dict #[]}) (t':=s.toks) (λ_ _ q=>pC _ q) (lj _) (xB s.heap I.big);refine wpAny_Dict_walk (knd:=bf X.prog X.w) m M R h15 (cR (h j _ u _ _ U (q _ L)) λV W ⟨Y,H2,t,r,e,l,S,Z,D⟩=>?_);subst S;have(y,c,B):=sI (P:=X.prog) (w:=X.w) r;have(z,hd,v,C,T):=GJ t.hok e
 cases C
 refine#[y,c,T,λh' p J=>#[.ref s.heap.objs.size,_,?_,rfl,D]]
 have G:(oQ [] l).length<=mH:=by
  have O:=oz l [];rw[Qf]at O;rw[Qo];omega
 have N:∃q,h'.get? s.heap.objs.size=some q:=let⟨q,_,_,hq,_⟩:=p;#[q,hq];exact vP t (by rw[e];exact True.intro) J N (Cg G hd (B.merge .nil) p)
end L2
set_option maxHeartbeats 4000000
namespace L2
open PySem
set_option genInjectivity true in
inductive T where
 |s (x:Str)|i (n:Int)|n|t (xs:List T)
theorem T.induct {P:T->Prop}(hs:∀x,P (.s x))(hi:∀n,P (.i n))(hn:P .n)(ht:∀xs,(∀x∈xs,P x)->P (.t xs))(a:T):P a :=
 T.rec (motive_1:=P) (motive_2:=λxs=>∀x∈xs,P x) hs hi hn ht (λ_ h=>nomatch h) (λ_ _ g e y d=>by
  cases d with
  |head=>exact g
  |tail _ h=>exact e y h) a
mutual
noncomputable def T.dep:T->Nat
 |.t xs=>T.mX xs+1
 |_=>0
noncomputable def T.mX:List T->Nat
 | []=>0
 |x::r=>max x.dep (T.mX r)
end
theorem T.Ci (h:x∈xs):x.dep<=T.mX xs:=by
 induction xs with
 |nil=>cases h
 |cons y r ih =>
  unfold T.mX
  cases h with
  |head=>exact Te _ _
  |tail _ h=>exact Nz (ih h) (SQ _ _)
mutual
noncomputable def T.eqB:T->T->Bool
 |.s x,.s y=>x == y
 |.i m,.i k=>m == k
 |.n,.n=>true
 |.t xs,.t ys=>T.pU xs ys
 |_,_=>false
noncomputable def T.pU:List T->List T->Bool
 | [],[]=>true
 |x::r,y::q=>x.eqB y&&T.pU r q
 |_,_=>false
end
theorem T.xC (h:∀x∈xs,∀y,T.eqB x y=true↔x=y):∀ys,T.pU xs ys=true↔xs=ys:=by
 induction xs with
 |nil=>intro ys;cases ys<;>simp[T.pU]
 |cons x r ih =>
  intro ys
  cases ys with
  |nil=>simp[T.pU]
  |cons y q =>
   unfold T.pU;rw[NO,h x (.head _) y,ih (λz d=>h z (.tail _ d)) q,List.cons.injEq]
theorem T.eqB_iff (a:T):∀b,T.eqB a b=true↔a=b:=by
 induction a using T.induct with
 |hs x=>intro b;cases b<;>simp[T.eqB]
 |hi x=>intro b;cases b<;>simp[T.eqB]
 |hn=>intro b;cases b<;>simp[T.eqB]
 |ht xs ih =>
  intro b
  cases b with
  |t ys=>unfold T.eqB;rw[T.xC ih ys,T.t.injEq]
  |_=>simp[T.eqB]
theorem T.Cj (a:T):T.eqB a a=true:=(T.eqB_iff a a).mpr rfl
noncomputable instance:DecidableEq T:=λa b=>if h:T.eqB a b=true then .isTrue ((T.eqB_iff a b).mp h)else .isFalse λz=>h ((T.eqB_iff a b).mpr z)
theorem T.Ck (a b:List T):T.pU a b=decide (a=b):=by rw[QG,decide_eq_true_iff,T.xC (λx _=>T.eqB_iff x)]
theorem T.oR :∀(xs ys:List T),T.pU xs ys=((Pc (min xs.length ys.length)).all (λj=>T.eqB (xs.getD j .n) (ys.getD j .n))&&xs.length == ys.length)
 | [],[]=>rfl
 | [],y::q=>by simp[T.pU]
 |x::r,[]=>by simp[T.pU]
 |x::r,y::q=>by
  unfold T.pU;rw[T.oR r q,Nv,Nv,Nat.succ_min_succ,List.range_succ_eq_map,SD,List.all_map];have e:(r.length+1 == q.length+1)=(r.length == q.length):=by simp
  rw[e,Bool.and_assoc];rfl
end L2
namespace L2
open PySem
set_option genInjectivity true in
inductive Hd where
 |num (n:Int)|name (x:Str)|gap (n:Int)|op (s:Str)|row|more|first|others|long|tag (t:Str)|call (f:Str)|mat (arms:List (Str×List Str))|ife|lt (x:Str)|fold (x y:Str)
inductive Tm where
 |mk (h:Hd) (ks:List Tm)
noncomputable def Tm.hd:Tm->Hd|.mk h _=>h
noncomputable def Tm.ks:Tm->List Tm|.mk _ ks=>ks
theorem Tm.induct {P:Tm->Prop}(g:∀h ks,(∀k∈ks,P k)->P (.mk h ks))(a:Tm):P a :=
 Tm.rec (motive_1:=P) (motive_2:=λd=>∀x∈d,P x) g (λ_ h=>nomatch h) (λ_ _ l j y e=>by
  cases e with
  |head=>exact l
  |tail _ h=>exact j y h) a
noncomputable def fc:Hd->Nat->Bool
 |.num _,n=>n == 0
 |.name _,n=>n == 0
 |.gap _,n=>n == 0
 |.op _,n=>n == 2
 |.row,_=>true
 |.more,n=>n == 2
 |.first,n=>n == 1
 |.others,n=>n == 1
 |.long,n=>n == 1
 |.tag _,_=>true
 |.call _,_=>true
 |.mat arms,n=>n == arms.length+1
 |.ife,n=>n == 3
 |.lt _,n=>n == 2
 |.fold _ _,n=>n == 3
inductive Wf:Tm->Prop
 |mk {h:Hd}{ks:List Tm}:fc h ks.length=true->(∀k∈ks,Wf k)->Wf (.mk h ks)
noncomputable def bnd:Hd->Nat->List (List Str)
 |.mat arms,_=>[]::arms.map (·.2)
 |.lt x,_=>[[],[x]]
 |.fold x y,_=>[[],[],[x,y]]
 |_,n=>Ng n []
noncomputable def oS(a:Str×List Str)(k:T):T:=.t [.s a.1,.t (a.2.map .s),k]
noncomputable def sJ:Hd->List T->T
 |.num n,_=>.t [.s "num",.i n]
 |.name x,_=>.t [.s "name",.s x]
 |.gap n,_=>.t [.s "gap",.i n]
 |.op s,ks=>.t (.s "op"::.s s::ks)
 |.row,ks=>.t [.s "row",.t ks]
 |.more,ks=>.t (.s "more"::ks)
 |.first,ks=>.t (.s "first"::ks)
 |.others,ks=>.t (.s "others"::ks)
 |.long,ks=>.t (.s "long"::ks)
 |.tag t,ks=>.t [.s "tag",.s t,.t ks]
 |.call f,ks=>.t [.s "call",.s f,.t ks]
 |.mat arms,ks=>.t [.s "match",ks.headD .n,.t (Oj oS arms ks.tail)]
 |.ife,ks=>.t (.s "if"::ks)
 |.lt x,ks=>.t (.s "let"::.s x::ks)
 |.fold x y,ks=>.t [.s "fold",ks.getD 0 .n,.s x,.s y,ks.getD 1 .n,ks.getD 2 .n]
mutual
noncomputable def enc:Tm->T
 |.mk h ks=>sJ h (EC ks)
noncomputable def EC:List Tm->List T
 | []=>[]
 |k::r=>enc k::EC r
end
theorem xD :∀ks:List Tm,EC ks=ks.map enc
 | []=>rfl
 |k::r=>by unfold EC;rw[xD r];rfl
theorem cY (h:Hd)(ks:List Tm):enc (.mk h ks)=sJ h (ks.map enc):=by unfold enc;rw[xD]
mutual
noncomputable def Tm.size:Tm->Nat
 |.mk _ ks=>Tm.sizes ks+1
noncomputable def Tm.sizes:List Tm->Nat
 | []=>0
 |k::r=>k.size+Tm.sizes r
end
mutual
noncomputable def Tm.depth:Tm->Nat
 |.mk _ []=>0
 |.mk _ (k::r)=>Tm.mY (k::r)+1
noncomputable def Tm.mY:List Tm->Nat
 | []=>0
 |k::r=>max k.depth (Tm.mY r)
end
theorem Tm.eB (k:Tm)(r:List Tm):Tm.sizes (k::r)=k.size+Tm.sizes r:=by rw[Tm.sizes]
theorem Tm.ik (h:Hd)(ks:List Tm):(Tm.mk h ks).size=Tm.sizes ks+1:=by rw[Tm.size]
theorem Tm.oU (h:Hd)(k:Tm)(r:List Tm):(Tm.mk h (k::r)).depth=Tm.mY (k::r)+1:=by rw[Tm.depth]
theorem Tm.pV :∀(a b:List Tm),Tm.sizes (a++b)=Tm.sizes a+Tm.sizes b
 | [],b=>by simp[Tm.sizes]
 |k::r,b=>by rw[Qv,Tm.eB,Tm.eB,Tm.pV r b];omega
theorem Tm.size_pos (a:Tm):0<a.size:=by cases a;unfold Tm.size;omega
theorem Tm.yW {ks:List Tm}(h:k∈ks):k.depth<=Tm.mY ks:=by
 induction ks with
 |nil=>cases h
 |cons y r ih =>
  unfold Tm.mY
  cases h with
  |head=>exact Te _ _
  |tail _ h=>exact Nz (ih h) (SQ _ _)
theorem Tm.AZ {ks:List Tm}(m:k∈ks):k.depth<(Tm.mk h ks).depth:=by
 cases ks with
 |nil=>cases m
 |cons y r=>rw[Tm.oU];exact Nat.lt_succ_of_le (Tm.yW m)
end L2
namespace L2
open PySem PySem.Spec PyProof.Rows
noncomputable def dY(d:Env):List (Str×Qp)->List (Str×Addr)->List (Str×Addr)
 | [],cs=>cs
 |(n,k)::r,cs=>dY d r (if k == .free then(n,(d.cells.lookup n).getD 0)::cs else cs)
theorem oA (h:∀x∈scope.names,x.2=.free->∃c,d.cells.lookup x.1=some c):closureFor scope d=pure (dY d scope.names []):=by
 have go:∀(l:List (Str×Qp)) (j:List (Str×Addr)),(∀x∈l,x.2=.free->∃c,d.cells.lookup x.1=some c) ->
   (forIn l j λx r=>if(x.2 == NameKind.free)=true then do let a ←cellOf d x.1;pure (ForInStep.yield ((x.1,a)::r))else pure (ForInStep.yield r):Sem (List (Str×Addr)))=pure (dY d l j):=by
  intro l
  induction l with
  |nil=>intro j _;rfl
  |cons x r ih =>
   intro j o;have(n,k):=x;rw[QH]
   by_cases p:k=.free
   .subst p;have(c,q):=o (n,.free) OL rfl;have e:cellOf d n=pure c:=by unfold cellOf;rw[show d.cells.lookup n=some c from q]
    simp only[beq_self_eq_true,if_true,e,pure_bind];rw[ih _ λy m=>o y (Og _ m)];unfold dY;rw[show d.cells.lookup n=some c from q]
    cases r<;>rfl
   .have t:(k == NameKind.free)=false:=by simpa using p
    simp only[t,PB,if_false,pure_bind];rw[ih _ λy m=>o y (Og _ m)]
    conv=>rhs;unfold dY
    simp only[t,PB,if_false]
 simp only[closureFor];have g:=go scope.names [] h;simp only[g];rfl
theorem jL :∀(l:List (Str×Qp)) (o:List (Str×Addr)),(∀x∈l,x.2=.free->∃c,d.cells.lookup x.1=some c)->(∀y c,o.lookup y=some c->d.cells.lookup y=some c) ->
  ∀y c,(dY d l o).lookup y=some c->d.cells.lookup y=some c
 | [],_,_,hc=>hc
 |(n,k)::r,o,hl,hc=>by
  refine jL r _ (λx q=>hl x (Og _ q)) λy c e=>?_
  by_cases j:(k == NameKind.free)=true
  .rw[if_pos j]at e;rw[NP]at e
   by_cases p:y=n
   .subst p;simp only[beq_self_eq_true]at e;have(u,m):=hl (y,k) OL (by simpa using j);have g:d.cells.lookup y=some u:=m;rw[g]at e|-;exact e
   .have t:(y == n)=false:=beq_eq_false_iff_ne.mpr p;rw[t]at e;exact hc y c e
  .rw[if_neg j]at e;exact hc y c e
theorem oB :∀(l:List (Str×Qp)) (e:List (Str×Addr)) (y:Str),(∃c,e.lookup y=some c)->∃c,(dY d l e).lookup y=some c
 | [],_,_,h=>h
 |(n,k)::r,e,y,h=>by
  refine oB r _ y ?_
  by_cases g:(k == NameKind.free)=true
  .rw[if_pos g,NP]
   cases hb:(y == n)with
   |true=>exact#[_,rfl]
   |false=>exact h
  .rw[if_neg g];exact h
theorem pW :∀(l:List (Str×Qp)) (g:List (Str×Addr)) (y:Str),(y,NameKind.free)∈l->∃c,(dY d l g).lookup y=some c
 | [],_,_,h=>nomatch h
 |(n,k)::r,g,y,h=>by
  rcases Nc.mp h with e|h
  .have m:y=n:=congrArg Prod.fst e;have j:NameKind.free=k:=congrArg Prod.snd e;subst m;subst j;refine oB r _ y #[(d.cells.lookup y).getD 0,?_];rw[if_pos (by rfl),NP,beq_self_eq_true]
  .exact pW r _ y h
theorem kG {d:Env}:∀{names:List (Str×Qp)}{x:Str}{g:Qp},(names.map λ(n,k)=>if(k == NameKind.free&&d.scope.kind == .function&&d.kindOf n == some .cell)then(n,NameKind.cell)else(n,k)).lookup x=some g ->
  names.lookup x=some g\/(g=.cell/\names.lookup x=some .free)
 | [],_,_,h=>by simp at h
 |(n,k)::r,x,g,h=>by
  have j:=@kG d r x g;change O9 x ((if(k == NameKind.free&&d.scope.kind == .function&&d.kindOf n == some .cell)=true then(n,NameKind.cell)else(n,k))::_)=_ at h
  cases hx:x == n with
  |true =>
   by_cases e:(k == NameKind.free&&d.scope.kind == .function&&d.kindOf n == some .cell)=true
   .rw[if_pos e]at h;simp only[NP,hx]at h
    cases h
    have l:k=.free:=by simp at e;exact e.1.1
    subst l;exact .inr #[rfl,by simp only[NP,hx]]
   .rw[if_neg e]at h;simp only[NP,hx]at h
    cases h
    exact .inl (by simp only[NP,hx])
  |false =>
   by_cases e:(k == NameKind.free&&d.scope.kind == .function&&d.kindOf n == some .cell)=true
   .rw[if_pos e]at h;simp only[NP,hx]at h|-;exact j h
   .rw[if_neg e]at h;simp only[NP,hx]at h|-;exact j h
theorem pX {d:Env}:∀{names:List (Str×Qp)}{x:Str},names.lookup x=some .free ->
  (names.map λ(n,k)=>if(k == NameKind.free&&d.scope.kind == .function&&d.kindOf n == some .cell)then(n,NameKind.cell)else(n,k)).lookup x=some .cell \/
  (names.map λ(n,k)=>if(k == NameKind.free&&d.scope.kind == .function&&d.kindOf n == some .cell)then(n,NameKind.cell)else(n,k)).lookup x=some .free
 | [],_,h=>by simp at h
 |(n,k)::r,x,h=>by
  have g:=@pX d r x;show O9 x ((if(k == NameKind.free&&d.scope.kind == .function&&d.kindOf n == some .cell)=true then(n,NameKind.cell)else(n,k))::_)=_\/O9 x ((if(k == NameKind.free&&d.scope.kind == .function&&d.kindOf n == some .cell)=true then(n,NameKind.cell)else(n,k))::_)=_
  cases hx:x == n with
  |true =>
   simp only[NP,hx]at h
   cases h
   by_cases e:(NameKind.free == NameKind.free&&d.scope.kind == .function&&d.kindOf n == some .cell)=true
   .rw[if_pos e];exact .inl (by simp only[NP,hx])
   .rw[if_neg e];exact .inr (by simp only[NP,hx])
  |false =>
   simp only[NP,hx]at h
   by_cases e:(k == NameKind.free&&d.scope.kind == .function&&d.kindOf n == some .cell)=true
   .rw[if_pos e];simp only[NP,hx];exact g h
   .rw[if_neg e];simp only[NP,hx];exact g h
theorem mZ (I:Nat->fy->Prop)(turn:∀n s,I n s->Nd (Nj prog w) A (Rr it) (λr o=>match r with
   |none=>R (.ok .next) o
   |some v=>Nd (Nj prog w) A (O4 d it v) (λ_ l=>Nd (Nj prog w) A (RX d g v) (λ_ t =>
     Nd (Nj prog w) A (forIn z true λc r=>if r=true then do let ok ←isTrue c g (eval c g);pure (ForInStep.yield ok)else pure (ForInStep.yield r)) (λok j =>
      if ok=true then Nd (Nj prog w) A (eval C g) (λx q =>
       Nd (Nj prog w) A (call (.builtin "list.append") [D,x]) (λ_ p=>∃m,m<n/\I m p) E q) E j
      else ∃m,m<n/\I m j) E t) E l) E o) E s)(hE:∀e s',E e s'->notedBy (Nj prog w) A g (λe s'=>R (.error e) s') e s')(n:Nat)(h:I n s):
  OW (Nj prog w) A (.compLoop (.ListComp C [#[d,iter,z,0]] scope pos) 0 it D g) R s:=by
 refine S8 rfl I (λn s L=>?_) n h;show Nd _ A ((Tu (.ListComp C [#[d,iter,z,0]] scope pos) 0 it D g).onRaise (λx=>do TV x g;theTreesLotGoes x)) _ _ s;refine Tv ?_;rw[compTurn_list];refine cB (OM (cB (NG (turn n s L) (λr o y=>?_) hE)))
 cases r with
 |none=>exact tF y
 |some v =>
  refine cB (NG y (λ_ l B=>?_) hE);refine cB (NG B (λ_ t J=>cB (NG J (λok j u=>?_) hE)) hE)
  cases ok with
  |false=>exact tF #[rfl,u]
  |true =>
   exact cB (cB (NG u (λx q H=>cB (NG H (λ_ p G=>tF (tF #[rfl,G])) hE)) hE))
noncomputable def bu(X:Cx)(scope:OG)(j:List Str)(g:List Addr)(C:Addr)(d:fy)(e:Hp):Cx where
 prog:=X.prog
 w:=X.w
 K:=X.K
 mg:=X.mg
 base:=X.base
 A:=X.A
 N:=j
 s₀:=d
 H₀:=e
 env:=compEnvC scope (dY X.env scope.names []) C X.env
 outer:=X.stack
 stack:=X.stack
 ex:=g
 fn:=λ_=>false
 calm:=X.calm
 pn:=[]
 xe:=λ_ _=>False
def sL(X:Cx)(g:List Expr)(t:TT):Prop :=
 ∀(d:List (Addr×Obj)) (s:fy) (e:St) (H:Hp) (Q:Bool->Hp->Prop),Inv X d e H s->t e H Q ->
  Nd (Nj X.prog X.w) X.A (forIn g true λc r=>if r=true then do let ok ←isTrue c X.env (eval c X.env);pure (ForInStep.yield ok)else pure (ForInStep.yield r)) (TP X d e Q) X.xe s
def uS:TT:=λ_ H Q=>Q true H
theorem fZ :sL X [] uS:=λd s e H Q I h=>by
 rw[Q8];exact tF #[H,I,h]
theorem xE {c:Expr}{t:TT}(g:PT X c t):sL X [c] t:=λd s e H Q I h=>by
 simp only[QH,Q8,if_true];exact cB (cB (NG (g d s e H Q I h) (λb l j=>tF (tF j)) λ_ _ x=>x))
noncomputable def iU(own:Nat)(fr:List Nat)(d:St):St:=Ng own none++fr.map λj=>(d[j]?).join
def mw(J:It)(g:TG)(y:TT)(z:TE)(Q:VK)(q:St)(C:Hp):Prop:=∃W:Nat->Nat->St->List V->Hp->Prop,(∃m,W 0 m q [] C)/\∀i m j e H,W i m j e H ->
 (J.stop i H/\e.length<=mH/\∀p,H p=none->Q (.ref p) (upd H p (.lst e))) \/
 (J.go i H/\e.length<mH/\∃N:St->List V->Hp->Prop,(∀d l o,N d l o->∃r,r < m/\W (i+1) r d l o)/\∀x u,J.yld i H x u->g x j u λd o=>y d o λok t =>
  if ok=true then z d t λv B=>N d (e++[v]) B else N d e t)
def uT(own:Nat)(fr:List Nat)(e:TI)(g:TG)(j:TT)(l:TE):TE:=λd H Q=>e d H λJ m=>mw J g j l Q (iU own fr d) m
theorem Cm {X:Cx}(r:σ.length=X.N.length){i:Nat}(g:(own++fr.map λj=>X.N.getD j Nt)[i]?=some x)(d:(iU own.length fr σ)[i]?=some (some v)):
  ∃j∈fr,X.N[j]?=some x/\X.N.getD j Nt=x/\σ[j]?=some (some v):=by
 unfold iU at d
 by_cases m:i<own.length
 .rw[N9 (by simpa using m),P4,if_pos m]at d
  cases d
 .rw[NR (by simpa using m),OQ,xn]at d;rw[NR (),xn]at g
  cases e:fr[i-own.length]? with
  |none=>rw[e]at d;cases d
  |some j =>
   rw[e]at g d;simp only[RK,Q9]at g d
   have p:σ[j]?=some (some v):=by
    cases q:σ[j]? with
    |none=>rw[q]at d;cases d
    |some o=>rw[q]at d;exact congrArg some d
   have l:j<X.N.length:=by rw[<-r];exact(bH.mp p).1
   refine#[j,Nf e,?_,g,p];rw[<-g,Ou,my l];rfl
theorem sN (I:Inv X pins σ H s)(hkind:scope.kind=.function)(hcell:∀x∈scope.names,x.2≠.cell)(hfr:∀x∈scope.names,x.2=.free->X.env.scope.names.lookup x.1=some .cell\/X.env.scope.names.lookup x.1=some .free)(hin:∀j∈fr,scope.names.lookup (X.N.getD j Nt)=some .free)(hC:s.heap.objs.size<=C)(hf:∀b∈M,pB X pins H b)(hfo:∀b∈M,b<s.heap.objs.size)(old:∀b o,s.heap.get? b=some o->d.get? b=some o)(hn:d.Ns C m):
  Inv (bu X scope (own++fr.map λj=>X.N.getD j Nt) M C s H) [] (iU own.length fr σ) H {s with heap:=d,toks:=Z}:=by
 have B:∀x∈scope.names,x.2=.free->∃c,X.env.cells.lookup x.1=some c:=λx G e=>I.ok.has x.1 (hfr x G e);have sub:∀y c,(dY X.env scope.names []).lookup y=some c->X.env.cells.lookup y=some c:=jL _ _ B (by intro y c e;simp at e);have g:∀y,scope.names.lookup y=some .free->∃c,(dY X.env scope.names []).lookup y=some c:=λy e=>pW _ _ _ (ON e)
 refine#[#[I.ok.mod,?_,I.ok.glob,I.ok.blt,hC,λx y c U T=>I.ok.inj x y c (sub x c U) (sub y c T),λx G=>?_,(λx c G=>nomatch G),I.ok.hd,I.ok.frames,.inl rfl,λb D=>?_,I.bs,Nz I.ok.bsz I.sz,λb o e D=>?_,λb D z=>?_,I.stack,I.vF],
  rfl,I.bare,Un.kept old,#[m,hn,λi x v U T h3=>?_],λx c e=>?_,I.hok.fresh hC,λx c e=>I.freeC x c (sub x c e),λp hp=>absurd (show p∈([]:List (Addr×Obj))from hp) (by simp),I.hok.kept old,?_]
 .exact hkind
 .have Q:(relabel scope X.env).names.lookup x=some .cell\/(relabel scope X.env).names.lookup x=some .free:=G
  have O:scope.names.lookup x=some .free:=by
   rcases Q with e|e
   .rcases kG e with e|⟨_,e⟩
    .exact absurd rfl (hcell _ (ON e))
    .exact e
   .rcases kG e with e|⟨z,_⟩
    .exact e
    .cases z
  exact g x O
 .refine#[ND (Ni (hfo b D) hC),λx c e=>(hf b D).2.2.2.2.1 x c (sub x c e)]
 .rcases(hf b D).2.2.2.1 with z|z
  .exact I.ok.noex b o e z
  .exact absurd (Ni (Na e) (Nz I.ok.bsz z)) (Om _)
 .have J:b∈M:=D;have Y:b∈frs X.stack:=z;rcases Nc.mp (I.rZ b Y)with e|e
  .exact(hf b J).2.1 e
  .exact(hf b J).2.2.1 e
 .have(j,hj,e1,e2,e3):=Cm (own:=own) I.len U T;have t:scope.names.lookup x=some .free:=by rw[<-e2];exact hin j hj
  have W:=hfr _ (ON t) rfl;have(m0,aa,S):=I.loc;have(u,r,l):=S j x v e1 e3 (.inr W);refine#[u,r,?_];rcases l with⟨k,_⟩|⟨_,c,ec,z⟩
  .have V:X.env.scope.names.lookup x=some .local:=k;rcases W with q|q<;>(rw[show X.env.scope.names.lookup x=_ from q]at V;cases V)
  .have(c',L):=g x t;have:=sub x c' L;rw[ec]at this
   cases this
   have(o,R,hd):=z;exact .inr #[pX t,c,L,o,old c o R,hd]
 .have(v,o,R,hd):=I.cell x c (sub x c e);exact#[v,o,old c o R,hd]
 .show(iU own.length fr σ).length=(own++fr.map λj=>X.N.getD j Nt).length;simp[iU]
theorem sO (I:Inv X pins σ H s)(y:∀b∈t,pB X pins H b)(I':Inv (bu X scope R t C s H) j σ' p s')(hC:s.heap.objs.size<=C)(hD:s.heap.objs.size<=D)(hDC:D≠C)(hDn:p D=none)(pl:s'.heap.PlainList D ys)(rv:Vals vs ys.toList)(hz:vs.length<=mH)(hs:PU C s'.heap h''):
  Inv X pins σ (upd p D (.lst vs)) {s' with heap:=h''}:=by
 have un:Un (frs X.stack) t H p s.heap s'.heap:=I'.base;have r:p C=none:=I'.free;have at':∀b,b≠C->h''.get? b=s'.heap.get? b:=λb g=>hs.2 b g;have l:∀b o,s.heap.get? b=some o->b≠C:=λb o e=>ND (Ni (Na e) hC);have G:∀b o,s.heap.get? b=some o->b≠D:=λb o e=>ND (Ni (Na e) hD);have d:∀b u,H b=some u->b≠D:=λb u e=>ND (Ni (I.hok.lt e) hD)
 have B:Un (frs X.stack) t H (upd p D (.lst vs)) s.heap h'':=by
  refine#[λb o e n L m=>?_,λb o e n L m=>?_,λb o e n m=>?_,λb o e m=>?_,λb M e=>?_,λb o u e=>?_,λb N e=>?_]
  .rw[at' b (l b o e)];exact un.keep b o e n L m
  .rw[at' b (l b o e)];exact un.slot b o e n L m
  .rw[au (G b o e)];exact un.free b o e n m
  .rw[at' b (l b o e)];exact un.there b o e m
  .rw[au (d b _ e)];exact un.tups b M e
  .rw[au (d b _ e)];exact un.frzs b o u e
  .rw[au (d b _ e)];exact un.tbls b N e
 have J:mL X.prog X.w (upd p D (.lst vs)) h'':=λb u e=>by
  by_cases g:b=D
  .subst g;rw[af]at e
   cases e
   have(n,O):=pl;refine#[hz,ys.toList,n,rv,?_];rw[at' b hDC]
   simpa using O
  .rw[au g]at e;refine(I'.hok b u e).stay (λc v Q q=>?_) (λc q=>?_) λc M q=>?_
   .rw[at' c ?_];exact q;rintro rfl;rcases Q with z|z
    .rw[<-z,r]at e;cases e
    .rw[r]at z;cases z
   .rw[au (λz=>by rw[z,hDn]at q;cases q)];exact q
   .rw[au (λz=>by rw[z,hDn]at q;cases q)];exact q
 exact I.GA (s':={s' with heap:=h''}) (ch:=t) I'.os B J I'.bare λb g=>#[(y b g).2.2.2.1,(y b g).2.1,(y b g).2.2.2.2.1,(y b g).2.2.2.2.2]
structure Ia(Y:Cx) (D:Addr) (fp:List Addr):Prop where
 stat:∀{H:Hp}{pl:List (Addr×Obj)},(∀b∈fp,H b=none)->(∀p∈pl,p.1=D)->∀b∈fp,pB Y pl H b
 pin:∀{σ:St}{H:Hp}{s:fy}{o:Obj}{pl:List (Addr×Obj)},Inv Y pl σ H s->H D=none->s.heap.get? D=some o->(∀v,o.data≠.cell v)->Inv Y ([(D,o)]++pl) σ H s
 put:∀{σ:St}{H:Hp}{s:fy}{h:Heap}{t:Nat}{pl:List (Addr×Obj)},Inv Y pl σ H s->(∀b o,b≠D->s.heap.get? b=some o->h.get? b=some o)->H D=none->(∀p∈pl,p.1≠D)->Inv Y pl σ H {s with heap:=h,toks:=t}
 out:D∉fp
theorem ED {ad:List Expr}{W:Nat->Nat->St->List V->Hp->Prop}{Q:List V->Hp->Prop}(hc:Y.calm=true)(hx:∀e s,¬Y.xe e s)(hg:PG Y tg g)(ht:sL Y ad tt)(he:PE Y ag te)(T:Turn Y.prog Y.w Y.K tg J fp it tn)(d:Ia Y D fp)(I:Inv Y [] σ H s)(st:tn 0 s.heap)(fn:∀b∈fp,H b=none)(dn:H D=none)(dd:s.heap.PlainList D #[])(w0:W 0 m σ [] H)(turn:∀i m σ' vs H,W i m σ' vs H->(J.stop i H/\vs.length<=mH/\Q vs H) \/
   (J.go i H/\vs.length<mH/\∃N:St->List V->Hp->Prop,(∀j aa H2,N j aa H2->∃m',m' < m/\W (i+1) m' j aa H2)/\∀x H',J.yld i H x H'->g x σ' H' λj H2=>tt j H2 λok Z =>
    if ok=true then te j Z λv H4=>N j (vs++[v]) H4 else N j vs Z))(fin:∀{σ:St}{H:Hp}{s:fy}{pl:List (Addr×Obj)}{vs:List V}{ys:Array eF}{pn:Nat},Inv Y pl σ H s->H D=none->s.heap.get? D=some {cls:=.type "list",data:=.seq ys pn}->Vals vs ys.toList->vs.length<=mH->Q vs H->R (.ok .next) s):
  OW (Nj Y.prog Y.w) Y.A (.compLoop (.ListComp ag [#[tg,iter,ad,0]] scope pos) 0 (.ref it) (.ref D) Y.env) R s:=by
 refine mZ (E:=Y.xe) (λn s'=>∃i σ' H' vs ys,Inv Y [] σ' H' s'/\tn i s'.heap/\(∀b∈fp,H' b=none)/\H' D=none/\s'.heap.PlainList D ys/\Vals vs ys.toList/\W i n σ' vs H')
  ?_ (λe s z=>(hx e s z).elim) m #[0,σ,H,[],#[],I,st,fn,dn,dd,.nil,w0]
 rintro n s3 ⟨i,C,Z,vs,ys,J3,ab,ae,ah,⟨pn,ac⟩,rv,w3⟩;generalize ho:({cls:=.type "list",data:=.seq ys pn}:Obj)=od at ac;have ai:Inv Y [(D,od)] C Z s3:=d.pin (pl:=[]) J3 ah ac λv z=>by rw[<-ho]at z;cases z
 have l:∀p∈[(D,od)],p.1=D:=λp O=>by
  have e':p=(D,od):=by simpa using O
  rw[e']
 rcases turn i n C vs Z w3 with⟨stop,hz,q⟩|⟨go,hz,N,hN,step⟩
 .refine cR (T.done Y rfl rfl rfl hc i _ s3 C Z Y.xe ai (d.stat ae l) ab stop) λr s4 ⟨hr,J4⟩=>?_;subst hr;exact fin J4 ah (ho▸(J4.pin (D,od) (vv _ (by simp))).1) rv hz q
 .refine cR (T.item Y rfl rfl rfl hc i _ s3 C Z Y.xe ai (d.stat ae l) ab go) λr s4 ⟨u,hr,h4⟩=>?_;subst hr;refine cR h4 λ_ s5 ⟨x,H5,J5,r5,y5,M,ak⟩=>?_;have al:=J5.pinned (d.stat ak l) (T.obj _ _ M);refine cR (hg _ s5 C H5 x u _ al r5 (step x H5 y5)) λ_ s6 ⟨B,H6,J6,q6⟩=>?_;refine cR (ht _ s6 B H6 _ J6 q6) λok s7 ⟨H7,J7,q7⟩=>?_
  have after:∀{s8:fy}{H8:Hp},Inv Y ([(D,od)]++oN fp s5.heap) B H8 s8->tn (i+1) s8.heap/\(∀b∈fp,H8 b=none)/\H8 D=none/\s8.heap.PlainList D ys:=λ{s8 H8} U=>by
   refine#[T.keep _ _ _ M λb L o e=>(U.pin (b,o) (vv _ (vv _ (fb L e)))).1,λb L=>?_,?_,pn,?_]
   .have(o,e,d):=T.obj _ _ M b L;exact(U.pin (b,o) (vv _ (vv _ (fb L e)))).2.1
   .exact(U.pin (D,od) (vv _ (NK _ (by simp)))).2.1
   .rw[ho];exact(U.pin (D,od) (vv _ (NK _ (by simp)))).1
  cases ok with
  |false =>
   have(m',hm,w7):=hN _ _ _ q7;have(a1,a2,a3,a4):=after J7;exact#[m',hm,i+1,B,H7,vs,ys,J7.fu (λp O=>absurd O (by simp)),a1,a2,a3,a4,rv,w7]
  |true =>
   refine cR (he _ s7 B H7 _ J7 q7) λy s8 ⟨v8,H8,U,r8,n8⟩=>?_;have(m',hm,w8):=hN _ _ _ n8;have(a1,a2,a3,a4):=after U
   have aj:ys.size<=mH:=by
    have e1:vs.length=ys.toList.length:=rv.length;have e2:ys.toList.length=ys.size:=by simp
    omega
   refine wpAny_list_append_plain (hsz:=aj) a4 λam S G=>?_
   refine#[m',hm,i+1,B,H8,vs++[v8],ys.push y,d.put (t:=s8.toks) (U.fu λp O=>absurd O (by simp)) (λb o L e=>by rw[G.2 b L];exact e) a3 (λp O=>absurd O (by simp)),
    T.keep _ _ _ a1 λb L o e=>(G.2 b (λz=>d.out (z▸L))).trans e,a2,a3,S,?_,w8]
   have:Vals (vs++[v8]) (ys.toList++[y]):=rv.append (.cons r8 .nil)
   simpa using this
theorem xF (own:List Str)(fr:List Nat)(hc:X.calm=true)(hkind:scope.kind=.function)(hcell:∀x∈scope.names,x.2≠.cell)(hnames:∀x∈scope.names,x.2=.local->scope.names.lookup x.1=some .local)(hfr:∀x∈scope.names,x.2=.free->X.env.scope.names.lookup x.1=some .cell\/X.env.scope.names.lookup x.1=some .free)(hin:∀j∈fr,scope.names.lookup (X.N.getD j Nt)=some .free)(hi:PI X tg iter wi)(hg:∀t C s H,PG (bu X scope (own++fr.map λj=>X.N.getD j Nt) t C s H) tg g)(ht:∀t C s H,sL (bu X scope (own++fr.map λj=>X.N.getD j Nt) t C s H) u tt)(he:∀t C s H,PE (bu X scope (own++fr.map λj=>X.N.getD j Nt) t C s H) S te)(hs:∀x,NQ iter X.env x=pure x)(I:Inv X pins σ H s)(h:uT own.length fr wi g tt te σ H Q)(fin:∀{t:List Addr}{C:Addr}{d s4:fy}{L H3:Hp}{aa:St}{vs:List V}{ys:Array eF}{pn:Nat}{pl:List (Addr×Obj)},Inv X pins σ L d->(∀b∈t,pB X pins L b)->Inv (bu X scope (own++fr.map λj=>X.N.getD j Nt) t C d L) pl aa H3 s4->d.heap.objs.size<=C->d.heap.objs.size≠C->H3 d.heap.objs.size=none->s4.heap.get? d.heap.objs.size=some {cls:=.type "list",data:=.seq ys pn}->Vals vs ys.toList->vs.length<=mH->Q (.ref d.heap.objs.size) (upd H3 d.heap.objs.size (.lst vs))->compPost (Nj X.prog X.w) X.A X.xe U R (.ref d.heap.objs.size) C (.ok .next) s4):
  Nd (Nj X.prog X.w) X.A (comprehension (.ListComp S [#[tg,iter,u,0]] scope pos) scope X.env (firstIterPos [#[tg,iter,u,0]] pos) (newList []) (firstAsync [#[tg,iter,u,0]]) (firstIter [#[tg,iter,u,0]] X.env) U) R X.xe s:=by
 have B:∀x∈scope.names,x.2=.free->∃c,X.env.cells.lookup x.1=some c:=λx hx e=>I.ok.has x.1 (hfr x hx e);refine SE (use:=U) rfl hs (oA B) hkind hnames ?_;refine cR (hi pins s σ H _ I h) λv s1 h1=>cR h1 λan d h2=>?_;have(it,t,tn,J,L,e,I2,T,ad,f2,W,(m0,w0),ab):=h2;subst e;have ah:∀b∈t,b<d.heap.objs.size:=λb D=>by have(o,e,_):=T.obj 0 _ ad b D;exact Na e
 refine NX (wpAny_newFunctionEnv hcell (by intro y hy;simp at hy) (λr m l=>?_) hkind);dsimp only at m l|-;generalize hH2:d.heap.push {cls:=.type "list",dict:=none,data:=.seq ([]:List eF).toArray}=G2 at m l|-;have hC:G2.objs.size=d.heap.objs.size+1:=by rw[<-hH2,Oh]
 have G:d.heap.objs.size≠G2.objs.size:=by rw[hC];exact ND (Pp _)
 have O:d.heap.objs.size<=G2.objs.size:=by rw[hC];exact OC _
 have ae:∀b o,d.heap.get? b=some o->r.get? b=some o:=λb o e=>l.extBut b o (by rw[hC];exact ND (Sq (Na e))) (pC _ (hH2▸pC _ e));have ai:r.PlainList d.heap.objs.size #[]:=#[_,l.extBut _ _ G (pC _ (hH2▸Nh _ rfl))]
 have I3:Inv (bu X scope (own++fr.map λj=>X.N.getD j Nt) t G2.objs.size d L) [] (iU own.length fr σ) L {d with heap:=r,toks:=d.toks+([]:List (Str×eF)).length} :=
  sN I2 hkind hcell hfr hin O f2 ah ae m
 have ac:tn 0 r:=T.keep 0 _ _ ad λb _ o e=>ae b o e;have ak:d.heap.objs.size∉t:=λhm=>Om _ (ah _ hm);have aj:L d.heap.objs.size=none:=I2.hok.fresh (lj _);have sub:∀y c,(dY X.env scope.names []).lookup y=some c->X.env.cells.lookup y=some c:=jL _ _ B (by intro y c e;simp at e)
 have Z:∀y c,(dY X.env scope.names []).lookup y=some c->c≠d.heap.objs.size:=λy c e=>by
  have(_,o,ho,_):=I2.cell y c (sub y c e);exact ND (Na ho)
 have am:d.heap.objs.size∉frs X.stack:=λz=>by
  rcases Nc.mp (I2.rZ _ z)with e|e
  .exact absurd I2.lt (by rw[<-e];exact Om _)
  .exact I2.Ef (lj _) e
 have dI:Ia (bu X scope (own++fr.map λj=>X.N.getD j Nt) t G2.objs.size d L) d.heap.objs.size t:=#[λ{H' pl} hn hp b D=>by
  refine#[hn b D,(I3.ok.exf b D).1,I3.ok.exfs b D,.inl D,(I3.ok.exf b D).2,λp al z=>?_];have ag:p∈pl:=by simpa[bu]using al
  exact ak (by rw[<-hp p ag,z];exact D),λ{σ' H' s' o pl} J hn e hcl=>J.fu λp hp=>by
  rcases L0.mp hp with hp|hp
  rotate_left
  .exact J.pin p (vv _ hp)
  have e':p=(d.heap.objs.size,o):=by simpa using hp
  subst e';exact#[e,hn,G,am,hcl],
  λ{σ' H' s' h' t' pl} J k hn hp=>J.turned (it:=d.heap.objs.size) k hn G (.inr (lj _)) Z (λp q=>hp p (by simpa[bu]using q)),ak]
 have M:OW (Nj X.prog X.w) X.A (.compLoop (.ListComp S [#[tg,iter,u,0]] scope pos) 0 (.ref it) (.ref d.heap.objs.size) (compEnvC scope (dY X.env scope.names []) G2.objs.size X.env))
   (compPost (Nj X.prog X.w) X.A X.xe U R (.ref d.heap.objs.size) G2.objs.size) {d with heap:=r,toks:=d.toks+([]:List (Str×eF)).length} :=
  ED (Y:=(bu X scope (own++fr.map λj=>X.N.getD j Nt) t G2.objs.size d L)) hc (λ_ _ z=>z) (hg _ _ _ _) (ht _ _ _ _) (he _ _ _ _) T dI I3 ac (λb D=>(f2 b D).1) aj ai w0 ab λ{aa H3 s4 pl vs ys pn} J4 dn3 e4 rv hz q=>fin I2 f2 J4 O G dn3 e4 rv hz (q _ dn3)
 exact codeAny_compStart_list M (T.self X.A 0 _ _ _ ac M)
theorem EE (own:List Str)(fr:List Nat)(L:X.calm=true)(hkind:scope.kind=.function)(hcell:∀x∈scope.names,x.2≠.cell)(hnames:∀x∈scope.names,x.2=.local->scope.names.lookup x.1=some .local)(hfr:∀x∈scope.names,x.2=.free->X.env.scope.names.lookup x.1=some .cell\/X.env.scope.names.lookup x.1=some .free)(hin:∀j∈fr,scope.names.lookup (X.N.getD j Nt)=some .free)(hi:PI X tg iter u)(hg:∀l C s H,PG (bu X scope (own++fr.map λj=>X.N.getD j Nt) l C s H) tg g)(ht:∀l C s H,sL (bu X scope (own++fr.map λj=>X.N.getD j Nt) l C s H) d v)(he:∀l C s H,PE (bu X scope (own++fr.map λj=>X.N.getD j Nt) l C s H) m y)(hs:∀x,NQ iter X.env x=pure x:=by intro _;rfl):PE X (.ListComp m [#[tg,iter,d,0]] scope pos) (uT own.length fr u g v y):=by
 intro z s S H Q I h;rw[eval_ListComp];refine xF own fr L hkind hcell hnames hfr hin hi hg ht he hs I h λR M B e r t O D J q=>?_;have(G,p,_):=id B.loc;exact#[G,p,λT o=>#[.ref _,_,sO R M B e (lj _) r t #[_,O] D J o,rfl,q]]
noncomputable def m6(scope d:OG)(e:List Str)(fr:List Nat):Bool :=
 scope.kind == .function&&scope.names.all (λx=>x.2 != .cell&&(x.2 != .local||scope.names.lookup x.1 == some .local)&&(x.2 != .free||d.names.lookup x.1 == some .cell||d.names.lookup x.1 == some .free)) &&
  fr.all (λj=>scope.names.lookup (e.getD j Nt) == some .free)
theorem kT {o iter tg:Expr}{d:List Expr}{scope:OG}{pos:Pos}{t:TI}{g:TG}{u:TT}{v:TE}(y:OG)(p own:List Str)(fr:List Nat)(I:X.calm=true)(r:X.env.scope=y)(J:X.N=p)(ok:m6 scope y p fr=true)(hi:PI X tg iter t)(hg:∀m C s H,PG (bu X scope (own++fr.map λj=>p.getD j Nt) m C s H) tg g)(ht:∀m C s H,sL (bu X scope (own++fr.map λj=>p.getD j Nt) m C s H) d u)(he:∀m C s H,PE (bu X scope (own++fr.map λj=>p.getD j Nt) m C s H) o v)(hs:∀x,NQ iter X.env x=pure x:=by intro _;rfl):PE X (.ListComp o [#[tg,iter,d,0]] scope pos) (uT own.length fr t g u v):=by
 subst r J;unfold m6 at ok;simp only[NO,NS,bne_iff_ne,beq_iff_eq,Qg]at ok;have((D,q),B):=ok;refine EE own fr I D (λx l=>(q x l).1.1) (λx l e=>?_) (λx l e=>?_) (λj G=>B j G) hi hg ht he hs
 .rcases(q x l).1.2 with z|z
  .exact absurd e z
  .exact z
 .rcases(q x l).2 with(z|z)|z
  .exact absurd e z
  .exact .inl z
  .exact .inr z
theorem vQ (n:Nat)(l:Nat->St->List V->Hp->Prop)(I:l 0 σ0 [] H0)(r:∀i d vs H,i<=n->l i d vs H->vs.length<=i)(hn:n<=mH)(z:∀i d vs H,i<n->l i d vs H->J.go i H)(u:∀d vs H,l n d vs H->J.stop n H)(hs:∀i d vs H x t,i<n->l i d vs H->J.yld i H x t->g x d t λj C=>tt j C λok B=>if ok=true then te j B λv L=>l (i+1) j (vs++[v]) L else l (i+1) j vs B)(hd:∀d vs H,l n d vs H->∀p,H p=none->Q (.ref p) (upd H p (.lst vs))):mw J g tt te Q σ0 H0:=by
 refine#[λi m d vs H=>m=n-i/\i<=n/\l i d vs H,#[n,by simp,Nu _,I],?_];rintro i m d vs H ⟨rfl,G,p⟩;have M:=r i d vs H G p
 by_cases o:i<n
 .exact .inr #[z i d vs H o p,(),l (i+1),λj D C q=>#[n - (i+1),(),rfl,o,q],λx t y=>hs i d vs H x t o p y]
 .have e:i=n:=()
  subst e;exact .inl #[u d vs H p,(),hd d vs H p]
theorem lJ (j:Nat->St->List V->Hp->Prop)(r:j 0 σ0 [] H0)(l:∀i e vs H,i<=n->j i e vs H->vs.length<=i)(hn:n<=mH)(hs:∀i e vs H,i<n->j i e vs H->g (.int (m+i)) e H λd u=>tt d u λok o=>if ok=true then te d o λv t=>j (i+1) d (vs++[v]) t else j (i+1) d vs o)(hd:∀e vs H,j n e vs H->∀p,H p=none->Q (.ref p) (upd H p (.lst vs))):mw (Hv m n) g tt te Q σ0 H0 :=
 vQ n j r l hn (λ_ _ _ _ h _=>h) (λ_ _ _ _=>lj _) (λi e vs H x z q p y=>by have(rfl,rfl):=y;exact hs i e vs _ q p) hd
theorem kU {K:bN}(j:Nat->St->List V->Hp->Prop)(r:j 0 σ0 [] H0)(l:∀i d vs H,i<=xs.length->j i d vs H->vs.length<=i)(hn:xs.length<=mH)(o:∀i d vs H,i<=xs.length->j i d vs H->bQ K H a xs)(hs:∀i x d vs H,xs[i]?=some x->j i d vs H->g x d H λe u=>tt e u λok q=>if ok=true then te e q λv t=>j (i+1) e (vs++[v]) t else j (i+1) e vs q)(hd:∀d vs H,j xs.length d vs H->∀p,H p=none->Q (.ref p) (upd H p (.lst vs))):mw (GC K a) g tt te Q σ0 H0:=by
 refine vQ xs.length j r l hn (λi d vs H m p=>#[xs,xs[i],o i d vs H (Ot m) p,by simp[m]]) (λd vs H p=>#[xs,o _ d vs H (lj _) p,lj _]) (λi d vs H x z m p y=>?_) hd;have(rfl,y):=y;exact hs i x d vs _ (y xs (o i d vs _ (Ot m) p)) p
structure qU(h:Heap) (lo:Nat) (xs ys:Array eF) (as:List Nat):Prop where
 rise:as.Pairwise (· < ·)
 low:∀a∈as,lo<=a
 pairs:∀(j:Nat) (a:Nat),as[j]?=some a->∃x y,xs[j]?=some x/\ys[j]?=some y/\Qi h a x y
theorem qU.lt (g:qU h d xs ys as)(m:a∈as):a<h.objs.size:=by
 have(j,l):=List.mem_iff_getElem?.mp m;have(_,_,_,_,e):=g.pairs j a l;exact Na e
theorem qU.keep (g:qU h d xs ys as)(k:∀c o,d<=c->h.get? c=some o->h'.get? c=some o):qU h' d xs ys as :=
 #[g.rise,g.low,λj a e=>by
  have(x,y,p,m,l):=g.pairs j a e;exact#[x,y,p,m,k a _ (g.low a (Nf e)) l]]
theorem qU.snoc (g:qU h d xs ys as)(k:∀c o,d<=c->h.get? c=some o->h'.get? c=some o)(hn:d<=n)(l:h.objs.size<=n)(q:xs[as.length]?=some x)(p:ys[as.length]?=some y)(r:Qi h' n x y):
  qU h' d xs ys (as++[n]):=by
 have u:=g.keep k;refine#[List.pairwise_append.mpr #[g.rise,QT _ _,λa m b t=>?_],λa m=>?_,λj a e=>?_]
 .rw[EF.mp t];exact Ni (g.lt m) l
 .rcases L0.mp m with h|h
  .exact g.low a h
  .rw[EF.mp h];exact hn
 .rcases Nat.lt_trichotomy j as.length with hj|hj|hj
  .rw[N9 hj]at e;exact u.pairs j a e
  .subst hj;rw[NR (lj _),S9]at e
   cases e
   exact#[x,y,q,p,r]
  .rw[Rk (by rw[i4,Rj];omega)]at e;cases e
theorem vR :∀{ys:List Str}{us:List eF},Vals (ys.map V.str) us->StrsAre us ys
 | [],_,.nil=>.nil
 |_::_,_,.cons ⟨t,e⟩ r=>by subst e;exact .cons _ t (vR r)
def rJoin(K:bN):V->List V->Hp->VK->Prop:=λx e H Q=>∃z p d,x=.str z/\e=[.ref p]/\bQ K H p (d.map V.str)/\(d.map (·.length)).sum+d.length*z.length<=16777216/\Q (.str (Txt.join z d)) H
theorem EG :KO X "str.join" (rJoin X.K):=by
 intro d s B H x D v G Q I e l h;have(z,p,C,rfl,rfl,r,y,q):=h;have(t,rfl):=e;have(u,rfl,j):=vals1 l
 cases j
 have(o,g,m,L):=I.list r;exact join_list m.isList (by simpa using vR g) y λJ k=>#[.str _,H,I.tok _,#[_,rfl],q]
theorem sQ :∀{bs:List Bool}{us:List eF},Vals (bs.map V.bl) us->LSm.BoolsAre us bs
 | [],_,.nil=>.nil
 |_::_,_,.cons e r=>by cases e;exact .cons _ (sQ r)
theorem Cn (D:X.calm=true):iQ X (.builtin "all") (λxs H Q=>∃(p:Addr) (bs:List Bool),xs=[.ref p]/\bQ X.K H p (bs.map V.bl)/\Q (.bl (bs.all id)) H):=by
 intro l s J H xs L Q I r h;have(p,bs,rfl,B,q):=h;have(u,rfl,y):=vals1 r
 cases y
 have(d,t,z,O):=I.list B;have m:=sQ t;have j:=z.isList;have g:p<s.heap.objs.size:=by have(_,e,_):=j;exact Na e
 refine call_all_walk (QY j ?_)
 refine#[s.heap.objs.size,[s.heap.objs.size,p],[s.heap.objs.size],d.toArray.size,_,_,λi=>(bs[i]?).getD true,rfl,Walks.list (A:=X.A.in1) (I.ok.hd D) _ p (ND g) d.toArray,
  #[#[_,Nh _ rfl,rfl,rfl],j.push _],λi v N S T G o=>?_,λR M C=>?_]
 .have(b,e,rfl):=m.get i v (by simpa using G);simp only[e,Option.getD_some]at o;exact PV o
 .have e:((Pc d.toArray.size).all λi=>(bs[i]?).getD true)=bs.all id:=by
   rw[Nb,m.length];exact LSm.range_all bs
  rw[e];exact#[.bl _,H,I.kept (LSm.kept_iter C),rfl,q]
def Lu:V->Option Int->Option Int->Hp->VK->Prop:=λx d e H Q=>∃z,x=.str z/\z.length<=mH/\Q (.str (O8 z d e)) H
theorem part_of (h:Sz v o):∃p:Option (Int×Tok),v=partValue p/\p.map (·.1)=o:=by
 cases h with
 |none=>exact#[none,rfl,rfl]
 |int i t=>exact#[some (i,t),rfl,rfl]
theorem Co :BS X Lu:=by
 intro d s C H x v G D M N L Q I j r o m h;have(z,rfl,p,q):=h;have(t,rfl):=j;have(g,rfl,B):=part_of o;have(e,rfl,y):=part_of m;refine#["str",_,PySem.F.slot_str_getitem.lookup,typeIs_str s z t,?_];refine wpAny_getItem_str_slice (l:=g) (u:=e) (st:=none) r rfl ?_;subst B y
 cases g<;>cases e<;>exact post_val_or_str #[Nz (Txt.slice_le z _ _) p,λJ k=>#[.str _,H,I.tok _,#[_,rfl],q]]
noncomputable def uU(xs:List V)(d hi st:Option Int):List V:=(Sa (Oq d hi st xs.length).1 (Oq d hi st xs.length).2.1 (Oq d hi st xs.length).2.2).filterMap (xs[·]?)
theorem qF (r:Vals xs us):∀d:List Nat,Vals (d.filterMap (xs[·]?)) (d.filterMap (us[·]?))
 | []=>.nil
 |i::d=>by
  rw[O2,O2]
  cases e:xs[i]? with
  |none=>rw[r.none_of e];exact qF r d
  |some x =>
   have(u,j,g):=r.get e;rw[j];exact .cons g (qF r d)
def Lv(K:bN)(te:TE)(tl th tk:TO):TE:=λd H Q=>te d H λx q=>tl d q λl o=>th d o λu m=>tk d m λk j=>∃a g,x=.ref a/\bQ K j a g/\k≠some 0/\(uU g l u k).length<=mH /\
 ∀p,j p=none->Q (.ref p) (upd j p (.lst (uU g l u k)))
theorem A0 {e st:Expr}{lo hi:Option Expr}{te:TE}{tl th tk:TO}{p2 pos:Pos}(he:PE X e te)(hl:PO X lo tl)(hu:PO X hi th)(hk:PO X (some st) tk):PE X (.Subscript e (.Slice lo hi (some st) p2) pos) (Lv X.K te tl th tk):=by
 intro d s g H Q I h;refine S2 (cR (he d s g H _ I h) λv M ⟨x,H1,I1,N,q1⟩=>?_);refine wpAny_Slice (cR (hl d M g H1 _ I1 q1) λD L ⟨l,H2,I2,V,S⟩=>cR (hu d L g H2 _ I2 S) λC J ⟨u,H3,I3,U,R⟩=>cR (hk d J g H3 _ I3 R) λG j ⟨k,H4,I4,W,O⟩=>?_);have(a,t,rfl,hx,Z,y,q):=O
 cases N
 have z:Inv X d g H4 {j with heap:=j.heap.push {cls:=.type "slice",data:=.fields #[D,C,G,]}}:=I4.kept (t':=j.toks) λb Y q=>pC _ q;have(m,r,B,hz):=z.list hx;have p:=r.length;refine tail_any (T:="list") (ops:=[.ref a,.ref j.heap.objs.size]) B.isList.typeIs Sl.lookup ?_ (by with_unfolding_all rfl);refine SA B.isList (R6 ..) V U W Z ?_ (by rw[Nb]<;>omega)
 have ep:UH m.toArray l u k=((Sa (Oq l u k t.length).1 (Oq l u k t.length).2.1 (Oq l u k t.length).2.2).filterMap (m[·]?)).toArray:=by
  unfold UH;rw[Nb,<-p];simp
 rw[ep];refine#[.ref _,_,z.laid (t':=j.toks) (o:=.lst (uU t l u k)) (λb Y q=>pC _ q) (lj _) ?_,rfl,q _ (z.hok.fresh (lj _))];exact#[y,_,0,qF r _,Nh _ rfl]
theorem EH {st:Option Int}(h:Sa (Oq d hi st xs.length).1 (Oq d hi st xs.length).2.1 (Oq d hi st xs.length).2.2=e):uU xs d hi st=e.filterMap (xs[·]?):=by
 unfold uU;rw[h]
noncomputable def EI:Expr->Option Str
 |.Constant (.str x) _ _=>some x
 |_=>none
noncomputable def strsOf:List Expr->Option (List Str)
 | []=>some []
 |e::r=>(EI e).bind λx=>(strsOf r).map (x::·)
def Cp(xs:List Str):TA:=λ_ H Q=>Q (xs.map V.str) H
theorem EJ (h:EI e=some x):∃j p,e=.Constant (.str x) j p:=by
 unfold EI at h
 split at h
 .cases h;exact#[_,_,rfl]
 .cases h
theorem zN :∀{xs:List Str},strsOf d=some xs->PA X d (Cp xs):=by
 induction d with
 |nil=>intro xs h;cases h;exact aA
 |cons e r ih =>
  intro xs h;unfold strsOf at h
  cases h1:EI e with
  |none=>rw[h1]at h;cases h
  |some x =>
   cases h2:strsOf r with
   |none=>rw[h1,h2]at h;cases h
   |some ys =>
    rw[h1,h2]at h
    cases h
    have(j,p,rfl):=EJ h1;exact bJ aG (ih h2) rfl
end L2
namespace L2
open PySem PySem.Spec PyProof.Rows PySem.SeqAt
theorem xG :∀{bs:List Bool}{us:List eF},Vals (bs.map V.bl) us->us=bs.map Value.bool
 | [],us,r=>by cases r;rfl
 |d::ds,us,r=>by
  cases r with
  |cons a b =>
   have z:=xG b;subst z;exact congrArg (·::_) a
mutual
def Rp(K:bN)(H:Hp):T->V->Prop
 |.s x,v=>v=.str x
 |.i n,v=>v=.int n
 |.n,v=>v=.eN
 |.t xs,v=>∃a d,v=.ref a/\cP K H a d/\bO K H xs d
def bO(K:bN)(H:Hp):List T->List V->Prop
 | [],vs=>vs=[]
 |x::r,vs=>∃v q,vs=v::q/\Rp K H x v/\bO K H r q
end
noncomputable def Kt(H e:Hp):Prop:=∀a d,Rd H a (.tup d)->Rd e a (.tup d)
theorem Kt.refl :Kt H H:=λ_ _ h=>h
theorem Kt.trans (a:Kt H g)(b:Kt g e):Kt H e:=λc d h=>b c d (a c d h)
theorem Kt.same (s:aT H d):Kt H d:=λa g h=>h.elim (λe=>.inl (s _ _ e)) λ⟨o,e⟩=>.inr #[o,s _ _ e]
theorem Kt.new {H:Hp}{p:Addr}(h:H p=none)(o:HO):Kt H (upd H p o):=λa d r=>r.elim (λe=>.inl (by rw[au (ay e h)];exact e)) λ⟨u,e⟩=>.inr #[u,by rw[au (ay e h)];exact e]
theorem Kt.upd {H:Hp}{l:Addr}{u:HO}(h:H l=some u)(g:∀xs,u≠.tup xs)(d:∀o xs,u≠.nC o (.tup xs))(o:HO):Kt H (upd H l o):=λa xs r=>by
 rcases r with e|⟨p,e⟩
 .exact .inl (by rw[au (jr e h λz=>g _ z.symm)];exact e)
 .exact .inr #[p,by rw[au (jr e h λz=>d _ _ z.symm)];exact e]
theorem Kt.lst (h:H l=some (.lst xs))(o:HO):Kt H (L2.upd H l o):=Kt.upd h (λ_ z=>nomatch z) (λ_ _ z=>nomatch z) o
theorem cP.kt {K:bN}(k:Kt H H')(h:cP K H a xs):cP K H' a xs:=h.elim (λe=>.inl (k _ _ e)) .inr
theorem bO.all {K:bN}(f:∀{x v},Rp K H x v->Rp K H' x v):∀{xs:List T}{vs:List V},bO K H xs vs->bO K H' xs vs
 | [],vs,h=>by unfold bO at h|-;exact h
 |x::r,vs,h=>by
  unfold bO at h|-;have(v,q,e,g,d):=h;exact#[v,q,e,f g,bO.all f d]
theorem bO.nil {K:bN}:bO K H [] []:=by unfold bO;rfl
theorem bO.cons {K:bN}{H:Hp}{x:T}{v:V}{r:List T}{q:List V}(h:Rp K H x v)(t:bO K H r q):bO K H (x::r) (v::q):=by unfold bO;exact#[v,q,rfl,h,t]
theorem bO.inv {K:bN}(h:bO K H (x::r) vs):∃v q,vs=v::q/\Rp K H x v/\bO K H r q:=by unfold bO at h;exact h
theorem bO.ji {K:bN}(h:bO K H [] vs):vs=[]:=by unfold bO at h;exact h
theorem Rp.s {K:bN}:Rp K H (.s x) (.str x):=by unfold Rp;rfl
theorem Rp.i {K:bN}:Rp K H (.i n) (.int n):=by unfold Rp;rfl
theorem Rp.eN {K:bN}:Rp K H .n .eN:=by unfold Rp;rfl
theorem Rp.t {K:bN}(h:cP K H a vs)(r:bO K H xs vs):Rp K H (.t xs) (.ref a):=by unfold Rp;exact#[a,vs,rfl,h,r]
theorem Rp.aM {K:bN}(h:Rp K H (.s x) v):v=.str x:=by unfold Rp at h;exact h
theorem Rp.jH {K:bN}(h:Rp K H (.i n) v):v=.int n:=by unfold Rp at h;exact h
theorem Rp.aS {K:bN}(h:Rp K H (.t xs) v):∃a vs,v=.ref a/\cP K H a vs/\bO K H xs vs:=by unfold Rp at h;exact h
theorem Rp.kt {K:bN}(k:Kt H H'):∀{v:V},Rp K H x v->Rp K H' x v:=by
 induction x using T.induct with
 |hs x=>intro v h;rw[h.aM];exact .s
 |hi x=>intro v h;rw[h.jH];exact .i
 |hn=>intro v h;unfold Rp at h;rw[h];exact .eN
 |ht xs ih =>
  intro v h;have(a,d,rfl,hs,hr):=h.aS;refine .t (hs.kt k) ?_;clear hs h
  induction xs generalizing d with
  |nil=>rw[hr.ji];exact .nil
  |cons x r ih2 =>
   have(v,q,rfl,j,g):=hr.inv;exact .cons (ih x (.head _) j) (ih2 (λy e=>ih y (.tail _ e)) _ g)
theorem bO.kt {K:bN}(k:Kt H H')(h:bO K H xs vs):bO K H' xs vs:=bO.all (λh=>h.kt k) h
theorem bO.length {K:bN}:∀{xs:List T}{vs:List V},bO K H xs vs->vs.length=xs.length
 | [],vs,h=>by rw[h.ji];rfl
 |x::r,vs,h=>by
  have(v,q,rfl,_,d):=h.inv;rw[Nv,Nv,bO.length d]
theorem bO.get {K:bN}:∀{xs:List T}{vs:List V}{i:Nat}{x:T},bO K H xs vs->xs[i]?=some x->∃v,vs[i]?=some v/\Rp K H x v
 | [],vs,i,x,h,e=>by simp at e
 |x::r,vs,0,y,h,e=>by
  have(v,q,rfl,l,_):=h.inv;simp at e;subst e;exact#[v,rfl,l]
 |x::r,vs,i+1,y,h,e=>by
  have(v,q,rfl,_,j):=h.inv;have(w,g,d):=bO.get (i:=i) j (by simpa using e);exact#[w,by simpa using g,d]
theorem bO.get' {K:bN}:∀{xs:List T}{vs:List V}{i:Nat}{v:V},bO K H xs vs->vs[i]?=some v->∃x,xs[i]?=some x/\Rp K H x v:=λ{xs vs i v} h e=>by
 have l:=h.length
 have d:i<xs.length:=by
  rcases Nat.lt_or_ge i vs.length with z|z
  .omega
  .rw[Qx.mpr z]at e;cases e
 have(w,g,j):=h.get (my d);rw[e]at g;cases g;exact#[_,my d,j]
theorem bO.append {K:bN}:∀{xs ys:List T}{vs d:List V},bO K H xs vs->bO K H ys d->bO K H (xs++ys) (vs++d)
 | [],ys,vs,d,h,g=>by rw[h.ji];exact g
 |x::r,ys,vs,d,h,g=>by
  have(v,q,rfl,j,e):=h.inv;exact .cons j (bO.append e g)
theorem bO.one {K:bN}(h:Rp K H x v):bO K H [x] [v]:=.cons h .nil
theorem bO.snoc {K:bN}(h:bO K H xs vs)(g:Rp K H x v):bO K H (xs++[x]) (vs++[v]):=h.append (.one g)
theorem bO.drop {K:bN}:∀{xs:List T}{vs:List V}(n:Nat),bO K H xs vs->bO K H (xs.drop n) (vs.drop n)
 |xs,vs,0,h=>h
 | [],vs,n+1,h=>by rw[h.ji];exact .nil
 |x::r,vs,n+1,h=>by
  have(v,q,rfl,_,d):=h.inv;exact bO.drop n d
theorem bO.take {K:bN}:∀{xs:List T}{vs:List V}(n:Nat),bO K H xs vs->bO K H (xs.take n) (vs.take n)
 |xs,vs,0,h=>.nil
 | [],vs,n+1,h=>by rw[h.ji];exact .nil
 |x::r,vs,n+1,h=>by
  have(v,q,rfl,e,d):=h.inv;exact .cons e (bO.take n d)
theorem bO.split {K:bN}:∀{xs ys:List T}{vs:List V},bO K H (xs++ys) vs->∃d us,vs=d++us/\bO K H xs d/\bO K H ys us
 | [],ys,vs,h=>#[[],vs,rfl,.nil,h]
 |x::r,ys,vs,h=>by
  have(v,q,rfl,l,j):=bO.inv h;have(d,us,rfl,g,e):=bO.split j;exact#[v::d,us,rfl,.cons l g,e]
theorem bO.reverse {K:bN}:∀{xs:List T}{vs:List V},bO K H xs vs->bO K H xs.reverse vs.reverse
 | [],vs,h=>by rw[h.ji];exact .nil
 |x::r,vs,h=>by
  have(v,q,rfl,e,d):=h.inv;rw[PY,PY];exact(bO.reverse d).snoc e
theorem bO.strs {K:bN}:∀(xs:List Str),bO K H (xs.map .s) (xs.map .str)
 | []=>.nil
 |_::r=>.cons .s (bO.strs r)
theorem bO.pY {K:bN}:∀{xs:List Str}{vs:List V},bO K H (xs.map .s) vs->vs=xs.map .str
 | [],vs,h=>h.ji
 |x::r,vs,h=>by
  have(v,q,rfl,e,d):=bO.inv h;rw[e.aM,bO.pY d];rfl
theorem Rp.inj {s:fy}(I:Inv X pins σ H s)(a:T):∀(b:T) {v:V},Rp X.K H a v->Rp X.K H b v->a=b:=by
 induction a using T.induct with
 |hs x =>
  intro b v h g;rw[h.aM]at g
  cases b with
  |s y=>have z:=g.aM;injection z with z;rw[z]
  |i y=>have z:=g.jH;cases z
  |n=>unfold Rp at g;cases g
  |t ys=>have(_,_,z,_):=g.aS;cases z
 |hi x =>
  intro b v h g;rw[h.jH]at g
  cases b with
  |s y=>have z:=g.aM;cases z
  |i y=>have z:=g.jH;injection z with z;rw[z]
  |n=>unfold Rp at g;cases g
  |t ys=>have(_,_,z,_):=g.aS;cases z
 |hn =>
  intro b v h g;unfold Rp at h;rw[h]at g
  cases b with
  |s y=>have z:=g.aM;cases z
  |i y=>have z:=g.jH;cases z
  |n=>rfl
  |t ys=>have(_,_,z,_):=g.aS;cases z
 |ht xs ih =>
  intro b v h g;have(p,o,rfl,hs,hr):=h.aS
  cases b with
  |t ys =>
   have(L,G,e,j,d):=g.aS
   cases e
   have e:=I.qB hs j;subst e
   congr 1
   clear hs j h g
   induction xs generalizing ys o with
   |nil =>
    have z:=hr.ji;subst z
    cases ys with
    |nil=>rfl
    |cons y q=>have(_,_,z,_):=d.inv;cases z
   |cons x r ih2 =>
    have(v,q,rfl,D,C):=hr.inv
    cases ys with
    |nil=>cases d.ji
    |cons y q' =>
     have(J,u,e,m,l):=d.inv
     cases e
     rw[ih x (.head _) y D m,ih2 (λz B=>ih z (.tail _ B)) _ C _ l]
  |_=>unfold Rp at g;cases g
theorem gJ (p:UT h a d):h.IsTuple a d:=p
theorem uV (r:Vals us d)(e:us[j]?=some v){h:j<d.toArray.size}:RelV v d.toArray[j]:=by
 have(u,l,g):=r.get e
 have z:d.toArray[j]=u:=by
  have q:d[j]?=some d.toArray[j]:=by
   rw[my (by simpa using h)];simp
  rw[l]at q;exact(Nk q).symm
 rw[z];exact g
noncomputable def zO(s:fy)(K:bN)(H:Hp)(x:T):Prop:=∀(b:T) {u v:V}{e d:eF}(A:Nx),A.units+x.dep<Ri->Rp K H x u->Rp K H b v->RelV u e->RelV v d->EqAt A s e d (x.eqB b)
theorem uW {X:Cx}(t:∀x∈xs,zO s X.K H x)(z:A.units+T.mX xs<Ri)(hr:bO X.K H xs us)(e:bO X.K H ys l)(r:Vals us d)(o:Vals l its')(j:Nat)(h1:j<d.toArray.size)(h2:j<its'.toArray.size):EqAt A s d.toArray[j] its'.toArray[j] (T.eqB (xs.getD j .n) (ys.getD j .n)):=by
 have l1:us.length=d.length:=r.length;have l2:l.length=its'.length:=o.length;have l3:=hr.length;have I:=e.length;have C:j<d.length:=by simpa using h1
 have B:j<its'.length:=by simpa using h2
 have g:j<xs.length:=()
 have p:j<ys.length:=()
 have(v,y,q):=hr.get (my g);have(w,u,m):=e.get (my p);have G:xs.getD j .n=xs[j]:=by simp[g]
 have D:ys.getD j .n=ys[j]:=by simp[p]
 rw[G,D];exact t _ (NT g) _ A (R9 (TY (T.Ci (NT g)) _) z) q m (uV r y) (uV o u)
theorem A1 (I:Inv X pins σ H s)(y:∀x∈xs,zO s X.K H x)(B:A.units+1+T.mX xs<Ri)(hs:cP X.K H p us)(hr:bO X.K H xs us)(t:cP X.K H q m)(l:bO X.K H ys m):
  RcAt A s (.ref p) (.ref q) (T.pU xs ys):=by
 have(g,r,v,_):=I.tuple hs;have(d,u,o,_):=I.tuple t;have z:=RcAt.tuples (A:=A) (gJ v) (gJ o) () (e:=λj=>T.eqB (xs.getD j .n) (ys.getD j .n)) (uW (A:=A.in1) y (by show A.units+1+_<_;exact B) hr l r u);have l1:us.length=g.length:=r.length;have l2:m.length=d.length:=u.length;have l3:=hr.length;have G:=l.length;rw[T.oR];have D:g.toArray.size=xs.length:=by simp;omega
 have C:d.toArray.size=ys.length:=by simp;omega
 rw[D,C]at z;exact z
theorem Cq (I:Inv X pins σ H s)(N:∀x∈xs,zO s X.K H x)(O:A.units+1+T.mX xs<Ri)(hs:bQ X.K H p us)(hr:bO X.K H xs us)(D:bQ X.K H q B)(t:bO X.K H ys B):
  RcAt A s (.ref p) (.ref q) (T.pU xs ys)/\RcNeAt A s (.ref p) (.ref q) (!T.pU xs ys):=by
 have(m,r,M,_):=I.list hs;have(g,J,C,_):=I.list D;have z:s.heap.IsList p m.toArray:=by obtain⟨o,n,e,c,-,d⟩:=M;exact#[o,e,c,n,d]
 have y:s.heap.IsList q g.toArray:=by obtain⟨o,n,e,c,-,d⟩:=C;exact#[o,e,c,n,d]
 have l1:us.length=m.length:=r.length;have l2:B.length=g.length:=J.length;have l3:=hr.length;have Q:=t.length;have G:m.toArray.size=xs.length:=by simp;omega
 have L:g.toArray.size=ys.length:=by simp;omega
 have l:=uW (A:=A.in1) N (by show A.units+1+_<_;exact O) hr t r J;rw[T.oR]
 by_cases e:xs.length=ys.length
 .have v:=RcAt.lists (A:=A) z y () () (e:=λj=>T.eqB (xs.getD j .n) (ys.getD j .n)) l;have u:=RcNeAt.lists (A:=A) z y () () (e:=λj=>T.eqB (xs.getD j .n) (ys.getD j .n)) l;rw[G]at v u;rw[show min xs.length ys.length=xs.length by omega,show(xs.length == ys.length)=true by simpa using e,Bool.and_true];exact#[v,u]
 .have v:=RcAt.lists_lengths (A:=A) z y (by rw[G,L];simpa using e) ();have u:=RcNeAt.lists_lengths (A:=A) z y (by rw[G,L];simpa using e) ();rw[show(xs.length == ys.length)=false by simpa using e,Tt];exact#[v,u]
theorem Lw (I:Inv X pins σ H s)(a:T):zO s X.K H a:=by
 induction a using T.induct with
 |hs x =>
  intro b u v D C A r h g j d;rw[h.aM]at j;have(t,rfl):=j
  cases b with
  |s y=>rw[g.aM]at d;have(m,rfl):=d;unfold T.eqB;exact EqAt.str_str _ _ _ _
  |i y=>rw[g.jH]at d;have(m,rfl):=d;unfold T.eqB;exact EqAt.str_int _ _ _ _
  |n=>unfold Rp at g;rw[g]at d;cases d;unfold T.eqB;exact EqAt.str_none _ _
  |t ys =>
   have(q,B,rfl,hs,hr):=g.aS
   cases d
   have(o,_,l,_):=I.tuple hs;unfold T.eqB;exact EqAt.str_tuple _ _ (gJ l) ()
 |hi x =>
  intro b u v D C A r h g j d;rw[h.jH]at j;have(t,rfl):=j
  cases b with
  |s y=>rw[g.aM]at d;have(m,rfl):=d;unfold T.eqB;exact EqAt.int_str _ _ _ _
  |i y=>rw[g.jH]at d;have(m,rfl):=d;unfold T.eqB;exact EqAt.int_int _ _ _ _
  |n=>unfold Rp at g;rw[g]at d;cases d;unfold T.eqB;exact EqAt.int_none _ _
  |t ys =>
   have(q,B,rfl,hs,hr):=g.aS
   cases d
   have(o,_,l,_):=I.tuple hs;unfold T.eqB;exact EqAt.int_tuple _ _ (gJ l) ()
 |hn =>
  intro b u v D C A r h g j d;unfold Rp at h;rw[h]at j
  cases j
  cases b with
  |s y=>rw[g.aM]at d;have(m,rfl):=d;unfold T.eqB;exact EqAt.none_str _ _
  |i y=>rw[g.jH]at d;have(m,rfl):=d;unfold T.eqB;exact EqAt.none_int _ _
  |n=>unfold Rp at g;rw[g]at d;cases d;unfold T.eqB;exact EqAt.same _
  |t ys =>
   have(q,B,rfl,hs,hr):=g.aS
   cases d
   have(o,_,l,_):=I.tuple hs;unfold T.eqB;exact EqAt.none_tuple (gJ l) ()
 |ht xs ih =>
  intro b u v D C A r h g j d;have(p,M,rfl,hs,hr):=h.aS
  cases j
  have(o,L,l,_):=I.tuple hs
  cases b with
  |s y=>rw[g.aM]at d;have(m,rfl):=d;unfold T.eqB;exact EqAt.tuple_str _ _ (gJ l) ()
  |i y=>rw[g.jH]at d;have(m,rfl):=d;unfold T.eqB;exact EqAt.tuple_int _ _ (gJ l) ()
  |n=>unfold Rp at g;rw[g]at d;cases d;unfold T.eqB;exact EqAt.tuple_none (gJ l) ()
  |t ys =>
   have(q,B,rfl,G,J):=g.aS
   cases d
   by_cases e:p=q
   .subst e;have z:=Rp.inj I _ _ h g;rw[z,T.Cj];exact EqAt.same _
   .unfold T.dep at r;unfold T.eqB;exact EqAt.of_refs e (A1 I ih () hs hr G J)
noncomputable def Lx(K:bN):R2:=λx y H Q=>∃p q d e j g,x=.ref p/\y=.ref q/\bQ K H p j/\bO K H d j/\bQ K H q g/\bO K H e g/\T.mX d<=149/\Q (.bl (!decide (d=e))) H
theorem Ib (B:X.A.units+150<Ri):mG X (OB .NotEq) (Lx X.K):=by
 intro pins s σ H x y v u Q I e d h;have(p,q,r,o,z,t,rfl,rfl,m,l,j,g,hd,k):=h;obtain rfl:v=Value.ref p:=e;obtain rfl:u=Value.ref q:=d;rw[<-T.Ck]at k;exact(Cq I (A:=X.A) (λx _=>Lw I x) () m l j g).2 X.prog X.w X.xe _ #[.bl _,H,I,rfl,k]
theorem di.Cr (r:di k A):A.units+150<Ri:=by have:=r.un;omega
end L2
namespace L2
open PySem PySem.Spec PyProof.Rows
theorem LX {A:Prop}(e:b=true)(h:A):if b=true then A else B:=by rw[if_pos e];exact h
theorem Cs {A:Prop}(e:b=false)(h:B):if b=true then A else B:=by rw[if_neg (by rw[e];exact Nq)];exact h
theorem zP {pos:Pos}{d:List Expr}{k:Nat}{t:Ei}{n:Nat}(K:bN)(j:X.K=K)(g:X.calm=true)(h:JA X d t)(hn:(QI d X.env).length=n:=by rfl)(e:(QI d X.env).findIdx? (·.1)=none:=by rfl):PG X (.Tuple d k pos) (Ej K n t):=by
 subst j;exact Ht g h hn e
theorem vS (K:bN)(d:X.K=K):B9 X (Et K):=by subst d;exact aP
theorem Ct (K:bN)(d:X.K=K):B9 X (HQ K):=by subst d;exact bx
theorem Cu (K:bN)(d:X.K=K):BS X (JR K):=by subst d;exact rM
theorem EK (K:bN)(d:X.K=K):BS X (JN K):=by subst d;exact vJ
theorem sR (K:bN)(d:X.K=K):mG X (OB .In) (Ln K false):=by subst d;exact gq
theorem oG (K:bN)(d:X.K=K):iQ X (.builtin "len") (λxs H Q=>∃p ys,xs=[.ref p]/\(bQ K H p ys\/cP K H p ys)/\Q (.int ys.length) H):=by subst d;exact aJ
def GL(w:Nn):List PL->List (Str×V)->Prop
 | [],kvs=>kvs=[]
 |e::r,kvs=>∃x v q,kvs=(x,v)::q/\(∃t,e.key=.str x t)/\e.hash=hashStr w x/\RelV v e.val/\GL w r q
def KD(K:bN)(w:Nn)(d:Addr)(kvs:List (Str×V)):Prop :=
 ∃(e:Array PL) (n:Nat),K.lookup d=some {cls:=.type "dict",dict:=none,data:=.dict e n,slots:=#[]}/\GL w e.toList kvs/\(kvs.map (·.1)).Nodup/\(d == OV)=false
theorem GL.keys :∀{g:List PL}{kvs:List (Str×V)},GL w g kvs->∃vs:List (Str×eF),Pairs (Pn P w) g vs/\(∀e∈g,∃k,(Pn P w).is k e.key=true/\e.hash=(Pn P w).hash k)/\vs.map (·.1)=kvs.map (·.1) /\
  ∀k,lA (kvs.lookup k) (Qu vs k)
 | [],kvs,h=>by
  obtain rfl:kvs=[]:=h;exact#[[],.nil,(λ_ h=>nomatch h),rfl,λ_=>trivial]
 |e::r,kvs,h=>by
  have(x,v,q,rfl,(t,m),o,l,hr):=h;have(vs,B,y,u,p):=GL.keys (P:=P) hr;have j:(Pn P w).is x e.key=true:=by rw[m];exact(by simp[Pn,Sv]:(Pn P w).is x (.str x t)=true)
  refine#[(x,e.val)::vs,.cons j rfl B,λD d=>?_,by rw[Ny,Ny,u],λk=>?_]
  .cases d with
   |head=>exact#[x,j,o]
   |tail _ d=>exact y D d
  .rw[NP]
   by_cases c:k=x
   .subst c;rw[beq_self_eq_true];simp only[Qu,Oe,decide_true,RK];exact l
   .rw[beq_false_of_ne c];have z:=p k
    have C:Qu ((x,e.val)::vs) k=Qu vs k:=by
     simp only[Qu,Oe];rw[decide_eq_false (λq=>c q.symm)]
    rw[C];exact z
theorem KD.dict {K:bN}(D:KD K w d kvs)(X:K.In h):∃vs,h.DictOf (Pn P w) d vs/\(d == OV)=false/\∀k,lA (kvs.lookup k) (Qu vs k):=by
 have(r,n,e,j,g,hd):=D;have(vs,q,p,o,m):=GL.keys (P:=P) j;exact#[vs,#[_,r,n,X _ _ e,#[rfl,rfl,rfl],rfl,λt l=>p t (by simpa using l),q,by rw[o];exact g],hd,m]
theorem zQ :(Pn P w).is x (.str x t)=true:=by simp[Pn,Sv]
def Ly(K:bN)(w:Nn):R2:=λx y H Q=>∃k d e,x=.str k/\y=.ref d/\KD K w d e/\Q (.bl (e.lookup k).isSome) H
theorem lA.EL (r:lA a b):b.isSome=a.isSome:=by
 cases a<;>cases b<;>first|rfl|exact r.elim
theorem EM :mG X (OB .In) (Ly X.K X.w):=by
 intro g s p H x y v u Q I l j h;have(k,d,m,rfl,rfl,D,q):=h;have(t,rfl):=l;obtain rfl:u=Value.ref d:=j;have(r,o,hd,e):=D.dict (P:=X.prog) I.rY;refine wpAny_in_of zQ hd o.mapOf ?_;rw[(e k).EL];exact#[.bl _,H,I.tok _,rfl,q]
def JX(K:bN)(w:Nn)(j ty:TE):TE:=λg H Q=>j g H λx m=>ty g m λy l=>∃d e k v,x=.ref d/\y=.str k/\KD K w d e/\e.lookup k=some v/\Q v l
theorem zR (N:PE X o m)(hi:PE X i ty)(hs:HY i):PE X (.Subscript o i pos) (JX X.K X.w m ty):=by
 intro e s l H Q I h;refine zM Sh.lookup hs (cR (N e s l H _ I h) λu z ⟨x,T,R,C,q1⟩=>cR (hi e z l T _ R q1) λW V ⟨y,S,q,B,d,L,k,v,ex,O,D,J,G⟩=>?_);subst ex O;obtain rfl:u=Value.ref d:=C;have(t,rfl):=B;have(r,p,hd,j):=D.dict (P:=X.prog) q.rY;have(U,M,g):=lA.some_of (v:=v) (o:=Qu r k) (by rw[<-J];exact j k);exact#[p.typeIs,wpAny_getItem_of zQ p.mapOf M #[v,S,q.tok _,g,G]]
theorem yX :mG X (PX .Mult) (λx y H Q=>∃z n,x=.str z/\y=.int n/\-1000000<=n/\n<=1000000/\z.length*n.toNat<=mH/\Q (.str (Ss z n)) H):=by
 intro d s p H x y v u Q I m l h;have(z,n,rfl,rfl,D,C,g,q):=h;have(t,rfl):=m;have(j,rfl):=l;refine PySem.SB.mul #[by simp;omega,λa b=>?_,λa b=>?_] λj k=>#[.str _,H,I.tok _,#[_,rfl],q]
 .intro c;have r:1<=n:=()
  have o:z.length*n.toNat<=16777216:=by rw[<-Qo];exact g
  have B:z.length<=z.length*n.toNat:=Nat.le_mul_of_pos_right _ ();have e:(9223372036854:Int)<=(2 ^ 63-1) / n:=Int.le_ediv_of_mul_le () ();omega
 .unfold QZ.Str.tooLong;simp;exact g
theorem gb {K:bN}(j:Nat->St->List V->Hp->Prop)(r:j 0 σ0 [] H0)(l:∀i d vs H,i<=xs.length->j i d vs H->vs.length<=i)(hn:xs.length<=mH)(o:∀i d vs H,i<=xs.length->j i d vs H->cP K H a xs)(hs:∀i x d vs H,xs[i]?=some x->j i d vs H->g x d H λe u=>tt e u λok q=>if ok=true then te e q λv t=>j (i+1) e (vs++[v]) t else j (i+1) e vs q)(hd:∀d vs H,j xs.length d vs H->∀p,H p=none->Q (.ref p) (upd H p (.lst vs))):mw (zE K a) g tt te Q σ0 H0:=by
 refine vQ xs.length j r l hn (λi d vs H m p=>#[xs,xs[i],o i d vs H (Ot m) p,by simp[m]]) (λd vs H p=>#[xs,o _ d vs H (lj _) p,lj _]) (λi d vs H x z m p y=>?_) hd;have(rfl,y):=y;exact hs i x d vs _ (y xs (o i d vs _ (Ot m) p)) p
mutual
noncomputable def T.py:T->PyData
 |.s x=>.str x
 |.i k=>.int k
 |.n=>.none
 |.t xs=>.tuple (T.EN xs)
noncomputable def T.EN:List T->List PyData
 | []=>[]
 |x::r=>x.py::T.EN r
end
theorem sS {X:Cx}{s:fy}:∀{xs:List T},(∀x∈xs,∀{v:V}{u:eF},Rp X.K H x v->RelV v u->∃as,Reads s.heap u x.py as)->∀{vs:List V}{us:List eF},bO X.K H xs vs->Vals vs us->∃as,ReadsAll s.heap us (T.EN xs) as
 | [],_,vs,us,h,r=>by
  obtain rfl:=h.ji
  cases r
  exact#[[],.nil]
 |x::q,ih,vs,us,h,r=>by
  have(v,w,rfl,l,j):=h.inv
  cases r with
  |cons r1 r2 =>
   have(as,g):=ih x (.head _) l r1;have(bs,e):=sS (λy d=>ih y (.tail _ d)) j r2;exact#[as++bs,.cons g e]
theorem EO (I:Inv X pins σ H s)(a:T):∀{v:V}{u:eF},Rp X.K H a v->RelV v u->∃as,Reads s.heap u a.py as:=by
 induction a using T.induct with
 |hs x=>intro v u h r;rw[h.aM]at r;have(t,rfl):=r;unfold T.py;exact#[[],.str x t]
 |hi x=>intro v u h r;rw[h.jH]at r;have(t,rfl):=r;unfold T.py;exact#[[],.int x t]
 |hn=>intro v u h r;unfold Rp at h;rw[h]at r;cases r;unfold T.py;exact#[[],.none]
 |ht xs ih =>
  intro v u h r;have(p,m,rfl,hs,hr):=h.aS
  cases r
  have(j,g,(o,e,c,n,d),_):=I.tuple hs;have(as,l):=sS (s:=s) ih hr g;unfold T.py;exact#[as,.tuple e c d (by simpa using l)]
structure GN(d:PyData):Prop where
 sh:d.showable=true
 nd:d.hasDict=false
 dp:d.depth<=100
 sz:d.shown.length<=mH
theorem yY (B:X.A.guards=some [])(J:X.A.units+150<Ri):iQ X (.builtin "repr") (λxs H Q=>∃p g vs,xs=[.ref p]/\bQ X.K H p vs/\bO X.K H g vs/\GN (.list (T.EN g))/\Q (.str (PyData.list (T.EN g)).shown) H):=by
 intro pins s σ H xs D Q I r h;have(p,g,vs,rfl,v,hr,S,q):=h;have(u,rfl,l):=vals1 r
 cases l
 have(t,j,m,_):=I.list v;have(o,e,c,n,d):=m.isList;have(M,C):=sS (s:=s) (λx _=>EO I x) hr j;refine repr_of_reads' (.list e c d (by simpa using C)) S.sh (λz=>by rw[S.nd]at z;cases z) B (by have:=S.dp;omega) (λ_ _ e=>e) (λL u G y=>?_) S.sz;exact#[.str _,H,I.kept y,#[_,rfl],q]
theorem atS {z:Str}(j:0<=r)(h:r<(z.length:Int)):∃c,eK z.cps.toList r=some c/\c∈z.cps.toList:=by
 have e:z.cps.toList.length=z.length:=by simp[S4]
 have d:r.toNat<z.cps.toList.length:=by rw[e];omega
 have g:r=((r.toNat:Nat):Int):=()
 have q:eK z.cps.toList ((r.toNat:Nat):Int)=some z.cps.toList[r.toNat]:=aH (my d);rw[<-g]at q;exact#[_,q,NT d]
theorem ER (d:List Nat):Txt.join "" (d.map λc=>(⟨#[c]⟩:Str))=⟨d.toArray⟩:=by
 show QZ.Str.glued (Oi "") _=_;rw[StrLaws.glued_eq_join];exact PyProof.Rows.join_ones d
theorem Cv (l:List Nat):((l.map λc=>(⟨#[c]⟩:Str)).map (·.length)).sum=l.length:=by
 induction l with
 |nil=>rfl
 |cons c r ih=>rw[Ny,Ny,List.sum_cons,ih,Nv];show 1+_=_;omega
theorem Ic (d:List Nat):(⟨d.toArray⟩:Str).length=d.length:=by simp[S4]
theorem JY (b:Bool)(z:Str):(Ss z (if b then 1 else 0)).length<=z.length:=by
 cases b with
 |true=>simp[Ss]
 |false=>simp[Ss,S4,Nt]
end L2
namespace L2
open PySem
def cM(H:Hp)(f:Addr):Prop:=∃p q:Int,H f=some (.lst [.int p,.int q])
def Ext(f:Addr)(H d:Hp):Prop:=(∀b o,b≠f->H b=some o->d b=some o)/\cM d f
theorem Ext.refl (h:cM H f):Ext f H H:=#[λ_ _ _ e=>e,h]
theorem Ext.trans (a:Ext f H g)(b:Ext f g d):Ext f H d:=#[λc o n e=>b.1 c o n (a.1 c o n e),b.2]
theorem Ext.same (a:Ext f H g)(s:aT g d):Ext f H d:=#[λc o n e=>s c o (a.1 c o n e),let⟨p,q,e⟩:=a.2;#[p,q,s f _ e]]
theorem ae (h:H p=none)(o:HO):aT H (upd H p o):=λb u q=>by rw[au (ay q h)];exact q
theorem cM.same (h:cM H f)(s:aT H d):cM d f:=let⟨p,q,e⟩:=h;#[p,q,s f _ e]
theorem Ext.tup (e:Ext f H g)(d:cM H f)(h:H a=some (.tup xs)):g a=some (.tup xs):=by
 refine e.1 a _ ?_ h;have(p,q,d):=d;exact jr h d (by intro z;cases z)
def cC:Sp:=λe H Q _=>∃(f:Addr) (m:Int),e=[.ref f,.int m]/\0<m/\m<1073741824/\cM H f/\∀(r:Int) (d:Hp),0<=r->r<m->Ext f H d->Q (.int r) d
def Cw(K:bN):Sp:=λg H Q _=>∃(a:Addr) (e:List Int) (k:Int),g=[.ref a,.int k]/\bQ K H a (e.map V.int)/\e.length<=63/\0<=k/\k<=100 /\
 ∀(r:Addr) (d:Hp),aT H d->H r=none->cM d r->Q (.ref r) d
theorem small (h:n<=1000):n<=mH:=Ot (br h)
theorem zS {ns:List Int}(g:0<=k)(h:k<(ns.length:Int)):∃v:Int,eK (ns.map V.int) k=some (.int v):=by
 have d:k.toNat<ns.length:=()
 have e:k=((k.toNat:Nat):Int):=()
 have q:eK (ns.map V.int) ((k.toNat:Nat):Int)=some (.int ns[k.toNat]):=aH (by rw[xn,my d]<;>rfl)
 rw[<-e]at q;exact#[_,q]
theorem oV {xs:List d}(j:0<=k)(h:k<(xs.length:Int)):∃v:d,eK xs k=some v/\v∈xs:=by
 have e:k.toNat<xs.length:=()
 have g:k=((k.toNat:Nat):Int):=()
 have q:eK xs ((k.toNat:Nat):Int)=some xs[k.toNat]:=aH (my e);rw[<-g]at q;exact#[_,q,NT e]
theorem Ext.kt (e:Ext f H g)(d:cM H f):Kt H g:=λa j r=>by
 have(p,q,d):=d;rcases r with h|⟨o,h⟩
 .exact .inl (e.1 a _ (jr h d (by intro z;cases z)) h)
 .exact .inr #[o,e.1 a _ (jr h d (by intro z;cases z)) h]
theorem Ext.new (e:Ext f H d)(h:d p=none)(o:HO):Ext f H (L2.upd d p o):=e.same (ae h o)
structure eL(P:IF) (w:Nn) (K:bN) (mg:Str->Option eF) (base:Heap) (x:Str) (k:Nat) (ps:List Str) (sp:Sp) (f:Addr) (fd:L1):Prop where
 ok:cA P w K mg base gy k f fd ps sp
 at':mg x=some (.ref f)
 kp:Pd K (.ref f)=true
 bd:Binds K fd ps []
theorem zT {sp:Sp}(h:∀vs H Q E,¬sp vs H Q E):cA P w K mg base gy k f d ps sp :=
 #[λvs H Q E z=>(h vs H Q E z).elim,λ_ _ _ _ _ _ _ _ _ _ _ _ _ z=>(h _ _ _ _ z).elim]
end L2
namespace L2
open PySem PySem.Spec PyProof.Rows
noncomputable def sU(p:List Str×Tm):T:=.t [.t (p.1.map .s),enc p.2]
noncomputable def right(d:Tm):List (List Str×Tm):=(bnd d.hd d.ks.length).zip d.ks
theorem cP.same {K:bN}(e:aT H d)(h:cP K H a xs):cP K d a xs:=h.kt (Kt.same e)
theorem Rp.same {K:bN}(e:aT H d)(h:Rp K H x v):Rp K d x v:=h.kt (Kt.same e)
theorem bO.same {K:bN}(e:aT H d)(h:bO K H x v):bO K d x v:=h.kt (Kt.same e)
theorem Rp.new {K:bN}(d:H p=none)(h:bO K H xs vs):Rp K (upd H p (.tup vs)) (.t xs) (.ref p):=.t (.of af) (h.same (ae d _))
theorem xH {K:bN}{ps:List Nat}{ks:List T}(S:cP K H0 a vs)(hr:bO K H0 D vs)(U:cP K H0 M (ps.map λ(j:Nat)=>V.int (j:Int)))(v:ps.length<=1000)(N:ps.map (λ(j:Nat)=>D[j]?)=ks.map some)(k:∀(p:Addr) (C:Hp) (L:List V),aT H0 C->C p=some (.lst L)->bO K C (ks.map λk=>.t [.t [],k]) L->Q (.ref p) C):
  mw (zE K M) (iF 0) uS (yO (oq (yO xo) (oq (GD (Et K) (mO 1) (mO 0)) xo))) Q [none,some (.ref a)] H0:=by
 refine gb (xs:=ps.map λ(j:Nat)=>V.int (j:Int)) (λi u g m=>(∃x,u=[x,some (.ref a)])/\aT H0 m/\bO K m ((ks.take i).map λk=>.t [.t [],k]) g) #[#[none,rfl],aT.refl _,.nil] ?_ (small (by rw[bM];exact v)) ?_ ?_ ?_
 .rintro i u g m hi ⟨_,_,r⟩;rw[r.length,bM,I0];omega
 .rintro i u g m hi ⟨_,e,_⟩;exact U.same e
 .rintro i x u g m hx ⟨⟨W,rfl⟩,e,r⟩;rw[xn]at hx;have(j,R,rfl):=we.mp hx
  have d:D[j]?=ks[i]?/\i<ks.length:=by
   have z:=congrArg (λl=>l[i]?) N;simp only[xn,R,RK]at z
   cases B:ks[i]? with
   |none=>rw[B]at z;cases z
   |some q=>rw[B]at z;exact#[Nk z,(bH.mp B).1]
  have(d,y):=d;rw[my y]at d;have(w,O,G):=hr.get d;refine#[Nu _,λq I=>?_];have J:=e.trans (ae I (.tup []));refine#[_,rfl,_,rfl,a,_,_,w,rfl,rfl,S.same J,aH O,(by show 2<=mH;decide),λt H=>?_];have B:=J.trans (ae H (.tup [.ref q,w]));refine#[#[_,rfl],B,?_];rw[mu y,i5];refine(r.same (λb o h=>ae H _ b o (ae I _ b o h))).snoc (Rp.new H (.cons ?_ (.one (G.same J))));exact Rp.new I .nil
 .rintro u g m ⟨_,e,r⟩ p hp
  have l:(ps.map λ(j:Nat)=>V.int (j:Int)).length=ks.length:=by
   have z:=congrArg QO N
   simpa using z
  rw[l,Nr]at r;exact k p _ g (e.trans (ae hp _)) af (r.same (ae hp _))
theorem A2 {K:bN}(J:cP K H0 C vs)(hr:bO K H0 ks vs)(G:ks.length<=1000)(k:∀(p:Addr) (m:Hp) (B:List V),aT H0 m->m p=some (.lst B)->bO K m (ks.map λk=>.t [.t [],k]) B->Q (.ref p) m):
  mw (zE K C) (iF 0) uS (yO (oq (yO xo) (oq (mO 0) xo))) Q [none] H0:=by
 have l:=hr.length;refine gb (xs:=vs) (λi j d g=>(∃x,j=[x])/\aT H0 g/\bO K g ((ks.take i).map λk=>.t [.t [],k]) d) #[#[none,rfl],aT.refl _,.nil] ?_ (small ()) ?_ ?_ ?_
 .rintro i j d g hi ⟨_,_,r⟩;rw[r.length,bM,I0];omega
 .rintro i j d g hi ⟨_,e,_⟩;exact J.same e
 .rintro i x j d g hx ⟨⟨N,rfl⟩,e,r⟩;have(y,D,I):=hr.get' hx;have z:i<ks.length:=(bH.mp D).1;have L:ks[i]=y:=(bH.mp D).2;refine#[Nu _,λq v=>?_];have H:=e.trans (ae v (.tup []));refine#[_,rfl,(by show 2<=mH;decide),λt u=>?_];have M:=H.trans (ae u (.tup [.ref q,x]));refine#[#[_,rfl],M,?_];rw[mu z,i5,L];refine(r.same (λb o h=>ae u _ b o (ae v _ b o h))).snoc (Rp.new u (.cons ?_ (.one (I.same H))));exact Rp.new v .nil
 .rintro j d g ⟨_,e,r⟩ p hp;rw[l,Nr]at r;exact k p _ d (e.trans (ae hp _)) af (r.same (ae hp _))
theorem A3 {K:bN}(O:arms.length=ks.length)(R:cP K H0 C vs)(hr:bO K H0 (Oj oS arms ks) vs)(G:ks.length<=1000)(k:∀(p:Addr) (o:Hp) (B:List V),aT H0 o->o p=some (.lst B)->bO K o (Oj (λa k=>.t [.t (a.2.map .s),k]) arms ks) B->Q (.ref p) o):
  mw (zE K C) (Ej K 3 (su (iF 0) (su (iF 1) (su (iF 2) Hs)))) uS (yO (oq (mO 1) (oq (mO 2) xo))) Q [none,none,none] H0:=by
 have l:=hr.length;rw[OD,O,Ra]at l;refine gb (xs:=vs) (λi m g j=>(∃x y z,m=[x,y,z])/\aT H0 j/\bO K j ((Oj (λ(a:Str×List Str) k=>T.t [.t (a.2.map .s),k]) arms ks).take i) g) #[#[none,none,none,rfl],aT.refl _,.nil] ?_ (small ()) ?_ ?_ ?_
 .rintro i m g j H ⟨_,_,r⟩;rw[r.length,I0];omega
 .rintro i m g j H ⟨_,e,_⟩;exact R.same e
 .rintro i x m g j hx ⟨⟨Z,Y,X,rfl⟩,e,r⟩;have(y,D,J):=hr.get' hx;have H:i<vs.length:=(bH.mp hx).1;have v:i<arms.length:=()
  have u:i<ks.length:=()
  have N:i<(Oj (λ(a:Str×List Str) k=>T.t [.t (a.2.map .s),k]) arms ks).length:=by rw[OD];omega
  rw[Rl,my v,my u]at D
  cases D
  have(M,L,rfl,I,d):=(show Rp K H0 (.t [_,_,_]) x from J).aS;have(t1,q1,rfl,h1,d):=d.inv;have(t2,q2,rfl,U,d):=d.inv;have(t3,q3,rfl,S,d):=d.inv;obtain rfl:=d.ji;refine#[M,_,rfl,I.same e,rfl,_,_,rfl,_,_,rfl,_,_,rfl,rfl,?_];refine#[_,rfl,_,rfl,(by show 2<=mH;decide),λt q=>?_];have W:=e.trans (ae q (.tup [t2,t3]));refine#[#[_,_,_,rfl],W,?_];rw[mu N];refine(r.same (ae q _)).snoc ?_;rw[List.getElem_zipWith];exact Rp.new q (.cons (U.same e) (.one (S.same e)))
 .rintro m g j ⟨_,e,r⟩ p hp;rw[Ol (by rw[OD];omega)]at r;exact k p _ g (e.trans (ae hp _)) af (r.same (ae hp _))
theorem mz {d e:Type}(f:d->Option e)(g:d->e):∀(l:List d),(∀a∈l,f a=some (g a))->l.filterMap f=l.map g
 | [],_=>rfl
 |a::r,h=>by rw[O2,h a (.head _),Ny,mz f g r λb j=>h b (.tail _ j)]
theorem A4 {g:Type}(xs:List g):((Pc xs.length).map λk=>xs.length-1-k).filterMap (xs[·]?)=xs.reverse:=by
 cases xs with
 |nil=>rfl
 |cons x r =>
  rw[Uh,mz _ (λk=>(x::r).reverse.getD k x)]
  .apply List.ext_getElem
   .simp
   .intro i l e;simp only[Rt,List.getElem_range];simp at l;simp only[Ou];rw[my e];rfl
  .intro k j;have d:=Py.mp j;show(x::r)[(x::r).length-1-k]?=_;have e:k<(x::r).reverse.length:=by simpa using d
   simp only[Ou];rw[my e,Tw,my ()];rfl
theorem A5 (n:Nat):Sa (Oq none none (some (-1)) n).1 (Oq none none (some (-1)) n).2.1 (Oq none none (some (-1)) n).2.2=(Pc n).map λk=>n-1-k:=by
 show Sa ((n:Int) - 1) (-1) (-1)=_;unfold Sa
 have c:(if(-1:Int)>0 then(if(n:Int) - 1 < -1 then(-1 - ((n:Int) - 1)+-1-1) / -1 else 0)else(if(n:Int) - 1 > -1 then((n:Int) - 1 - -1 - -1-1) / (- -1)else 0))=(n:Int):=by
  rw[if_neg (by decide)]
  split
  .rw[show(- -1:Int)=1 from rfl,Uu];omega
  .omega
 simp only[c,OP];refine List.map_congr_left λk d=>?_;have:=Py.mp d;omega
theorem xJ (xs:List V):uU xs none none (some (-1))=xs.reverse:=by
 rw[EH (A5 xs.length)];exact A4 xs
noncomputable def JZ(d:OG)(y:Str):Bool:=(d.names.lookup y == some .local||d.names.lookup y == some .cell||d.names.lookup y == some .free)&&!(y == ("__debug__":Str))&&!(y == ("__classdict__":Str))
abbrev Nm(N:List Str)(d:OG):Prop:=N.all (JZ d)=true
noncomputable def J0(d:OG)(y:Str):Bool:=d.names.lookup y == some .local||d.names.lookup y == some .cell
abbrev Lm(N:List Str)(d:OG):Prop:=N.all (J0 d)=true
theorem Nm.get (h:Nm N d){i:Nat}(e:N[i]?=some x):Jw d x/\(x == ("__debug__":Str))=false/\(x == ("__classdict__":Str))=false:=by
 have z:=NS.mp h x (Nf e);unfold JZ at z;simp only[NO,Qg,Bool.not_eq_true']at z;have((z1,j),g):=z;refine#[?_,j,g];rcases z1 with(z1|z1)|z1
 .exact Or.inl (Pq z1)
 .exact Or.inr (Or.inl (Pq z1))
 .exact Or.inr (Or.inr (Pq z1))
theorem Lm.get (h:Lm N d){i:Nat}(e:N[i]?=some x):Loc d x:=by
 have z:=NS.mp h x (Nf e);unfold J0 at z;simp only[Qg]at z;rcases z with z|z
 .exact Or.inl (Pq z)
 .exact Or.inr (Pq z)
theorem va (h:Nm X.N X.env.scope)(i:Nat)(d:X.N[i]?=some x:=by rfl):PE X (.Name x pos) (mO i):=BY d (h.get d).1 (h.get d).2.1 (h.get d).2.2
theorem sa {x:Str}{e:Expr}{g:TE}{pos d:Pos}(l:X.N.Nodup)(h:Lm X.N X.env.scope)(i:Nat)(j:PE X e g)(hi:X.N[i]?=some x:=by rfl)(hs:Rq e (some (.Name x d)) pos.line X.env=pure false:=by kernel_rfl)(hf:X.fn x=true\/X.env.scope.names.lookup x=some .local:=by exact .inl rfl):PS X (.Assign [.Name x d] e pos) (vH g (iF i)):=lC l hi (h.get hi) j hs hf
theorem ga (e:X.N.Nodup)(h:Lm X.N X.env.scope)(i:Nat)(hi:X.N[i]?=some x:=by rfl)(d:X.fn x=true\/X.env.scope.names.lookup x=some .local:=by first|exact .inl rfl|exact .inr (by kernel_rfl)):PG X (.Name x pos) (iF i):=lB e hi (h.get hi) d
theorem ES {T:TT}{V:TE}(own:List Str)(fr:List Nat)(hc:X.calm=true)(hkind:scope.kind=.function)(hcell:∀x∈scope.names,x.2≠.cell)(hnames:∀x∈scope.names,x.2=.local->scope.names.lookup x.1=some .local)(hfr:∀x∈scope.names,x.2=.free->X.env.scope.names.lookup x.1=some .cell\/X.env.scope.names.lookup x.1=some .free)(hin:∀j∈fr,scope.names.lookup (X.N.getD j Nt)=some .free)(hi:PI X tg iter S)(hg:∀u C s H,PG (bu X scope (own++fr.map λj=>X.N.getD j Nt) u C s H) tg g)(ht:∀u C s H,sL (bu X scope (own++fr.map λj=>X.N.getD j Nt) u C s H) r T)(he:∀u C s H,PE (bu X scope (own++fr.map λj=>X.N.getD j Nt) u C s H) t V)(hgg:PG X (.Name y d) Z)(hsw:Rq (.ListComp t [#[tg,iter,r,0]] scope pos) (some (.Name y d)) m.line X.env=pure true)(hs:∀x,NQ iter X.env x=pure x:=by intro _;rfl):PS X (.Assign [.Name y d] (.ListComp t [#[tg,iter,r,0]] scope pos) m) (vH (uT own.length fr S g T V) Z):=by
 intro l s J H D0 I h;rw[exec_Assign_Name_used _ _ _ _ hsw,arm_evalThenUse_ListComp];refine cB (OM (cB (cB ?_)));refine cR (xF (U:=some (RX (.Name y d) X.env)) (R:=λ_ s'=>SP X l D0 .next s') own fr hc hkind hcell hnames hfr hin hi hg ht he hs I h λ{u C s2 s4 H2 H3 σ3 vs ys pn pl} I2 f2 J4 hCle hDC dn3 e4 rv hz q=>?_) λ_ _ q=>tF (tF q);have(m4,M,_):=id J4.loc;have(G,es,ep,eC,dC,kC,fC):=M;have I4:Inv X l J (upd H3 s2.heap.objs.size (.lst vs)) s4:=sO (h'':=s4.heap) I2 f2 J4 hCle (lj _) hDC dn3 #[_,e4] rv hz #[rfl,λ_ _=>rfl];have cL:C≠X.env.locals:=λz=>absurd I2.lt (by rw[<-z];exact UZ.mpr hCle)
 have I5:Inv X (l++[(C,G)]) J (upd H3 s2.heap.objs.size (.lst vs)) s4:=I4.fu λp D=>by
  rcases L0.mp D with z|z
  .exact I4.pin p (vv _ z)
  .have z:p=(C,G):=by simpa using z
   subst z;exact#[eC,by rw[au hDC.symm];exact J4.free,cL,I2.Ef hCle,λv Q=>by rw[dC]at Q;cases Q]
 show Nd _ _ (RX (.Name y d) X.env (.ref s2.heap.objs.size)) _ _ _;refine cR (hgg _ s4 J _ (.ref s2.heap.objs.size) _ _ I5 rfl q) λ_ W ⟨B,H5,O,q6⟩=>?_;have Y:=O.pin (C,G) (vv _ (vv _ (by simp)));refine#[m4,#[G,es,ep,Y.1,dC,kC,fC],λh' L=>?_];have I7:Inv X l B H5 W:=O.fu λp D=>O.pin p (vv _ (NK _ D));refine#[B,H5,I7.turned (t':=W.toks) (it:=C) (λb o hb e=>(L.2 b hb).trans e) Y.2.1 cL (.inr (Nz I2.sz hCle)) (λx c e z=>?_) (λp D z=>?_),q6]
 .have(_,o,ho,_):=I2.cell x c e;exact absurd (Na ho) (by rw[z];exact UZ.mpr hCle)
 .exact absurd (Na (I2.pin p D).1) (by rw[z];exact UZ.mpr hCle)
theorem nh {y:Str}{d l:Pos}{I:TG}{o iter tg:Expr}{m:List Expr}{scope:OG}{pos:Pos}{v:TI}{g:TG}{B:TT}{D:TE}(G:OG)(r own:List Str)(fr:List Nat)(O:X.calm=true)(u:X.env.scope=G)(Q:X.N=r)(ok:m6 scope G r fr=true)(hi:PI X tg iter v)(hg:∀q C s H,PG (bu X scope (own++fr.map λj=>r.getD j Nt) q C s H) tg g)(ht:∀q C s H,sL (bu X scope (own++fr.map λj=>r.getD j Nt) q C s H) m B)(he:∀q C s H,PE (bu X scope (own++fr.map λj=>r.getD j Nt) q C s H) o D)(hgg:PG X (.Name y d) I)(hsw:Rq (.ListComp o [#[tg,iter,m,0]] scope pos) (some (.Name y d)) l.line X.env=pure true:=by kernel_rfl)(hs:∀x,NQ iter X.env x=pure x:=by intro _;rfl):PS X (.Assign [.Name y d] (.ListComp o [#[tg,iter,m,0]] scope pos) l) (vH (uT own.length fr v g B D) I):=by
 subst u Q;unfold m6 at ok;simp only[NO,NS,bne_iff_ne,beq_iff_eq,Qg]at ok;have((L,t),J):=ok;refine ES own fr O L (λx p=>(t x p).1.1) (λx p e=>?_) (λx p e=>?_) (λj M=>J j M) hi hg ht he hgg hsw hs
 .rcases(t x p).1.2 with z|z
  .exact absurd e z
  .exact z
 .rcases(t x p).2 with(z|z)|z
  .exact absurd e z
  .exact .inl z
  .exact .inr z
end L2
open Lean in
def r2:List Name:=[`ok,`at',`kp,`bd,`kQ,`rfl,`PySem.F.plainAttrs_list,`PySem.F.slot_list_append,`PySem.F.type_list_append,`AU,`aC,`K,`j8,`aA,`P,`w,`mg,`base,`f,`cdv,`A,`outer,`s,`E,`aG,`z_range,`vG]
open Lean in
def r3:List (Name × Name × Nat × List Nat):=[(`Z0,`eJ,16,[1000,0,1,1001,1002,1003,2,204,101,3,4,4]),
 (`Z1,`c8,5,[100,101,4]),
 (`Z2,`pK,9,[100,1,101,102,103,3,3,4,4]),
 (`Z3,`lB,99,[100,101,205,5,6]),
 (`Z4,`sa,6,[100,101,102,103,4,7,8]),
 (`Z5,`eA,5,[100,101]),
 (`Z6,`xr,12,[206,207,208,209,100,101,4,4,4,4,4]),
 (`Z7,`AS,9,[100,1,101,102,103,3,3,4,4]),
 (`Z8,`iI,99,[100,101,210,9]),
 (`Z9,`zP,5,[100,211,205,205,101,4,4]),
 (`Zb,`kL,8,[100,101,212]),
 (`Zc,`c8,99,[100,213]),
 (`Zd,`b9,3,[100]),
 (`Ze,`pA,5,[100,101,4]),
 (`Zf,`kT,11,[100,101,102,103,205,205,205,10,104,105,11,106,12]),
 (`Zg,`Hz,8,[100,205,101,102,103,12]),
 (`Zh,`nQ,8,[100,101,102,103]),
 (`Zi,`vI,99,[100,214,215,211,216,217,101,102,103,218,219,220,221,222,104,223]),
 (`Zj,`jK,99,[13,100,224,9]),
 (`Zk,`iI,7,[100,101,102,9]),
 (`Zl,`fH,5,[100]),
 (`Zm,`bS,8,[100,101,102]),
 (`Zn,`Eh,4,[100,4]),
 (`Zo,`nQ,99,[100,101,102,14]),
 (`Zp,`yF,6,[100,101,4,4,4]),
 (`Zq,`uH,6,[1,225,100,4]),
 (`Zs,`pA,99,[100,226]),
 (`Zt,`dB,4,[100]),
 (`Zu,`cG,4,[100])]
set_option hygiene false in
open Lean in
def r8:Nat->MacroM Term
 | 0=>`(hr.mono ())
 | 1=>`(by left)
 | 2=>`(.nil)
 | 3=>`(by decide)
 | 4=>`(by rfl)
 | 5=>`(Or.inl (by kernel_rfl))
 | 6=>`(by first|exact .inl rfl|exact .inr (by kernel_rfl))
 | 7=>`(by kernel_rfl)
 | 8=>`(by exact .inl rfl)
 | 9=>`(λ_ _=>rfl)
 | 10=>`(by decide)
 | 11=>`(λ_ _ _ _=>fZ)
 | 12=>`(by intro _;rfl)
 | 13=>`(gE hr)
 | _=>`(bI _)
open Lean in
def r4 (f:Name)(a:Array Term):MacroM Term:=do
 let some (_,n,k,c):=r3.find? (·.1==f) | Macro.throwUnsupported
 let b←c.mapM λi=>do
  if i<100 then r8 i else if i<200 then return a.getD (i-100) ⟨.missing⟩ else if i<1000 then return mkIdent (r2.getD (i-200) .anonymous) else return mkIdent ((a.getD (i/1000-1) ⟨.missing⟩).raw.getId++r2.getD (i%1000) .anonymous)
 let b:=b.toArray
 if k==99 then `($(mkIdent n) $b*) else
 let h←`(_)
 let s:=Array.replicate k h
 `(@$(mkIdent n) $s* $b*)
local macro_rules|`($f:ident $a*)=>r4 f.getId (a.map λx=>⟨x.raw⟩)
namespace G14
open PySem L2
noncomputable def top(i:Nat):Stmt:=PySem.Challenge.pw_gapwork_k14_kinds_and_heads_amiss.main.body.getD i (.Pass #[0,0,0,0])
noncomputable abbrev EU:Stmt:=top 3
noncomputable abbrev Cy:Stmt:=top 4
noncomputable abbrev vU:Stmt:=top 5
noncomputable abbrev jv:Stmt:=top 14
noncomputable abbrev jk:Stmt:=top 15
noncomputable abbrev nS:Stmt:=top 17
noncomputable abbrev jW:Stmt:=top 18
noncomputable abbrev jQ:Stmt:=top 19
noncomputable abbrev EV:Stmt:=top 21
noncomputable abbrev jw:Stmt:=top 22
noncomputable abbrev jX:Stmt:=top 23
noncomputable abbrev iV:Stmt:=top 24
noncomputable abbrev iu:Stmt:=top 25
noncomputable abbrev lK:Stmt:=top 26
noncomputable abbrev jM:Stmt:=top 27
noncomputable abbrev iJ:Stmt:=top 28
noncomputable abbrev jx:Stmt:=top 29
noncomputable abbrev iW:Stmt:=top 30
noncomputable abbrev sV:Stmt:=top 32
noncomputable abbrev sW:Stmt:=top 33
noncomputable abbrev cZ:Stmt:=top 34
noncomputable abbrev dF:Stmt:=top 35
noncomputable abbrev jR:Stmt:=top 36
noncomputable abbrev bX:Stmt:=top 37
noncomputable abbrev b6:Stmt:=top 38
noncomputable abbrev aW:Stmt:=top 39
noncomputable abbrev aQ:Stmt:=top 40
noncomputable abbrev jY:Stmt:=top 41
noncomputable abbrev iw:Stmt:=top 42
noncomputable abbrev gQ:Stmt:=top 43
noncomputable abbrev eR:Stmt:=top 44
noncomputable abbrev dH:Stmt:=top 45
noncomputable abbrev fL:Stmt:=top 46
noncomputable abbrev bY:Stmt:=top 47
noncomputable abbrev iX:Stmt:=top 48
noncomputable abbrev ni:Stmt:=top 49
noncomputable abbrev gU:Stmt:=top 50
noncomputable abbrev bZ:Stmt:=top 51
noncomputable abbrev dJ:Stmt:=top 52
noncomputable abbrev fQ:Stmt:=top 53
noncomputable abbrev nj:Stmt:=top 54
theorem yZ :aZ ["_law_feed_here","_law_many","_law_digit","_law_one"] U7 (ak sW):=by ac_rfl
theorem EW (F:jq K "_law_take" "_law_take" sW f r):cA P w K mg base gy 1 f r U7 cC:=by
 refine F.ok yZ (λt H Q E h=>?_) (λcdv A outer s H t Q E hr h=>?_)
 .have(a,m,rfl,_):=h;rfl
 have(a,m,rfl,g,u,(p,q,d),k):=h
 refine#[_,eA (kL (Zo pJ (Z8 bx (pv 0)) aC)
   (eA (lC (i:=2) yZ.nd rfl (Or.inl rfl) (bS iR (Z8 bx (pv 0)) (pv 1)))
   (eA (yF (bS rK (Z8 bx (pv 0)) (pv 1)) (mR (pv 0) aC set_list))
   (b9 (cG (pv 2))))) j8)
  (eA (lC (i:=3) yZ.nd rfl (Or.inl rfl) (bS iR (bS kF (Z8 bx (pv 0)) aC) aC))
  (eA (yF (bS dR (bS iR (bS dR (bS kF (pv 3) aC) aC) aC) aC) (mR (pv 0) aC set_list))
  (b9 (cG (bS iR (bS rK (bS dR (bS kF (pv 3) aC) (Z8 bx (pv 0))) aC) (pv 1)))))),?_]
 have ext:∀l j:Int,Ext a H (upd H a (.lst [.int l,.int j])):=λl j=>#[λb o n e=>by rw[au n];exact e,l,j,af];refine#[_,rfl,a,_,0,_,rfl,rfl,bQ.of d,rfl,_,_,rfl,rfl,_,rfl,?_];refine bW (λ_=>?_) (λ_=>?_)
 .refine#[_,rfl,a,_,0,_,rfl,rfl,bQ.of d,rfl,_,rfl,_,_,rfl,rfl,g,?_];refine#[_,rfl,a,_,0,_,rfl,rfl,bQ.of d,rfl,_,rfl,_,_,rfl,rfl,#[g,u],?_];refine#[_,rfl,a,_,0,0,rfl,rfl,d,rfl,?_];refine#[_,rfl,?_];exact k _ _ (Tf _ ()) (Sb _ g) (ext _ _)
 .refine#[_,rfl,a,_,1,_,rfl,rfl,bQ.of d,rfl,_,_,rfl,rfl,.inr #[by decide,by decide],_,_,rfl,rfl,(by show(0:Int)<2147483647;decide),?_];refine#[_,rfl,_,_,rfl,rfl,.inr #[by decide,by decide],_,_,rfl,rfl,_,_,rfl,rfl,(by show(0:Int)<2147483399;decide),_,_,rfl,rfl,?_];refine#[_,rfl,a,_,1,1,rfl,rfl,d,rfl,?_];refine#[_,rfl,_,_,rfl,rfl,.inr #[by decide,by decide],_,rfl,a,_,1,_,rfl,rfl,bQ.of af,rfl,_,_,rfl,rfl,_,_,rfl,rfl,#[by decide,by decide],_,rfl,_,_,rfl,rfl,g,?_];exact k _ _ (Tf _ ()) (Sb _ g) (ext _ _)
theorem qG :aZ ["_law_script","_law_k","_law_cell","_law_own"] V9 (ak sV):=by ac_rfl
theorem EX (F:jq K "_law_feed" "_law_feed" sV f r)(o:mg "len"=none):cA P w K mg base gy 1 f r V9 (Cw K):=by
 refine F.ok qG (λu H Q E h=>?_) (λcdv A outer s H u Q E hr h=>?_)
 .have(a,ns,m,rfl,_):=h;rfl
 have(a,ns,k,rfl,j,C,y,B,g):=h
 refine#[_,eA (lC (i:=2) qG.nd rfl (Or.inl rfl) (bS dR (bS kF aC (pv 1)) aC))
  (eA (kL (Zo mS (pv 1) (pK aJ (by rfl) o Nl (bJ (pv 0) aA)))
   (b9 (lC (i:=2) qG.nd rfl (Or.inl rfl) (iI bx (pv 0) (pv 1) (λ_ _=>rfl))))
   (b9 (kL (Zo pJ (pK aJ (by rfl) o Nl (bJ (pv 0) aA)) aC)
    (b9 (lC (i:=2) qG.nd rfl (Or.inl rfl) (bS dR (bS kF (bS iR (iI bx (pv 0) (bS iR (pv 1) (pK aJ (by rfl) o Nl (bJ (pv 0) aA))) (λ_ _=>rfl)) aC) aC) (bS kF aC (pv 1)))))
    j8)))
  (eA (lC (i:=3) qG.nd rfl (Or.inl rfl) aC)
  (eA (kL (Zo JI (pv 2) (bS HE aC aC)) (b9 (lC (i:=3) qG.nd rfl (Or.inl rfl) (pv 2))) j8)
  (b9 (cG (dB (bJ (pv 3) (bJ (bS dR (bS iR (bS dR (bS kF (bS iR (pv 2) aC) aC) (bS kF aC (pv 1))) aC) aC) aA)))))))),?_]
 have e:(ns.map V.int).length=ns.length:=bM _;refine#[_,rfl,_,_,rfl,rfl,.inl #[by decide,by decide],_,_,rfl,rfl,?_];refine#[_,rfl,_,rfl,a,_,rfl,.inl j,_,_,rfl,rfl,_,rfl,?_];refine bW (λc=>?_) (λc=>?_)
 .have t:k<((ns.map V.int).length:Int):=of_decide_eq_true c;rw[e]at t;have(v,p):=zS (ns:=ns) y t;refine#[_,rfl,_,rfl,a,_,_,_,rfl,rfl,j,p,?_];refine#[_,rfl,_,_,rfl,rfl,#[by decide,by decide,by decide],_,_,rfl,rfl,_,rfl,bW (λ_=>?_) (λ_=>?_)]
  .refine#[_,rfl,_,rfl,_,rfl,_,_,rfl,rfl,(by show(0:Int)<2147483629;decide),_,_,rfl,rfl,.inr #[by decide,by decide],_,rfl,_,_,rfl,rfl,.inl #[by decide,by decide],_,_,rfl,rfl,_,_,rfl,rfl,(by show(0:Int)<2147483629;decide),_,_,rfl,rfl,(by show 2<=mH;decide),λl e=>?_];exact g l _ (ae e _) e #[_,_,af]
  .refine#[_,rfl,_,rfl,_,_,rfl,rfl,(by show(0:Int)<2147483629;decide),_,_,rfl,rfl,.inr #[by decide,by decide],_,rfl,_,_,rfl,rfl,.inl #[by decide,by decide],_,_,rfl,rfl,_,_,rfl,rfl,(by show(0:Int)<2147483629;decide),_,_,rfl,rfl,(by show 2<=mH;decide),λl e=>?_];exact g l _ (ae e _) e #[_,_,af]
 .refine#[_,rfl,a,_,rfl,.inl j,_,_,rfl,rfl,_,rfl,?_];refine bW (λd=>?_) (λd=>?_)
  .have q:(0:Int)<((ns.map V.int).length:Int):=of_decide_eq_true d;have z:(0:Int)<(ns.length:Int):=by rw[e]at q;exact q
   have(v,p):=zS (ns:=ns) (k:=k % (((ns.map V.int).length:Nat):Int)) (Tf _ ()) (by rw[e];exact Sb _ z);refine#[_,rfl,_,rfl,_,rfl,a,_,rfl,.inl j,_,_,rfl,rfl,q,a,_,_,_,rfl,rfl,j,p,_,_,rfl,rfl,(by show(0:Int)<2147483629;decide),_,_,rfl,rfl,.inr #[by decide,by decide],_,rfl,_,_,rfl,rfl,.inl #[by decide,by decide],_,_,rfl,rfl,?_];refine#[_,rfl,_,_,rfl,rfl,#[by decide,by decide,by decide],_,_,rfl,rfl,_,rfl,bW (λ_=>?_) (λ_=>?_)]
   .refine#[_,rfl,_,rfl,_,rfl,_,_,rfl,rfl,(by show(0:Int)<2147483629;decide),_,_,rfl,rfl,.inr #[by decide,by decide],_,rfl,_,_,rfl,rfl,.inl #[by decide,by decide],_,_,rfl,rfl,_,_,rfl,rfl,(by show(0:Int)<2147483629;decide),_,_,rfl,rfl,(by show 2<=mH;decide),λl e=>?_];exact g l _ (ae e _) e #[_,_,af]
   .refine#[_,rfl,_,rfl,_,_,rfl,rfl,(by show(0:Int)<2147483629;decide),_,_,rfl,rfl,.inr #[by decide,by decide],_,rfl,_,_,rfl,rfl,.inl #[by decide,by decide],_,_,rfl,rfl,_,_,rfl,rfl,(by show(0:Int)<2147483629;decide),_,_,rfl,rfl,(by show 2<=mH;decide),λl e=>?_];exact g l _ (ae e _) e #[_,_,af]
  .refine#[_,rfl,_,_,rfl,rfl,#[by decide,by decide,by decide],_,_,rfl,rfl,_,rfl,bW (λ_=>?_) (λ_=>?_)]
   .refine#[_,rfl,_,rfl,_,rfl,_,_,rfl,rfl,(by show(0:Int)<2147483629;decide),_,_,rfl,rfl,.inr #[by decide,by decide],_,rfl,_,_,rfl,rfl,.inl #[by decide,by decide],_,_,rfl,rfl,_,_,rfl,rfl,(by show(0:Int)<2147483629;decide),_,_,rfl,rfl,(by show 2<=mH;decide),λl e=>?_];exact g l _ (ae e _) e #[_,_,af]
   .refine#[_,rfl,_,rfl,_,_,rfl,rfl,(by show(0:Int)<2147483629;decide),_,_,rfl,rfl,.inr #[by decide,by decide],_,rfl,_,_,rfl,rfl,.inl #[by decide,by decide],_,_,rfl,rfl,_,_,rfl,rfl,(by show(0:Int)<2147483629;decide),_,_,rfl,rfl,(by show 2<=mH;decide),λl e=>?_];exact g l _ (ae e _) e #[_,_,af]
end G14
namespace L2
open PySem
theorem aT.n9 (s:aT H d)(h:H l=none)(o:HO):aT H (upd d l o):=λb g e=>by rw[au (ay e h)];exact s b g e
structure LY(K:bN) (Ps:St->Prop) (H2:Hp) (us:List V) (ys:List T) (σ:St) (H5:Hp):Prop where
 p:Ps σ
 s:aT H2 H5
 r:bO K H5 ys us
theorem y9 {d j:Type}{φ:d->List j}(e:∀p,(φ p).length<=1):∀ps:List d,(ps.flatMap φ).length<=ps.length
 | []=>Nu _
 |x::r=>by
  rw[OY,i4,Nv];have:=e x;have:=y9 e r;omega
theorem vV {d e:Type}(f:d->e):∀l:List d,(l.flatMap λp=>[f p])=l.map f
 | []=>rfl
 |x::r=>by rw[OY,vV f r];rfl
theorem uX {D:Type}{e:D->T}{φ:D->List T}{ps:List D}(B:St->Prop)(M:cP K H0 a vs)(hr:bO K H0 (ps.map e) vs)(W:ps.length<=900)(O:∀p,(φ p).length<=1)(R:B σ0)(hs:∀p∈ps,∀x o j (N:List V->St->Hp->Prop),aT H0 j->B o->Rp K j (e p) x->(∀us d t,LY K B j us (φ p) d t->N us d t)->g x o j λd U=>tt d U λok J=>if ok=true then te d J λv t=>N [v] d t else N [] d J)(k:∀l C u,aT H0 C->H0 l=none->C l=some (.lst u)->bO K C (ps.flatMap φ) u->Q (.ref l) C):mw (zE K a) g tt te Q σ0 H0:=by
 have l:=hr.length;rw[bM]at l;refine gb (xs:=vs) (λi o us j=>B o/\aT H0 j/\bO K j ((ps.take i).flatMap φ) us) #[R,aT.refl _,.nil] ?_ (small ()) ?_ ?_ ?_
 .rintro i o us j hi ⟨_,_,r⟩;rw[r.length];exact Nz (y9 O _) (by rw[I0];exact Nat.min_le_left _ _)
 .rintro i o us j hi ⟨_,s,_⟩;exact M.same s
 .rintro i x o us j hx ⟨p,s,r⟩;have(y,I,L):=hr.get' hx;rw[xn]at I;have(q,G,rfl):=we.mp I;have H:i<ps.length:=(bH.mp G).1;have S:ps[i]=q:=(bH.mp G).2
  have z:=hs q (Nf G) x o j (λu d t=>B d/\aT H0 t/\bO K t ((ps.take (i+1)).flatMap φ) (us++u)) s p (L.same s) λu d t m=>by
   refine#[m.p,s.trans m.s,?_];rw[mu H,S,NU];exact(r.same m.s).append (by rw[OY,SR,NF];exact m.r)
  simp only[NF]at z;exact z
 .rintro o us j ⟨_,s,r⟩ p hp;rw[l,Nr]at r;exact k p _ us (s.trans (ae hp _)) (s.free hp) af (r.same (ae hp _))
theorem A6 {D:Type}{e:D->T}{φ:D->List T}{ps:List D}(B:St->Prop)(M:H0 a=some (.lst vs))(hr:bO K H0 (ps.map e) vs)(W:ps.length<=900)(O:∀p,(φ p).length<=1)(R:B σ0)(hs:∀p∈ps,∀x o j (N:List V->St->Hp->Prop),aT H0 j->B o->Rp K j (e p) x->(∀us d t,LY K B j us (φ p) d t->N us d t)->g x o j λd U=>tt d U λok J=>if ok=true then te d J λv t=>N [v] d t else N [] d J)(k:∀l C u,aT H0 C->H0 l=none->C l=some (.lst u)->bO K C (ps.flatMap φ) u->Q (.ref l) C):mw (GC K a) g tt te Q σ0 H0:=by
 have l:=hr.length;rw[bM]at l;refine kU (xs:=vs) (λi o us j=>B o/\aT H0 j/\bO K j ((ps.take i).flatMap φ) us) #[R,aT.refl _,.nil] ?_ (small ()) ?_ ?_ ?_
 .rintro i o us j hi ⟨_,_,r⟩;rw[r.length];exact Nz (y9 O _) (by rw[I0];exact Nat.min_le_left _ _)
 .rintro i o us j hi ⟨_,s,_⟩;exact bQ.of (s _ _ M)
 .rintro i x o us j hx ⟨p,s,r⟩;have(y,I,L):=hr.get' hx;rw[xn]at I;have(q,G,rfl):=we.mp I;have H:i<ps.length:=(bH.mp G).1;have S:ps[i]=q:=(bH.mp G).2
  have z:=hs q (Nf G) x o j (λu d t=>B d/\aT H0 t/\bO K t ((ps.take (i+1)).flatMap φ) (us++u)) s p (L.same s) λu d t m=>by
   refine#[m.p,s.trans m.s,?_];rw[mu H,S,NU];exact(r.same m.s).append (by rw[OY,SR,NF];exact m.r)
  simp only[NF]at z;exact z
 .rintro o us j ⟨_,s,r⟩ p hp;rw[l,Nr]at r;exact k p _ us (s.trans (ae hp _)) (s.free hp) af (r.same (ae hp _))
theorem bO.kW :∀{ns:List Str}{vs:List V},bO K H (ns.map .s) vs->vs=ns.map V.str
 | [],_,h=>h.ji
 |n::r,_,h=>by
  have(v,d,rfl,g,h):=bO.inv (K:=K) (x:=.s n) h;rw[g.aM,kW h];rfl
structure dZ(M:List Addr) (f:Addr) (H H':Hp):Prop where
 oth:∀b o,b∉M->b≠f->H b=some o->H' b=some o
 kt:Kt H H'
 ff:cM H' f
theorem dZ.refl (d:cM H f):dZ M f H H:=#[λ_ _ _ _ e=>e,Kt.refl,d]
theorem dZ.ext (a:dZ M f H H1)(e:Ext f H1 H2):dZ M f H H2:=#[λb o g d h=>e.1 b o d (a.oth b o g d h),a.kt.trans (e.kt a.ff),e.2]
theorem dZ.same (a:dZ M f H H1)(e:aT H1 H2):dZ M f H H2:=#[λb o g d h=>e b o (a.oth b o g d h),a.kt.trans (Kt.same e),let⟨p,q,h⟩:=a.ff;#[p,q,e _ _ h]]
theorem dZ.trans (a:dZ M f H H1)(b:dZ M f H1 H2):dZ M f H H2:=#[λc o e d h=>b.oth c o e d (a.oth c o e d h),a.kt.trans b.kt,b.ff]
theorem dZ.upd {M:List Addr}{f:Addr}{H H1:Hp}{l:Addr}{us:List V}{o:HO}(a:dZ M f H H1)(m:l∈M)(n:l≠f)(h:H1 l=some (.lst us)):dZ M f H (upd H1 l o):=#[λb g d j e=>by have z:b≠l:=(λz=>d (by rw[z];exact m));rw[au z];exact a.oth b g d j e,a.kt.trans (Kt.lst h o),let⟨p,q,e⟩:=a.ff;#[p,q,by rw[au n.symm];exact e]]
theorem dZ.Cz (a:dZ M f H H1)(hn:H l=none)(n:l≠f)(h:H1 l=some (.lst us)):dZ M f H (L2.upd H1 l o):=#[λb d j g e=>by rw[au (ay e hn)];exact a.oth b d j g e,a.kt.trans (Kt.lst h o),let⟨p,q,e⟩:=a.ff;#[p,q,by rw[au n.symm];exact e]]
theorem dZ.GO (a:dZ M f H H1)(hn:H l=none)(n:l≠f)(h:H1 l=some (.dK us)):dZ M f H (L2.upd H1 l o):=#[λb d j g e=>by rw[au (ay e hn)];exact a.oth b d j g e,a.kt.trans (Kt.upd h (λ_ z=>nomatch z) (λ_ _ z=>nomatch z) o),let⟨p,q,e⟩:=a.ff;#[p,q,by rw[au n.symm];exact e]]
theorem dZ.drop (a:dZ (l::M) f H H1)(hn:H l=none):dZ M f H H1:=#[λb o e d h=>a.oth b o (λz=>(Nc.mp z).elim (λz=>by subst z;rw[hn]at h;cases h) e) d h,a.kt,a.ff]
theorem dZ.more (a:dZ M f H H1):dZ (l::M) f H H1:=#[λb o e d h=>a.oth b o (λz=>e (.tail _ z)) d h,a.kt,a.ff]
theorem dZ.sub (a:dZ M f H H1)(h:∀z∈M,z∈M'):dZ M' f H H1:=#[λb o g d e=>a.oth b o (λz=>g (h b z)) d e,a.kt,a.ff]
theorem dZ.ex (a:dZ [] f H H1):Ext f H H1:=#[λb o n h=>a.oth b o nofun n h,a.ff]
theorem Ext.sX (d:cM H f)(e:Ext f H H1):dZ M f H H1:=(dZ.refl d).ext e
theorem dZ.CA (a:dZ [] f H H1)(n:b≠f)(h:H b=some o):H1 b=some o:=a.oth b o nofun n h
theorem dZ.jE (a:dZ [l] f H H1)(d:b≠l)(n:b≠f)(h:H b=some o):H1 b=some o:=a.oth b o (λz=>d (EF.mp z)) n h
theorem dZ.Lz (a:dZ [l,m] f H H1)(e:b≠l)(d:b≠m)(n:b≠f)(h:H b=some o):H1 b=some o:=a.oth b o (λz=>(Nc.mp z).elim e λz=>d (EF.mp z)) n h
theorem dZ.free (a:dZ M f H H1)(d:H1 p=none)(g:p∉M):H p=none:=by
 cases e:H p with
 |none=>rfl
 |some o =>
  by_cases c:p=f
  .subst c;have(x,y,z):=a.ff;rw[z]at d;cases d
  .rw[a.oth p o g c e]at d;cases d
theorem bB (d:cM H f)(h:H l=none):l≠f:=λz=>by
 have(p,q,e):=d;rw[<-z,h]at e
 cases e
theorem iL (xs:List V)(n:Nat):ju xs none (some (n:Int))=xs.take n:=by
 unfold ju;rw[HT.j9,HT.sD,List.drop_zero,Nat.sub_zero];rcases Uv n xs.length with h|h
 .rw[PN h]
 .rw[SS h,Ol (lj _),Ol h]
theorem qH (xs:List V)(j:Nat):ju xs (some (j:Int)) none=xs.drop j:=by
 unfold ju;rw[HT.j9,HT.sD];rcases Uv j xs.length with h|h
 .rw[PN h,Ol (by rw[N7];omega)]
 .rw[SS h,Qa h,Qa (lj _)];simp
theorem xK (xs:List V)(a b:Nat)(h:b<=xs.length)(d:a<=b):ju xs (some (a:Int)) (some (b:Int))=(xs.drop a).take (b-a):=by
 unfold ju;rw[HT.j9,HT.j9,PN h,PN ()]
end L2
namespace L2
open PySem PySem.Spec PyProof.Rows
def qV(b:Bool)(h:Heap)(l:Addr)(xs:Array eF):Prop:=match b with|false=>h.IsList l xs|true=>h.IsTuple l xs
def qx(b:Bool)(h:Heap)(i l:Addr)(k:Nat):Prop:=match b with|false=>h.IsListIter i l k|true=>h.IsTupleIter i l k
theorem qV.at (x:qV b h l xs)(k:∀o,h.get? l=some o->h'.get? l=some o):qV b h' l xs:=by
 cases b with
 |false=>exact Heap.IsList.at (show h.IsList l xs from x) k
 |true=>have(o,e,r):=(show h.IsTuple l xs from x);exact#[o,k o e,r]
theorem qx.at (x:qx b h i l n)(k:∀o,h.get? i=some o->h'.get? i=some o):qx b h' i l n:=by
 cases b with
 |false=>exact Heap.IsListIter.at (show h.IsListIter i l n from x) k
 |true=>have(o,e,r):=(show h.IsTupleIter i l n from x);exact#[o,k o e,r]
theorem qV.extBut (x:qV b h l xs)(hs:Tz c h h')(d:l≠c):qV b h' l xs:=x.at λo e=>hs l o d e
theorem qx.extBut (x:qx b h i l n)(hs:Tz c h h')(d:i≠c):qx b h' i l n:=x.at λo e=>hs i o d e
theorem qV.got (x:qV b h l xs):∃o,h.get? l=some o:=by
 cases b with
 |false=>have(o,e,_):=(show h.IsList l xs from x);exact#[o,e]
 |true=>have(o,e,_):=(show h.IsTuple l xs from x);exact#[o,e]
theorem qx.got (x:qx b h i l n):∃o,h.get? i=some o:=by
 cases b with
 |false=>have(o,e,_):=(show h.IsListIter i l n from x);exact#[o,e]
 |true=>have(o,e,_):=(show h.IsTupleIter i l n from x);exact#[o,e]
theorem ux (d:s.heap.IsTupleIter it t i)(ht:s.heap.IsTuple t items)(m:items[i]?=some x)(hQ:∀h',h'.IsTupleIter it t (i+1)->PU it s.heap h'->Q x {s with heap:=h'}):Nd (Nj prog w) A (NW (.ref it)) Q E s:=by
 have(o,e,p,hd):=id d;have(q,g,_,r,j):=ht;have l:=d.typeIs;unfold NW;refine cB (OI (name:=Oi "__next__") l OZ (O7 OZ l QV ?_ (QK _)));show Nd _ _ (U0 (.ref it) 0>>=_) _ _ s;refine cB (NZ e hd (x:=.ref t) rfl ?_);show Nd _ _ (if(Value.ref t == Value.none)=true then _ else _) _ _ s;rw[if_neg (show ¬((Value.ref t == Value.none)=true)from Nq)];show Nd _ _ (U0 (.ref it) 1>>=_) _ _ s;refine cB (NZ e hd (x:=.int i 0) rfl ?_);show Nd _ _ (UI (.ref t)>>=_) _ _ s;refine cB (O0 g j ?_);simp only[OP,m];refine cB (Rb e hd (by simp) (tF #[x,rfl,tF (hQ _ #[_,OR _ e (Rm (QL hd _)),(Uw ..).trans p,?_] (TZ ..))]));rw[QL hd];simp[Qh]
theorem vW (p:A.handled=none)(d:s.heap.IsTupleIter it t i)(ht:s.heap.IsTuple t items)(r:items[i]?=none)(hE:∀h' e,Tz it s.heap h'->(∃o,h'.get? e=some o/\o.cls=.type "StopIteration")->E (.ref e) {s with heap:=h'}):Nd (Nj prog w) A (NW (.ref it)) Q E s:=by
 have(o,j,y,hd):=id d;have(u,g,_,v,l):=ht;have q:=d.typeIs;unfold NW;refine cB (OI (name:=Oi "__next__") q OZ (O7 OZ q QV ?_ (QK _)));show Nd _ _ (U0 (.ref it) 0>>=_) _ _ s;refine cB (NZ j hd (x:=.ref t) rfl ?_);show Nd _ _ (if(Value.ref t == Value.none)=true then _ else _) _ _ s;rw[if_neg (show ¬((Value.ref t == Value.none)=true)from Nq)];show Nd _ _ (U0 (.ref it) 1>>=_) _ _ s;refine cB (NZ j hd (x:=.int i 0) rfl ?_);show Nd _ _ (UI (.ref t)>>=_) _ _ s;refine cB (O0 g l ?_);simp only[OP,r];refine cB (RZ (cB (Rb j hd (by simp) ?_)));show Nd _ _ (newExc (.type "StopIteration") []>>=_) _ _ _;refine cB ?_;simp only[newExc,newTuple];refine cB (NX ?_ (by size_fits));refine cB (m:=firstArgMember _ _) (wpAny_of_eq (a:=Value.none) (by first|rfl|(simp only[firstArgMember];rfl)) ?_)
 refine NX ?_ (by size_fits);simp only[raiseNew];refine cB (wpAny_handled ?_)
 first|rw[show A.in1.handled=none from p]|rw[p]
 refine cB (tF (wpAny_throw ?_));exact hE _ _ (((TZ ..).extBut.push _).push _) #[_,Nh _ rfl,rfl]
theorem pZ (d:qx b s.heap it l i)(g:qV b s.heap l items)(e:items[i]?=some x)(hQ:∀h',qx b h' it l (i+1)->PU it s.heap h'->Q x {s with heap:=h'}):Nd (Nj prog w) A (NW (.ref it)) Q E s:=by
 cases b with
 |false=>exact wpAny_nextOf_list_item d g e hQ
 |true=>exact ux d g e hQ
theorem vX (m:A.handled=none)(d:qx b s.heap it l i)(j:qV b s.heap l items)(g:items[i]?=none)(hE:∀h' e,Tz it s.heap h'->(∃o,h'.get? e=some o/\o.cls=.type "StopIteration")->E (.ref e) {s with heap:=h'}):Nd (Nj prog w) A (NW (.ref it)) Q E s:=by
 cases b with
 |false=>exact wpAny_nextOf_list_end m d j g hE
 |true=>exact vW m d j g hE
noncomputable abbrev nq(b:Bool)(l:Addr):Obj:={cls:=.type (cond b "tuple_iterator" "list_iterator"),data:=.fields #[.ref l,.int 0 0,]}
theorem xM (d:qV b s.heap l items)(e:Q (.ref s.heap.objs.size) {s with heap:=s.heap.push (nq b l)}):Nd (Nj prog w) A (Tq (.ref l)) Q E s:=by
 cases b with
 |false=>exact QY d e
 |true=>exact wpAny_pyIter_tuple d e
noncomputable abbrev KS(d:Bool)(h:Heap)(l1:Addr):Heap:=h.push (nq d l1)
noncomputable abbrev KU(e d:Bool)(h:Heap)(l1 l2:Addr):Heap:=(KS e h l1).push (nq d l2)
noncomputable abbrev KW(d e:Bool)(h:Heap)(l1 l2:Addr):Heap:=(KU d e h l1 l2).push {cls:=.type "tuple",data:=.seq #[.ref h.objs.size,.ref (KS d h l1).objs.size,]}
noncomputable abbrev KY(e d:Bool)(h:Heap)(l1 l2:Addr):Heap:=(KW e d h l1 l2).push {cls:=.type "tuple",data:=.seq #[.none,.none,]}
noncomputable abbrev Ie(e d:Bool)(h:Heap)(l1 l2:Addr):Heap:=(KY e d h l1 l2).push {cls:=.type "zip",data:=.fields #[.none,.bool false,.bool false,.ref (KU e d h l1 l2).objs.size,.ref (KW e d h l1 l2).objs.size,]}
theorem Ig (j l:Bool)(l1 l2:Addr)(xs ys:Array eF):
  Meets (QZ.«zip.__new__» #[[.type "zip",.ref l1,.ref l2],[]]) (λ_ R s=>qV j s.heap l1 xs/\qV l s.heap l2 ys/\R (.ok (.ret (.ref (KY j l s.heap l1 l2).objs.size))) {s with heap:=Ie j l s.heap l1 l2}) :=
 .of_wp λu w A R s h=>by
  have(z,g,d,t,v):=s;have(p,m,h):=h;have y:=sub_zip;have r:qV j (UO #[z,g,d,t,v]) l1 xs:=p;have q:qV l (UO #[z.push (nq j l1),g,d,t,v]) l2 ys:=m.at λo e=>pC _ e
  wp_walk using xM r,xM q
  exact#[_,rfl,h]
theorem CB (e:h.get? i=some (nq b l)):qx b h i l 0:=by
 cases b with
 |false=>exact#[_,e,rfl,rfl]
 |true=>exact#[_,e,rfl,rfl]
theorem EY (r:qV b1 s.heap l1 xs)(q:qV b2 s.heap l2 ys)(h:∀h',Tg h' (s.heap.objs.size+4) (s.heap.objs.size+2) (s.heap.objs.size+3) .none->Qi h' (s.heap.objs.size+2) (.ref s.heap.objs.size) (.ref (s.heap.objs.size+1)) ->
   Qi h' (s.heap.objs.size+3) .none .none->qx b1 h' s.heap.objs.size l1 0->qx b2 h' (s.heap.objs.size+1) l2 0->h'.objs.size=s.heap.objs.size+5 ->
   (∀c o,s.heap.get? c=some o->h'.get? c=some o)->Q (.ref (s.heap.objs.size+4)) {s with heap:=h'}):
  Nd (Nj prog w) A (call (.type "zip") [.ref l1,.ref l2]) Q E s:=by
 refine callType_new PySem.F.called_zip (by decide) (PySem.F.typeCall_zip_2 _ _) (PySem.F.newCall_zip_2 _ _) (λp=>PySem.F.args_object_init_3 p _ _) PySem.F.entry_zip_new (Ig b1 b2 l1 l2 xs ys) #[r,q,?_];have m:(KS b1 s.heap l1).objs.size=s.heap.objs.size+1:=Oh ..;have l:(KU b1 b2 s.heap l1 l2).objs.size=s.heap.objs.size+2:=by rw[Oh,m]
 have j:(KW b1 b2 s.heap l1 l2).objs.size=s.heap.objs.size+3:=by rw[Oh,l]
 have g:(KY b1 b2 s.heap l1 l2).objs.size=s.heap.objs.size+4:=by rw[Oh,j]
 have z:(Ie b1 b2 s.heap l1 l2).objs.size=s.heap.objs.size+5:=by rw[Oh,g]
 have d:∀{h:Heap}{c:Addr}{o:Obj}(x:Obj),h.get? c=some o->(h.push x).get? c=some o:=λx e=>pC _ e;have t:(Ie b1 b2 s.heap l1 l2).get? (KY b1 b2 s.heap l1 l2).objs.size=some _:=Nh _ rfl;have u:(Ie b1 b2 s.heap l1 l2).get? (KW b1 b2 s.heap l1 l2).objs.size=some _:=d _ (Nh _ rfl);have v:(Ie b1 b2 s.heap l1 l2).get? (KU b1 b2 s.heap l1 l2).objs.size=some _:=d _ (d _ (Nh _ rfl));have y:(Ie b1 b2 s.heap l1 l2).get? (KS b1 s.heap l1).objs.size=some (nq b2 l2):=d _ (d _ (d _ (Nh _ rfl)));have B:(Ie b1 b2 s.heap l1 l2).get? s.heap.objs.size=some (nq b1 l1):=d _ (d _ (d _ (d _ (Nh _ rfl))));show _/\_;rw[l,j,g]at t;rw[m,l]at v;rw[j]at u;rw[m]at y;rw[g];exact#[#[_,t,rfl],h _ t v u (CB B) (CB y) z λc o x=>d _ (d _ (d _ (d _ (d _ x))))]
theorem EZ {TI TO:Addr}(D:ZipApart z TI TO N M l1 l2)(Y:Tg s.heap z TI TO .none)(aj:Qi s.heap TI (.ref N) (.ref M))(ai:Qi s.heap TO a b)(h1:qx b1 s.heap N l1 k1)(h2:qx b2 s.heap M l2 k2)(hl1:qV b1 s.heap l1 xs)(hl2:qV b2 s.heap l2 ys)(hx:xs[k1]?=some x)(hy:ys[k2]?=some y)(hQ:∀h',Tg h' z TI TO (Qh s.heap.objs.size)->Qi h' TO x y->qx b1 h' N l1 (k1+1)->qx b2 h' M l2 (k2+1)->Qi h' s.heap.objs.size x y->h'.objs.size=s.heap.objs.size+1 ->
   (∀c o,c≠z->c≠TO->c≠N->c≠M->s.heap.get? c=some o->h'.get? c=some o)->Q (some (.ref s.heap.objs.size)) {s with heap:=h'}):
  Nd (Nj prog w) A (Rr (.ref z)) Q E s:=by
 have ah:s.TypeIs (.ref z) "zip":=#[_,Y,rfl];unfold Rr;refine cB (SG (OI (name:=Oi "__next__") ah Qj (O7 Qj ah Tc ?_ (SV _))));show Nd _ _ (U0 (.ref z) 2>>=_) _ _ _;refine cB (NZ Y rfl (x:=.bool false) rfl ?_);show Nd _ _ (U0 (.ref z) 3>>=_) _ _ _;refine cB (NZ Y rfl (x:=.ref TI) rfl (cB (O0 aj rfl ?_)));show Nd _ _ (OS (.ref z)>>=_) _ _ _;refine cB ?_;unfold OS;refine cB (NZ Y rfl (x:=.none) rfl (tF ?_));simp only[if_true];refine cB (RZ (cB (NZ Y rfl (x:=.ref TO) rfl ?_)));refine cB (PC Y (by simp) λad B g=>?_)
 replace B:Tg ad z TI TO .ellipsis:=B
 refine cB ?_;simp only[UJ,List.zipIdx_nil,QH,Q8];refine cB (cB (Rx ?_));show Nd _ _ (NW (.ref N)>>=_) _ _ _;refine cB (pZ (h1.extBut g.extBut D.i1z) (hl1.extBut g.extBut D.l1z) hx λac W l=>tF ?_);have I:Qi ac TO a b:=l.extBut _ _ D.TOi1 (g.extBut _ _ D.TOz ai);refine cB (O0 I rfl (cB (RC I λab t j=>?_)))
 replace t:Qi ab TO x b:=t
 refine cB (wpAny_letGo (tF ?_));refine cB (cB (Rx ?_));show Nd _ _ (NW (.ref M)>>=_) _ _ _;refine cB (pZ (((h2.extBut g.extBut D.i2z).extBut l.extBut D.i12.symm).extBut j.extBut D.TOi2.symm) (((hl2.extBut g.extBut D.l2z).extBut l.extBut D.l2i1).extBut j.extBut D.l2TO) hy λaa U q=>tF ?_);have H:Qi aa TO x b:=q.extBut _ _ D.TOi2 t;refine cB (O0 H rfl (cB (RC H λd m p=>?_)))
 replace m:Qi d TO x y:=m
 refine cB (wpAny_letGo (tF (tF (cB (O0 m rfl (cB (wpAny_newTuple ?_)))))));have ag:d.objs.size=s.heap.objs.size:=by rw[p.1,q.1,j.1,l.1,g.1]
 have J:Tg d z TI TO .ellipsis:=p.extBut _ _ D.TOz.symm (q.extBut _ _ D.i2z.symm (j.extBut _ _ D.TOz.symm (l.extBut _ _ D.i1z.symm B)));have S:∀c o,c≠z->c≠TO->c≠N->c≠M->s.heap.get? c=some o->d.get? c=some o:=λc o X c2 c3 c4 e=>p.extBut _ _ c2 (q.extBut _ _ c4 (j.extBut _ _ c2 (l.extBut _ _ c3 (g.extBut _ _ X e))));have V:qx b1 d N l1 (k1+1):=((W.extBut j.extBut D.TOi1.symm).extBut q.extBut D.i12).extBut p.extBut D.TOi1.symm;have T:qx b2 d M l2 (k2+1):=U.extBut p.extBut D.TOi2.symm;have O:z<d.objs.size:=Na J;show Nd _ _ (QA (.ref z) (.ref d.objs.size)>>=_) _ _ _;refine cB ?_;unfold QA;have R:Tg (d.push {cls:=.type "tuple",data:=.seq #[x,y,]}) z TI TO .ellipsis:=pC _ J;refine cB (PC R (by simp) λZ v G=>?_)
 replace v:Tg Z z TI TO (Qh d.objs.size):=v
 refine PC v (by simp) λu r C=>?_
 replace r:Tg u z TI TO (Qh d.objs.size):=r
 have up:∀c o,c≠z->d.get? c=some o->u.get? c=some o:=λc o X e=>C.extBut _ _ X (G.extBut _ _ X (pC _ e));have L:Qi u d.objs.size x y:=C.extBut _ _ (QX O) (G.extBut _ _ (QX O) (Nh _ rfl));have ae:u.objs.size=d.objs.size+1:=by rw[C.1,G.1,Oh]
 rw[ag]at r L ae;refine tF #[_,rfl,tF ?_];show Q (some (.ref d.objs.size)) _;rw[ag];exact hQ u r (up _ _ D.TOz m) (V.at λo e=>up _ o D.i1z e) (T.at λo e=>up _ o D.i2z e) L ae λc o X c2 c3 c4 e=>up c o X (S c o X c2 c3 c4 e)
theorem Ih {TI TO:Addr}{V:Nat}(hh:A.handled=none)(D:ZipApart z TI TO I H l1 l2)(J:Tg s.heap z TI TO .none)(Z:Qi s.heap TI (.ref I) (.ref H))(Y:Qi s.heap TO a b)(h1:qx b1 s.heap I l1 W)(h2:qx b2 s.heap H l2 V)(hl1:qV b1 s.heap l1 xs)(hl2:qV b2 s.heap l2 ys)(hend:xs[W]?=none\/ys[V]?=none)(hQ:∀h',(∀c o,c≠z->c≠TO->c≠I->c≠H->s.heap.get? c=some o->h'.get? c=some o)->Q none {s with heap:=h'}):Nd (Nj prog w) A (Rr (.ref z)) Q E s:=by
 have O:s.TypeIs (.ref z) "zip":=#[_,J,rfl]
 have B:∀(h':Heap) (e:Addr),(∀c o,c≠z->c≠TO->c≠I->c≠H->s.heap.get? c=some o->h'.get? c=some o)->(∃o,h'.get? e=some o/\o.cls=.type "StopIteration") ->
   Nd (Nj prog w) A (do if(←Ui (.ref e) (.type "StopIteration"))then pure none else throw (.ref e)) Q E {s with heap:=h'}:=λh' e hk ⟨o,ho,hc⟩ =>
  cB (Ru (T:="StopIteration") (b:=true) #[o,ho,hc] isSubtype_stop (tF (hQ _ hk)))
 unfold Rr;refine cB (SG (OI (name:=Oi "__next__") O Qj (O7 Qj O Tc ?_ (SV _))));show Nd _ _ (U0 (.ref z) 2>>=_) _ _ _;refine cB (NZ J rfl (x:=.bool false) rfl ?_);show Nd _ _ (U0 (.ref z) 3>>=_) _ _ _;refine cB (NZ J rfl (x:=.ref TI) rfl (cB (O0 Z rfl ?_)));show Nd _ _ (OS (.ref z)>>=_) _ _ _;refine cB ?_;unfold OS;refine cB (NZ J rfl (x:=.none) rfl (tF ?_));simp only[if_true];refine cB (RZ (cB (NZ J rfl (x:=.ref TO) rfl ?_)));refine cB (PC J (by simp) λN l d=>?_)
 replace l:Tg N z TI TO .ellipsis:=l
 refine cB ?_;simp only[UJ,List.zipIdx_nil,QH,Q8];refine cB (cB (Rx ?_));show Nd _ _ (NW (.ref I)>>=_) _ _ _
 cases hx:xs[W]? with
 |none =>
  refine cB (vX hh (h1.extBut d.extBut D.i1z) (hl1.extBut d.extBut D.l1z) hx λq e g X=>?_);have(U,m,y):=X;have t:Tg q z TI TO .ellipsis:=g _ _ D.i1z.symm l;have G:e≠z:=λx=>by subst x;rw[t]at m;cases m;simp at y
  exact PC t (by simp) λC _ j=>B C e (λc o R _ c3 _ x=>j.extBut _ _ R (g _ _ c3 (d.extBut _ _ R x))) #[U,j.extBut _ _ G m,y]
 |some x =>
  have hy:ys[V]?=none:=by
   rcases hend with h|h
   .rw[hx]at h;cases h
   .exact h
  refine cB (pZ (h1.extBut d.extBut D.i1z) (hl1.extBut d.extBut D.l1z) hx λq aa g=>tF ?_);have p:Qi q TO a b:=g.extBut _ _ D.TOi1 (d.extBut _ _ D.TOz Y);refine cB (O0 p rfl (cB (RC p λC S j=>?_)));refine cB (wpAny_letGo (tF ?_));refine cB (cB (Rx ?_));show Nd _ _ (NW (.ref H)>>=_) _ _ _;refine cB (vX hh (((h2.extBut d.extBut D.i2z).extBut g.extBut D.i12.symm).extBut j.extBut D.TOi2.symm) (((hl2.extBut d.extBut D.l2z).extBut g.extBut D.l2i1).extBut j.extBut D.l2TO) hy λM e v X=>?_);have(U,m,y):=X;have r:Tg M z TI TO .ellipsis:=v _ _ D.i2z.symm (j.extBut _ _ D.TOz.symm (g.extBut _ _ D.i1z.symm l));have G:e≠z:=λx=>by subst x;rw[r]at m;cases m;simp at y
  exact PC r (by simp) λL _ u=>B L e (λc o R c2 c3 c4 x=>u.extBut _ _ R (v _ _ c4 (j.extBut _ _ c2 (g.extBut _ _ c3 (d.extBut _ _ R x))))) #[U,u.extBut _ _ G m,y]
def nT(K:bN)(b:Bool)(H:Hp)(p:Addr)(xs:List V):Prop:=match b with|false=>bQ K H p xs|true=>cP K H p xs
theorem lN (I:Inv X g q H s)(h:nT X.K c H p xs):∃d:List eF,Vals xs d/\qV c s.heap p d.toArray/\xs.length<=mH:=by
 cases c with
 |false =>
  have(d,j,l,m):=I.list h;exact#[d,j,l.isList,m]
 |true =>
  have(d,j,l,m):=I.tuple h;exact#[d,j,(show Heap.IsTuple _ _ _ by have(o,e,r):=l;exact#[o,e,r]),m]
theorem Inv.vY {j:List Addr}(I:Inv X pins σ H s)(l:∀b∈j,pB X pins H b)(k:∀b o,b∉j->s.heap.get? b=some o->h'.get? b=some o):Inv X pins σ H {s with heap:=h',toks:=t'}:=by
 have g:∀b u,H b=some u->b∉j:=λb u e z=>by rw[(l b z).1]at e;cases e
 have B:X.env.locals∉j:=λz=>(l _ z).2.1 rfl
 refine I.step (g':=s.gens) (d':=s.drawn) (ch:=j) (λb y=>?_) (λb o _ _ d e _=>k b o d e) (λb o _ _ d e _=>#[o.slots,k b o d e]) (λ_ _ _ _ n=>n)
  (λb o d e=>#[o,k b o d e]) (λ_ _ e=>e) (λ_ _ _ e=>e) (λb N e=>#[#[],by rw[e];simp]) (λm t=>?_) (λb u e=>?_) I.bare
 .have(_,J,_,G,D,C):=l b y;exact#[G,J,D,C]
 .have(o,L,M,p,r):=t;exact#[o,L,M,k _ o B p,r]
 .refine(I.hok b u e).stay (λc v d q=>k c v ?_ q) (λ_ q=>q) λ_ _ q=>q;rcases d with z|z
  .rw[z];exact g b u e
  .exact g c _ z
theorem Inv.vZ {l:List Addr}(I:Inv X pins σ H s)(t:∀b∈l,pB X pins H b)(k:∀b o,b∉l->s.heap.get? b=some o->h'.get? b=some o)(y:s.heap.objs.size<=a)(new:eM X.prog X.w (upd H a o) h' a o):
  Inv X pins σ (upd H a o) {s with heap:=h',toks:=t'}:=by
 have j:∀b u,H b=some u->b∉l:=λb u e z=>by rw[(t b z).1]at e;cases e
 have G:X.env.locals∉l:=λz=>(t _ z).2.1 rfl;have C:H a=none:=I.hok.fresh y;have g:∀b u,H b=some u->upd H a o b=some u:=λb u e=>by rw[au (ay e C)];exact e
 refine I.step (g':=s.gens) (d':=s.drawn) (ch:=l) (λb p=>?_) (λb o _ _ d e _=>k b o d e) (λb o _ _ d e _=>#[o.slots,k b o d e]) (λb S _ e n=>?_)
  (λb o d e=>#[o,k b o d e]) (λb _ e=>g b _ e) (λb _ _ e=>g b _ e) (λb R e=>#[#[],by rw[g b _ e];simp]) (λm D=>?_) (λb u e=>?_) I.bare
 .have(_,N,_,M,L,J):=t b p;exact#[M,N,L,J]
 .rw[au (ND (Ni (Na e) y))];exact n
 .have(o,O,Q,B,r):=D;exact#[o,O,Q,k _ o G B,r]
 .by_cases p:b=a
  .subst p;rw[af]at e;cases e;exact new
  .rw[au p]at e;refine(I.hok b u e).stay (λc v d q=>k c v ?_ q) (λc q=>g c _ q) λc _ q=>g c _ q;rcases d with z|z
   .rw[z];exact j b u e
   .exact j c _ z
noncomputable def J1 (K : bN) (j : Bool) (l1 : Addr) (g : Bool) (l2 : Addr) : It :=
  #[λi H => ∃ e d x y, nT K j H l1 e ∧ nT K g H l2 d ∧ e[i]? = some x ∧ d[i]? = some y,
   λi H v l => ∃ p x y, H p = none ∧ v = .ref p ∧ l = upd H p (.tup [x, y]) ∧ (∀ e, nT K j H l1 e -> e[i]? = some x) ∧ ∀ d, nT K g H l2 d -> d[i]? = some y,
   λi H => ∃ e d, nT K j H l1 e ∧ nT K g H l2 d ∧ (e.length ≤ i ∨ d.length ≤ i)]
theorem nT.inj (I:Inv X d g H s)(h:nT X.K b H a xs)(e:nT X.K b H a ys):xs=ys:=by
 cases b with
 |false=>exact I.w9 h e
 |true=>exact I.qB h e
theorem CC {K:bN}{T:List Expr}(z TI TO N M l1 l2:Addr)(D:ZipApart z TI TO N M l1 l2):Turn P w K (.Tuple T x1 pos) (J1 K b1 l1 b2 l2) [z,TI,TO,N,M] z
  (λi h=>Tg h z TI TO .none/\Qi h TI (.ref N) (.ref M)/\(∃a b,Qi h TO a b)/\qx b1 h N l1 i/\qx b2 h M l2 i) where
 mem:=by simp
 obj:=λi h r b j=>by
  have(C,g,(a,c,m),J,G):=r
  have R:∀{b:Bool}{i l:Addr}{k:Nat},qx b h i l k->∃o,h.get? i=some o/\∀v,o.data≠.cell v:=λ{b i l k} q=>by
   cases b with
   |false=>have(o,e,_,d):=(show h.IsListIter i l k from q);exact#[o,e,λv z=>by rw[d]at z;cases z]
   |true=>have(o,e,_,d):=(show h.IsTupleIter i l k from q);exact#[o,e,λv z=>by rw[d]at z;cases z]
  simp only[Nc,NB,or_false]at j;rcases j with rfl|rfl|rfl|rfl|rfl
  .exact#[_,C,λv z=>by cases z]
  .exact#[_,g,λv z=>by cases z]
  .exact#[_,m,λv z=>by cases z]
  .exact R J
  .exact R G
 keep:=λi h h' r k=>by
  have(C,g,(a,c,m),J,G):=r;exact#[k z (by simp) _ C,k TI (by simp) _ g,#[a,c,k TO (by simp) _ m],J.at λo e=>k N (by simp) o e,G.at λo e=>k M (by simp) o e]
 item:=by
  intro X hP hw hK hc i Q s σ H E I Y r hg;subst hP hw hK;have(xs,ys,x,y,B,t,hx,hy):=hg;have(C,g,(a,c,m),J,G):=r;have(ab,rv,p1,_):=lN I B;have(aa,L,p2,_):=lN I t;have(u,hu,ru):=rv.get hx;have(v,hv,Z):=L.get hy;refine EZ D C g m J G p1 p2 (x:=u) (y:=v) (by simpa using hu) (by simpa using hv) λh' a1 a2 a3 a4 a5 a6 V=>?_;refine#[.ref s.heap.objs.size,rfl,wpAny_letOwnedTupleGo_zip (s:={s with heap:=h'}) a1 λS ac p=>?_]
  have np:∀b∈[z,TI,TO,N,M],b≠s.heap.objs.size:=λb j e=>by
   obtain⟨o,e2⟩:∃o,s.heap.get? b=some o:=by
    simp only[Nc,NB,or_false]at j;rcases j with rfl|rfl|rfl|rfl|rfl
    .exact#[_,C]
    .exact#[_,g]
    .exact#[_,m]
    .exact J.got
    .exact G.got
   have:=Na e2;rw[e]at this;exact Om _ this
  have kk:∀b o,b∉[z,TI,TO,N,M]->s.heap.get? b=some o->S.get? b=some o:=λb o j e=>by
   simp only[Nc,NB,or_false,not_or]at j;have(n1,n2,n3,n4,n5):=j;exact p.extBut _ _ n1 (V b o n1 n3 n4 n5 e)
  have U:Qi S s.heap.objs.size u v:=p.extBut _ _ (np z (by simp)).symm a5
  refine#[.ref s.heap.objs.size,upd H s.heap.objs.size (.tup [x,y]),I.vZ (t':=s.toks) Y kk (lj _) #[(by show 2<=mH;decide),_,.cons ru (.cons Z .nil),#[_,U,rfl,_,rfl],_,U,rfl],rfl,
   #[_,x,y,I.hok.fresh (lj _),rfl,rfl,λzs O=>by rw[nT.inj I O B];exact hx,λzs O=>by rw[nT.inj I O t];exact hy],?_,λb j=>?_]
  .exact#[ac,p.extBut _ _ D.TIz (V TI _ D.TIz D.TITO D.TIi1 D.TIi2 g),#[u,v,p.extBut _ _ D.TOz a2],a3.extBut p.extBut D.i1z,a4.extBut p.extBut D.i2z]
  .rw[au (np b j)];exact(Y b j).1
 done:=by
  intro X hP hw hK hc i Q s σ H E I Y r hg;subst hP hw hK;have(xs,ys,B,t,hl):=hg;have(C,g,(a,c,m),J,G):=r;have(ab,rv,p1,_):=lN I B;have(aa,L,p2,_):=lN I t;have e1:=rv.length;have e2:=L.length;refine Ih (I.ok.hd hc) D C g m J G p1 p2 ?_ λh' V=>#[rfl,I.vY (t':=s.toks) Y λb o j e=>?_]
  .rcases hl with hl|hl
   .refine .inl ?_;simp;omega
   .refine .inr ?_;simp;omega
  .simp only[Nc,NB,or_false,not_or]at j;exact V b o j.1 j.2.2.1 j.2.2.2.1 j.2.2.2.2 e
 self:=λ_ _ _ _ _ r h=>wpAny_pyIter_zip r.1 h
def LA(K:bN)(t:TA):TI:=λj H R=>t j H λo d=>∃g e p q m l,o=[.ref p,.ref q]/\nT K g d p m/\nT K e d q l/\R (J1 K g p e q) d
theorem Ii (K:bN)(hK:X.K=K)(hg:Gl X "zip")(hm:X.mg "zip"=none)(ha:PA X [a,b] t)(he:Ob [a,b] X.env=(false,eval a X.env)::Ob [b] X.env:=by rfl)(hpl:(RV v (Ob [b] X.env)).any (·.1)=false:=by rfl):PI X (.Tuple m M pos) (.Call (.Name "zip" O) [a,b] [] v) (LA K t):=by
 subst hK;intro j s L H R I h;refine O6 (qA I hg hm boot_zip ?_ (by decide) (by decide));refine Pk ?_ he hpl;refine cR (ha v j s L H _ I h) λus d ⟨vs,H1,o,r,q1⟩=>?_;have(c1,c2,p,q,xs,ys,rfl,Y,V,hq):=q1;have(u,w',rfl,r,r2):=vals2 r
 cases r
 cases r2
 have(U,rv,C,_):=lN o Y;have(T,N,B,_):=lN o V;have S:@LT.lt Nat _ p d.heap.objs.size:=by have(_,e):=C.got;exact Na e
 have Q:@LT.lt Nat _ q d.heap.objs.size:=by have(_,e):=B.got;exact Na e
 refine EY C B λg G z y h1 h2 Z hk=>?_
 have D:ZipApart (d.heap.objs.size+4) (d.heap.objs.size+2) (d.heap.objs.size+3) d.heap.objs.size (d.heap.objs.size+1) p q:=by
  refine#[?_,?_,?_,?_,?_,?_,?_,?_,?_,?_,?_,?_,?_,?_,?_,?_,?_,?_]<;>(show @Ne Nat _ _;omega)
 refine wpAny_pyIter_zip (s:={d with heap:=g}) G ?_;refine#[d.heap.objs.size+4,[d.heap.objs.size+4,d.heap.objs.size+2,d.heap.objs.size+3,d.heap.objs.size,d.heap.objs.size+1],_,_,H1,rfl,o.kept (t':=d.toks) hk,CC _ _ _ _ _ p q D,#[G,z,#[_,_,y],h1,h2],λb J=>?_,hq]
 have l:d.heap.objs.size<=b:=by
  simp only[Nc,NB,or_false]at J;rcases J with rfl|rfl|rfl|rfl|rfl
  .exact Pr _ 4
  .exact Pr _ 2
  .exact Pr _ 3
  .exact lj _
  .exact Pr _ 1
 exact o.AN l (o.hok.fresh l)
theorem E1 {K:bN}{g:TG}{C:TS}{D:Ends}(j:Nat->St->Hp->Prop)(S:j 0 d H)(z:∀i d H,i<=min xs.length ys.length->j i d H->nT K r H a xs)(v:∀i d H,i<=min xs.length ys.length->j i d H->nT K q H b ys)(hs:∀i x y d H p,xs[i]?=some x->ys[i]?=some y->j i d H->H p=none->g (.ref p) d (upd H p (.tup [x,y])) λl B=>C {D with nx:=j (i+1),ct:=j (i+1),bk:=D.nx} l B)(hd:∀d H,j (min xs.length ys.length) d H->D.nx d H):
  ∃W:Nat->Nat->St->Hp->Prop,(∃m,W 0 m d H)/\∀i m d H,W i m d H ->
   ((J1 K r a q b).stop i H/\D.nx d H)\/((J1 K r a q b).go i H/\∃N:St->Hp->Prop,(∀σ' o,N σ' o->∃m',m' < m/\W (i+1) m' σ' o)/\∀x o,(J1 K r a q b).yld i H x o->g x d o λl B=>C {D with nx:=N,ct:=N,bk:=D.nx} l B):=by
 generalize hn:min xs.length ys.length=n at *;refine#[λi m d H=>m=n-i/\i<=n/\j i d H,#[n,by simp,Nu _,S],?_];rintro i m d H ⟨rfl,G,p⟩;have q1:=z i d H G p;have t:=v i d H G p
 by_cases u:i<n
 .have Q:i<xs.length:=()
  have O:i<ys.length:=()
  refine .inr #[#[xs,ys,xs[i],ys[i],q1,t,by simp[Q],by simp[O]],j (i+1),λσ' o M=>#[n - (i+1),(),rfl,u,M],λx o y=>?_];have(L,J,I,R,rfl,rfl,U,T):=y;exact hs i J I d H L (U xs q1) (T ys t) p R
 .have e:i=n:=()
  subst e;exact .inl #[#[xs,ys,q1,t,()],hd d H p]
end L2
namespace G14
open PySem L2
theorem sY {ns:List Int}:nR (.int n) (ns.map V.int)=decide (n∈ns):=by
 unfold nR
 by_cases h:n∈ns
 .rw[decide_eq_true h,UK];exact#[.int n,NY h,show(n == n)=true from beq_self_eq_true n]
 .rw[decide_eq_false h,Q0];intro y g e;have(z,d,rfl):=NI.mp g;have:z=n:=Pq (show(z == n)=true from e);exact h (this▸d)
theorem jZ {xs:List Str}:nR (.str x) (xs.map V.str)=decide (x∈xs):=by
 unfold nR
 by_cases h:x∈xs
 .rw[decide_eq_true h,UK];exact#[.str x,NY h,show(x == x)=true from beq_self_eq_true x]
 .rw[decide_eq_false h,Q0];intro y g e;have(z,d,rfl):=NI.mp g;have:z=x:=Pq (show(z == x)=true from e);exact h (this▸d)
theorem qI (ns:List Int):(ns.map V.int).all ou=true:=by
 rw[NS];intro y d;have(z,_,rfl):=NI.mp d;rfl
theorem iM (xs:List Str):(xs.map V.str).all ou=true:=by
 rw[NS];intro y d;have(z,_,rfl):=NI.mp d;rfl
noncomputable def cH(d:List Str):List Str->Option Str
 | []=>none
 |x::r=>if x∈d then some x else cH (d++[x]) r
theorem xN {xs:List Str}(h:xs[i]?=some x):cH (xs.take i) (xs.drop i)=if x∈xs.take i then some x else cH (xs.take (i+1)) (xs.drop (i+1)):=by
 have d:=(bH.mp h).1;have g:xs.drop i=x::xs.drop (i+1):=by rw[NJ d,(bH.mp h).2]
 have e:xs.take (i+1)=xs.take i++[x]:=by rw[mu d,(bH.mp h).2]
 rw[g,e];rfl
theorem xO (h:nT K b H p xs)(s:aT H d):nT K b d p xs:=by
 cases b with
 |false=>exact s.seq (show bQ K H p xs from h)
 |true=>exact cP.same s (show cP K H p xs from h)
end G14
namespace L2
open PySem PySem.Spec PyProof.Rows
theorem rG {os:OsState}(F:ExcBaseFacts B newId initId bmB)(T:OwnTail h bmB bm)(hC:h.get? C=some (Qs nm q C N bs bm hdct sn sub ab col dd k0 k1 k2 k3 k5 newId))(hn:h.Ns N G)(hi:G "__init__"=some (.ref z))(hfI:h.get? z=some D)(hfc:D.cls=.type "function")(hq:∀h' e,Heap.MadeExcOf h h' e (.ref C) rest->h.objs.size<=e ->
   Nd (Nj prog w) A (call (.ref z) (.ref e::rest)) (λr s'=>r=.none/\Q (.done (.ret (.ref e))) s') E #[h',g,d,t,os])(hrest:rest.length<=mH):
  Nd (Nj prog w) A (QZ.«type.__call__» #[.ref C::rest,[]]) Q E #[h,g,d,t,os]:=by
 repeat (first|with_reducible refine Pa hC ?_|with_reducible refine wpAny_madeBy_exc hC ?_|wp_step)
 refine codeAny_call_builtin_code (Uj _ F.quiet) (wpAny_check_new_subT F T hC ?_);refine codeAny_exc_new_subT F T hC ?_ hrest;show Nd _ _ _ _ _ _;generalize ee:({cls:=.ref C,data:=.fields #[.ref h.objs.size,.none,.none,.none,.bool false,.none,]}:Obj)=oe;have kp:∀b o,h.get? b=some o->((h.push {cls:=.type "tuple",data:=.seq rest.toArray}).push oe).get? b=some o:=λb o e=>pC _ (pC _ e);have j:=kp _ _ hC;have l:=kp _ _ hfI;have p:=hn.keeps kp;have u:=T.keeps kp
 have m:((h.push {cls:=.type "tuple",data:=.seq rest.toArray}).push oe).get? (h.objs.size+1)=some oe:=by
  subst ee
  heap_get
 have v:oe.cls=.ref C:=by rw[<-ee]
 have y:(Value.ref C::bm).contains (.ref C)=true:=by simp
 unfold Ui
 repeat (first|(with_reducible refine Pa m ?_;rw[v])|(with_reducible refine QB j ?_;rw[y])|wp_step)
 show Nd _ _ (typeLookup (.ref C) _) _ _ _;refine wpAny_typeLookup_tail j p u F.mroIs F.init.lookup ?_;rw[hi];refine Ov (cB ?_);unfold bindSpecial;refine cB (RT (T:="function") #[_,l,hfc] ?_);rw[if_pos (by decide)];refine tF (cB (NG (hq _ (h.objs.size+1) #[kp,RA (OC _),h.objs.size,by rw[m,<-ee],RA (lj _),?_] (OC _)) (λr s' hr=>?_) λ_ _ x=>x))
 .exact pC _ (Ux rfl rfl)
 .have(rfl,H):=hr
  wp_walk
  exact H
theorem za {os:OsState}(F:ExcBaseFacts B newId initId bmB)(T:OwnTail h bmB bm)(hC:h.get? C=some (Qs nm q C N bs bm hdct sn sub ab col dd k0 k1 k2 k3 k5 newId))(hn:h.Ns N m)(hi:m "__init__"=some (.ref j))(hfI:h.get? j=some l)(hfc:l.cls=.type "function")(hq:∀h' e,Heap.MadeExcOf h h' e (.ref C) rest->h.objs.size<=e ->
   Nd (Nj prog w) (A.under (.builtin "type.__call__" #[.ref C::rest,[]])) (call (.ref j) (.ref e::rest)) (λr s'=>r=.none/\Q (.ref e) s') E #[h',g,d,t,os])(hrest:rest.length<=mH):
  Nd (Nj prog w) A (call (.ref C) rest) Q E #[h,g,d,t,os]:=by
 have y:=tc_lookup;have v:=tc_bind (.ref C);have u:(#[h,g,d,t,os]:fy).TypeIs (.ref C) "type":=#[_,hC,rfl];refine R3 (codeAny_of_tree ?_);show Nd _ _ (callAny (.ref C) _) _ _ _
 repeat (any_goals (first|assumption|with_reducible refine Pa hC ?_|wp_step))
 refine#[rfl,?_];exact codeAny_call_builtin_at (Uj _ (by decide)) entry_typeCall (wpAny_check_type_call_sub hC (rG F T hC hn hi hfI hfc (λh' e p o=>hq h' e p o) hrest))
end L2
namespace L2
open PySem PySem.Spec PyProof.Rows PySem.W
noncomputable abbrev iY:List eF:=[.type "ValueError",.type "Exception",.type "BaseException",.type "object"]
noncomputable def cJ:List eF->Bool
 |.ref _::r=>cJ r
 |l=>l == iY
theorem qW :cJ (.ref c::r)=cJ r:=rfl
theorem sZ (d:eF):∀{l:List eF},cJ l=true->refuseLoop d "__setattr__" l=pure Unit.unit
 |.ref c::r,e=>by rw[refuseLoop_ref];exact sZ d (by rw[qW]at e;exact e)
 | [],e=>by cases e
 |.type n::r,e=>by
  have g:(.type n::r:List eF)=iY:=by unfold cJ at e;exact beq_iff_eq.mp e
  rw[g];exact PySem.F.store_ValueError.passes d
 |.none::r,e=>by unfold cJ at e;cases e
 |.bool _::r,e=>by unfold cJ at e;cases e
 |.int _ _::r,e=>by unfold cJ at e;cases e
 |.str _ _::r,e=>by unfold cJ at e;cases e
 |.bytes _ _::r,e=>by unfold cJ at e;cases e
 |.float _ _::r,e=>by unfold cJ at e;cases e
 |.builtin _::r,e=>by unfold cJ at e;cases e
 |.ellipsis::r,e=>by unfold cJ at e;cases e
end L2
namespace L2
open PySem PySem.Spec PyProof.Rows PySem.W Builtin Builtin.ObjectAttr
theorem qX :∀{l:List eF},cJ l=true->l.contains (.type "object")=true/\l.isEmpty=false
 |.ref c::r,e=>by rw[qW]at e;rw[PD,(qX e).1,RU];exact#[rfl,rfl]
 | [],e=>by cases e
 |.type n::r,e=>by
  have d:(.type n::r:List eF)=iY:=by unfold cJ at e;exact beq_iff_eq.mp e
  rw[d];exact#[by decide,rfl]
 |.none::r,e=>by unfold cJ at e;cases e
 |.bool _::r,e=>by unfold cJ at e;cases e
 |.int _ _::r,e=>by unfold cJ at e;cases e
 |.str _ _::r,e=>by unfold cJ at e;cases e
 |.bytes _ _::r,e=>by unfold cJ at e;cases e
 |.float _ _::r,e=>by unfold cJ at e;cases e
 |.builtin _::r,e=>by unfold cJ at e;cases e
 |.ellipsis::r,e=>by unfold cJ at e;cases e
noncomputable def rN(K:Frag)(C:Addr):Bool:=(clsIn K C).any λd=>cJ d.mro&&d.hasDict
noncomputable def iy(w:Nn)(name:Str)(d:Tok)(v:eF):Obj:=Obj.putName name (Sd w.params name) (.str name d) v {cls:=.type "dict",data:=.dict #[]}
theorem qY (w:Nn)(name:Str)(d:Tok)(v:eF):∃n,(iy w name d v).data=.dict #[#[Sd w.params name,.str name d,v],] n/\(iy w name d v).cls=.type "dict"/\(iy w name d v).dict=none:=by
 refine#[1,?_,?_,?_]<;>rfl
theorem E2 {K:Frag}(X:K.In s.heap)(I:InstAt s.heap x ox C none)(hp:rN K C=true)(ht:Rg K C name=some none)(go:∀h',h'.get? x=some {ox with dict:=some s.heap.objs.size}->h'.get? s.heap.objs.size=some (iy w name s.toks v)->(∀b o,b≠x->s.heap.get? b=some o->h'.get? b=some o) ->
   s.heap.objs.size<h'.objs.size->R (.ok (.ret .none)) {s with heap:=h',toks:=s.toks+1}):
  OW (Nj prog w) A (.call (.builtin "object.__setattr__") #[[.ref x,.str name u,v],[]]) R s:=by
 have(j,g,d,t,Y):=s;dsimp only at X I go;have B:=PySem.F.store_object;have(cd,S,N):=any_some hp;have(Z,Q):=Bool.and_eq_true_iff.mp N;have q:=qX Z
 have M:Looks (Nj prog w) j (Ui (.ref x) (.type "object")) true :=
  I.type.andThen (looks_mroIn X (by unfold mroIn;rw[S,Pu,if_neg (by rw[q.2];decide),q.1]))
 have G:=@check_slot (Nj prog w) A.in1 (λe p=>R (.error e) p) #[j,g,d,t,Y] "object.__setattr__" "object" "__setattr__" (.ref x) [.str name u,v] [];refine codeAny_call_builtin B.slot.plain B.entry (G B.kind B.split M (B.args (.ref x) (.str name u) v) ?_);clear G;have(m,ha,hr):=Option.bind_eq_some_iff.mp ht;have hm:Looks (Nj prog w) j (mroOf (.ref C)) cd.mro:=(looks_clsIn X S).andThen .now
 have J:Looks (Nj prog w) j (storeTaker? m) none:=by
  match m,hr with
  |none,_=>exact .now
  |some a,hr =>
   have(b,T,e):=we.mp hr;refine(looks_takesIn X T).andThen ?_
   cases b
   .exact .now
   .cases e
 rw[osa_eq,refuse_eq];refine cB (cB (I.type.here (cB (hm.here ?_))));rw[sZ _ Z];refine tF (cB (I.type.here (cB ((Uy X ha).here (cB (J.here ?_))))));have(H,D,hn,z):=I;have(oc,L,r,aa):=ox;dsimp only at D z;subst D
 cases L with
 |some _=>exact z.elim
 |none =>
 refine cB (tF (cB (cB (R1 H (cB ((looks_clsIn X S).here ?_))))));rw[Q];have nc:∀c,r≠.cls c:=by intro c e;rw[e]at hn;cases hn
 generalize eD:({cls:=.type "dict",data:=.dict #[]}:Obj)=oD;have W:=pC oD H;have V:x≠j.objs.size:=ND (Na H)
 have fin:Nd (Nj prog w) A.in1 (alloc oD>>=λdx=>(update x λo=>{o with dict:=some dx})>>=λ_=>pure (some dx)) (λod y =>
   Nd (Nj prog w) A.in1 (match od with|some d=>storeInDict d (.str name u) name v|none=>noDictFor (.ref x) (.ref C) name m.isSome)
    (λfin p=>match fin with|.done f=>R (.ok f) p|.again c'=>c'.quiet=true/\OW (Nj prog w) A c' R p) (λe p=>R (.error e) p) y) (λe p=>R (.error e) p) #[j,g,d,t,Y]:=by
  refine cB (wpAny_alloc' ?_);refine cB (wpAny_update' W ?_);refine tF ?_
  have l:((j.push oD).update x λo=>{o with dict:=some j.objs.size}).get? j.objs.size=some oD :=
   (QC _ _ _ _ V.symm).trans (Ux rfl (by rw[<-eD];rfl))
  show Nd _ _ (storeInDict j.objs.size (.str name u) name v) _ _ _;refine cB (tF (cB ?_));unfold nsSet;refine cB (cB (wpAny_askSetting (tF (cB (Uz (cB (R1 l ?_)))))));rw[<-eD]at l|-;dsimp only;rw[aRefKeyMayBeTheName_at];rw[if_neg (by simp)];refine wpAny_updatePart' l ?_;generalize eU:((j.push {cls:=.type "dict",data:=.dict #[]}).update x λo=>{o with dict:=some j.objs.size})=h2;rw[eU]at l;have hf:(iy w name t v).isFreed=false:=rfl;have U:(h2.update j.objs.size (Obj.putName name (Sd w.params name) (.str name t) v)).get? j.objs.size=some (iy w name t v):=OR _ l hf;obtain⟨n,q1,-,-⟩:=qY w name t v;refine cB (wpAny_lookBehind U (by rw[q1];exact pastItsLine_dict (by rw[Qo];exact Nat.le_add_left 1 _)) ?_);refine tF (go _ ?_ U ?_ ?_)
  .refine(QC _ _ _ _ V).trans ?_;rw[<-eU,eD];refine OR _ W ?_;have O:=(Heap.get?_some_iff.mp H).2
   cases r<;>first|rfl|exact O
  .intro b o T e;refine(QC _ _ _ _ (ND (Na e))).trans ?_;rw[<-eU,eD];exact(QC _ _ _ _ T).trans (pC _ e)
  .exact Na U
 cases r with
 |cls c=>exact absurd rfl (nc c)
 |_=>exact fin
theorem E3 {K:Frag}(X:K.In s.heap)(I:InstAt s.heap x ox C none)(d:rN K C=true)(ht:Rg K C name=some none)(hs:Of K (.ref C) "__setattr__"=some (some (.builtin "object.__setattr__")))(go:∀h',h'.get? x=some {ox with dict:=some s.heap.objs.size}->h'.get? s.heap.objs.size=some (iy w name (s.toks+1) v)->(∀b o,b≠x->s.heap.get? b=some o->h'.get? b=some o) ->
   s.heap.objs.size<h'.objs.size->Q Unit.unit {s with heap:=h',toks:=s.toks+1+1}):
  Nd (Nj prog w) A (setAttr (.ref x) name v) Q E s :=
 set_plain X I hs (E2 (s:={s with toks:=s.toks+1}) X I d ht go)
end L2
namespace L2
open PySem PySem.Spec PyProof.Rows PySem.W
noncomputable def tu(C ta:Addr)(od:Option Addr):Obj:={cls:=.ref C,dict:=od,data:=.fields #[.ref ta,.none,.none,.none,.bool false,.none,]}
def iq(x C:Addr)(od:Option Addr):Heap->Prop:=λh=>∃d,h.get? x=some (tu C d od)
theorem CD (e:iq x C od h):eM P w H h x (.ext (iq x C od)) :=
 #[e,e.elim λ_ q=>#[_,q],λ_ _ ⟨d,q⟩ k=>#[d,k _ q]]
structure E4(K:Frag) (C f:Addr):Prop where
 cls:∀h,K.In h->∃nm q N bs bm hdct sn sub ab col dd k0 k1 k2 k3 k5 mN oI,h.get? C=some (Qs nm q C N bs bm hdct sn sub ab col dd k0 k1 k2 k3 k5 "ValueError.__new__") /\
  h.Ns N mN/\mN "__init__"=some (.ref f)/\OwnTail h iY bm/\h.get? f=some oI/\oI.cls=.type "function"
 kp:Pd K (.ref C)=true
structure wc(K:Frag) (C:Addr) (n:Str):Prop where
 over:rN K C=true
 sa:Of K (.ref C) "__setattr__"=some (some (.builtin "object.__setattr__"))
 no:Rg K C n=some none
def LB(K:Frag)(ta j:TE)(f:Str):TS:=λD e H=>j e H λy l=>ta e l λx g=>∃a C,x=.ref a/\g a=some (.ext (iq a C none))/\wc K C f /\
 ∀d,g d=none->d≠a->D.nx e (upd (upd g d (.xd [(f,y)])) a (.ext (iq a C (some d))))
theorem Ij {h:Heap}(e:h.get? g=some (iy w n d v)):h.Ns1 g λy=>if y=n then some v else none:=by
 obtain⟨c,q1,-,-⟩:=qY w n d v;refine#[_,_,c,e,q1,?_,?_,?_]
 .intro a l;have z:a=#[Sd w.params n,.str n d,v]:=by simpa using l
  rw[z];exact#[n,d,rfl]
 .exact QT _ _
 .intro y;show _=if y=n then some v else none
  by_cases q:y=n
  .subst q;rw[if_pos rfl];simp[UC,findBy,Value.isStr]
  .rw[if_neg q];have j:(n == y)=false:=beq_false_of_ne λz=>q z.symm;simp[UC,findBy,Value.isStr,j]
theorem A7 (I:Inv X d l H s)(e:H a=some (.ext (iq a C none)))(c:wc X.K C n)(v:RelV y u)(go:∀g s',H g=none->g≠a->Inv X d l (upd (upd H g (.xd [(n,y)])) a (.ext (iq a C (some g)))) s'->Q Unit.unit s'):Nd (Nj X.prog X.w) A (setAttr (.ref a) n u) Q E s:=by
 obtain⟨⟨ta,j⟩,-,-⟩:=I.hok a _ e;refine E3 (ox:=tu C ta none) I.rY #[j,rfl,rfl,trivial] c.over c.no c.sa λh' r hd D L=>go s.heap.objs.size _ (I.hok.fresh (lj _)) (QX (Na j)) ?_;have fr:=Nh s.heap (o:=iy X.w n (s.toks+1) u) rfl
 have J:=I.laid (a:=s.heap.objs.size) (o:=.xd [(n,y)]) (t':=s.toks) (h':=s.heap.push (iy X.w n (s.toks+1) u)) (λb o q=>pC _ q) (lj _) #[_,Ij fr,λz=>by
  by_cases q:z=n
  .subst q;rw[if_pos rfl,NP,beq_self_eq_true];exact v
  .rw[if_neg q,NP,beq_false_of_ne q];exact True.intro]
 have B:a≠s.heap.objs.size:=ND (Na j);refine J.write (x:=a) (e:=a) (t':=s.toks+1+1) (by rw[au B,e];exact True.intro) (.inl rfl) (λb o G q=>?_) #[_,r] (CD #[ta,r]);rcases Heap.get?_push_cases q with⟨rfl,rfl⟩|q
 .exact hd
 .exact D b o G q
theorem zb (O:PE X o ta)(M:PE X d v)(hs:Rq d (some (.Attribute o n g)) pos.line X.env=pure false:=by rfl):PS X (.Assign [.Attribute o n g] d pos) (LB X.K ta v n):=by
 intro j s l H D I h;refine Rh (cR (M j s l H _ I h) λu z ⟨y,V,U,B,q⟩=>cR (O j z l V _ U q) λL Y ⟨x,Z,T,G,a,C,ex,Q,c,J⟩=>?_) hs;subst ex;obtain rfl:L=Value.ref a:=G;exact A7 T Q c B λR W N r S=>#[l,_,S,J R N r]
end L2
namespace L2
open PySem PySem.Spec PyProof.Rows PySem.W Builtin Builtin.ObjectAttr
structure zc(K:Frag) (C:Addr):Prop where
 ga:Of K (.ref C) "__getattribute__"=some (some (.builtin "BaseException.__getattribute__"))
 gn:Of K (.ref C) "__getattr__"=some none
 mro:mroIn K C (.type "BaseException")=some true
theorem A8 {K:Frag}(X:K.In s.heap)(I:InstAt s.heap x ox C od)(G:zc K C)(l:Q Unit.unit s):Nd M A (checkBuiltinCall "BaseException.__getattribute__" #[[.ref x,d],[]]) Q E s:=by
 have m:builtinKind "BaseException.__getattribute__"=some .slot:=by decide
 have e:splitId "BaseException.__getattribute__"=some ("BaseException","__getattribute__"):=by decide
 have g:Looks M s.heap (Ui (.ref x) (.type "BaseException")) true:=I.type.andThen (looks_mroIn X G.mro);have o:=PySem.F.args_bexc_ga (.ref x) d;have j:=@check_slot M A E s "BaseException.__getattribute__" "BaseException" "__getattribute__" (.ref x) [d] [] Q;exact j m e g o l
theorem CF {K:Frag}{fill:Bool}(X:K.In s.heap)(I:InstAt s.heap x ox C od)(G:zc K C)(h:Nd (Nj prog w) A.in1 (QZ.«object.__getattribute__» #[[.ref x,.str name o],[]]) (λfin s'=>match fin with
   |.done (.ret v)=>Nd (Nj prog w) A (handedOut v) Q E s'
   |.again c=>c.quiet=true/\OW (Nj prog w) A c (λr j=>match r with|.ok (.ret v)=>Nd (Nj prog w) A (handedOut v) Q E j|_=>False) s'
   |_=>False) (λ_ _=>False) s):Nd (Nj prog w) A (getAttrBy (.ref x) (.str name o) fill expr) Q E s:=by
 have y:=I.type (M:=Nj prog w);have u:=Uy (M:=Nj prog w) X G.ga;have L2:=Uy (M:=Nj prog w) X G.gn;have p:=SW.ga.bind (.ref x);have m:(expr&&onTheHeap (Value.builtin "BaseException.__getattribute__"))=false:=by cases expr<;>rfl
 have l:(Value.builtin "BaseException.__getattribute__" == Value.builtin "object.__getattribute__")=false:=by decide
 have(D,g,d,t,B):=s;unfold getAttrBy;refine Ov (cB (y.at (cB (u.at ?_))));dsimp only;rw[l,Tt,if_neg (by decide)];unfold getAttrByItsOwn hookBefore;refine cB ?_;rw[show onTheHeap (Value.ref C)=true from rfl,if_pos rfl];refine L2.at (cB (SG (Ov ?_)));unfold callGetattribute;rw[m,if_neg (by decide)];unfold boundAndCalled;refine cB (wpAny_of_eq p ?_);refine R3 (codeAny_call_builtin SW.ga.plain PySem.F.entry_bexc_ga (A8 X I G ?_));refine NG h (λfin s' z=>?_) λ_ _ z=>z.elim;rcases fin with(_|_|_|_)|c
 case again=>
  refine#[z.1,Qt z.2 λr j q=>?_];rcases r with e|(_|_|_|_)<;>first|exact q|exact q.elim
 all_goals first|exact z|exact z.elim
theorem A9 {K:Frag}(X:K.In s.heap)(I:InstAt s.heap x ox C od)(G:zc K C)(l:findObj K C od name=some (.value v))(j:handedIn v=true)(h:Q v {s with toks:=s.toks+1}):
  Nd (Nj prog w) A (UR (.ref x) name expr) Q E s:=by
 unfold UR;refine cB (Uz ?_);refine CF (s:={s with toks:=s.toks+1}) X I G ?_;have(e,g,d,t,p):=s;have o:=I.type (M:=Nj prog w);have m:=looks_find (M:=Nj prog w) X I l;refine cB (tF (cB (tF (cB (o.at (cB (m.at ?_)))))));refine tF ?_;show Nd _ _ (handedOut v) _ _ _;rw[handedOut_of j];exact tF h
theorem Ba {K:Frag}(X:K.In s.heap)(I:InstAt s.heap x ox C od)(G:zc K C)(m:findObj K C od "__class__"=some (.bind (.builtin "getset_descriptor.__get__") (.builtin "object.__class__")))(l:mroIn K C (.type "object")=some true)(h:Q (some (.ref C)) {s with toks:=s.toks+1}):Nd (Nj prog w) A (getAttr? (.ref x) "__class__") Q E s:=by
 unfold getAttr? getAttrBy?;refine cB (Uz (cB (SG ?_)));refine CF (s:={s with toks:=s.toks+1}) X I G ?_;have(e,g,d,t,j):=s;have q:InstAt (#[e,g,d,t+1,j]:fy).heap x ox C od:=I;have p:=I.type (M:=Nj prog w);have o:=looks_find (M:=Nj prog w) X I m;refine cB (tF (cB (tF (cB (p.at (cB (o.at ?_)))))));show Nd _ _ (Sj [_] (call (.builtin "getset_descriptor.__get__") [.builtin "object.__class__",.ref x,.ref C])>>=ret) _ _ _;refine cB (Ov (R3 (class_get (s:=#[e,g,d,t+1,j]) X q l ?_)));refine tF ?_;refine handed_on rfl ?_;exact tF h
end L2
namespace L2
open PySem PySem.Spec PyProof.Rows PySem.W PySem.Calls
structure Bb(K:Frag) (C:Addr):Prop where
 hg:zc K C
 hd:P9 K C=true
 ha:Of K (.ref C) "__class__"=some (some (.builtin "object.__class__"))
 hn:specialIn K (.builtin "object.__class__") "__get__"=some (some (.builtin "getset_descriptor.__get__"))
 tk:takesIn K (.builtin "object.__class__")=some true
 hm:mroIn K C (.type "object")=some true
def GP(x C:Addr)(h:Heap):Prop:=∃d e,InstAt h x d C e
theorem wg {K:Frag}(G:Bb K C):KitX K (.ref x) (.ref C) (GP x C) where
 ty:=λ_ _ _ ⟨_,_,I⟩=>I.type
 it:=λ_ _ X _=>by
  obtain⟨m,d,-⟩:=any_some G.hd;unfold clsIn at d
  split at d
  .rename_i t r l e j
   intro D z B v k q;unfold isType loadHead;exact cB (R1 (k _ _ (X _ _ j)) (tF q))
  .cases d
 ne:=λh tp y o n u X g=>by
  obtain⟨m,d,-⟩:=any_some G.hd;refine Bool.eq_false_iff.mpr λq=>?_;obtain rfl:C=tp:=Value.ref.inj (beq_iff_eq.mp q);unfold clsIn at d
  split at d
  .rename_i t r l e j
   cases(X _ _ j).symm.trans g
  .cases d
 ca:=λ{prog w A E Q s} X ⟨ox,od,I⟩ go=>by
  have p:findObj K C od "__class__"=some (.bind (.builtin "getset_descriptor.__get__") (.builtin "object.__class__")):=by
   obtain⟨m,d,-⟩:=any_some G.hd;unfold findObj;rw[d,Pu,G.ha,Pu];dsimp only;rw[G.hn,Pu];dsimp only;rw[G.tk,Pu]
  exact Ba X I G.hg p G.hm go
theorem uY :∀{ds:List Addr}{us:List eF},Vals (ds.map V.ref) us->us=ds.map Value.ref
 | [],us,r=>by cases r;rfl
 |d::ds,us,r=>by
  cases r with
  |cons a b =>
   have z:=uY b;subst z;exact congrArg (·::_) a
structure Ik(K:Frag) (C:Addr) (n:Str):Prop where
 hg:zc K C
 hd:P9 K C=true
 no:∃attr,Of K (.ref C) n=some attr/\noGet K attr=true
end L2
namespace L2
open PySem PySem.Spec PyProof.Rows
theorem Bc (o:Obj)(g):(o.mapFields g).dict=o.dict:=by
 have(c,d,e,j):=o
 cases e<;>rfl
structure Fl(H:Hp) (h:Heap) (n:Nat) (x C:Addr) (od:Option Addr) (fl:eF):Prop where
 ob:∃oe vs,h.get? x=some oe/\oe.cls=.ref C/\oe.dict=od/\oe.data=.fields vs/\1<vs.size /\
  ((vs[1]?=some .none/\fl=.none)\/∃T oT ts,vs[1]?=some (.ref T)/\T≠x/\n<=T/\H T=none/\h.get? T=some oT/\oT.data=.fields ts/\ts[3]?=some fl)
 nx:n<=x
 hx:H x=none
structure Rest(fs ch:List Addr) (h h':Heap):Prop where
 keep:∀b o,b∉ch->b∉fs->h.get? b=some o->h'.get? b=some o
 slot:∀b o,b∉ch->h.get? b=some o->∃sl,h'.get? b=some {o with slots:=sl}
 sz:h.objs.size<=h'.objs.size
theorem Rest.trans (a:Rest fs ch h l)(b:Rest fs ch l j):Rest fs ch h j :=
 #[λc o d g e=>b.keep c o d g (a.keep c o d g e),λc o d e=>by
  have(r,q):=a.slot c o d e;have(m,p):=b.slot c _ d q;exact#[m,p],Nz a.sz b.sz]
theorem tG :Rest fs [a] h (h.update a g):=by
 have k:∀b o,b∉([a]:List Addr)->h.get? b=some o->(h.update a g).get? b=some o:=λb o n e=>by
  rw[Oz _ _ (λz=>n (by rw[z];exact EF.mpr rfl))];exact e
 refine#[λb o n _ e=>k b o n e,λb o n e=>#[o.slots,k b o n e],?_];rw[Heap.size_update];exact lj _
theorem uZ {A:Nx}(hfr:A.frames=some (d::outer))(hl:s.heap.FunFrames base (d::outer))(hf:d.frame=some L)(hxf:x∉frs (d::outer))(he:s.heap.get? x=some p)(hd:p.data=.fields vs)(hsz:1<vs.size)(go:∀(h':Heap) (T:Addr) (l g:Obj) (m:Array eF),Rest (frs (d::outer)) [x] s.heap h'->s.heap.objs.size<=T->h'.get? x=some l->l.cls=p.cls->l.dict=p.dict->l.data=.fields (vs.setIfInBounds 1 (.ref T)) ->
   h'.get? T=some g->g.data=.fields m->m[3]?=some (Qh L)->Q Unit.unit {s with heap:=h'}):
  Nd M A (do let a ←frameOf d;let pl ←entryPlaceOf L B;let b ←T3 head a .none (Qh L) .none pl;setField (.ref x) 1 b) Q E s:=by
 refine cB (wpAny_frameOf_fun hfr hl hf λj t=>?_);refine cB (wpAny_entryPlaceOf λpl y=>?_);unfold T3 newFields;refine cB (NX ?_ (y.sizeOk5 _ _ _ _ _));generalize hO:({cls:=.type "traceback",dict:=none,data:=.fields ([head,.ref L,.none,Qh L,.none]++(if pl.isEmpty then Ng 6 Value.none else pl)).toArray}:Obj)=g
 have D:∃m,g.data=.fields m/\m[3]?=some (Qh L):=by
  subst hO;exact#[_,rfl,by simp]
 have C:g.isFreed=false:=by subst hO;rfl
 have(m,z,v):=D;have r:j.get? x=some p:=(t.2.1 x hxf).trans he;have KZ:(j.push g).get? x=some p:=pC g r;refine Rb KZ hd hsz ?_;have u:j.objs.size≠x:=QX (Na r);have G:=QL hd (·.setIfInBounds 1 (Value.ref j.objs.size));have O:=OR (P1 (·.setIfInBounds 1 (Value.ref j.objs.size))) KZ (Rm G)
 have N:((j.push g).update x (P1 (·.setIfInBounds 1 (Value.ref j.objs.size)))).get? j.objs.size=some g:=by
  rw[Oz _ _ (PR u)];exact Nh j C
 have I:Rest (frs (d::outer)) [x] s.heap (j.push g):=by
  refine#[λb o _ J e=>pC g ((t.2.1 b J).trans e),λb o _ e=>?_,?_]
  .have(H,q):=t.2.2 b o e;exact#[H,pC g q]
  .rw[Oh,t.1];exact OC _
 exact go _ _ _ _ m (I.trans tG) (Uq t.1.symm) O (Uw _ _) (Bc _ _) G N z v
theorem Inv.rest (I:Inv X pins σ H s)(r:Rest (frs X.stack) ch s.heap h')(g:∀b∈ch,H b=none/\X.s₀.heap.objs.size<=b/\b≠X.env.locals/\(∀x c,X.env.cells.lookup x=some c->c≠b)/\∀p∈X.pn++pins,p.1≠b):Inv X pins σ H {s with heap:=h'}:=by
 have j:∀b u,H b=some u->b∉ch/\b∉frs X.stack:=λb u e=>#[λz=>by(rw[(g b z).1]at e;cases e),λz=>by(rw[I.vF b z]at e;cases e)]
 have u:Un (frs X.stack) ch H H s.heap h':={
  keep:=λb o e _ t d=>r.keep b o d t e
  slot:=λb o e _ _ d=>r.slot b o d e
  free:=λ_ _ _ n _=>n
  there:=λb o e d=>(r.slot b o d e).elim λ_ q=>#[_,q]
  tups:=λ_ _ e=>e
  frzs:=λ_ _ _ e=>e
  tbls:=λ_ B e=>#[#[],by rw[e];simp]}
 have m:mL X.prog X.w H h':=λb u e=>by
  refine(I.hok b u e).stay (λc v y q=>?_) (λ_ q=>q) λ_ _ q=>q;rcases y with z|z
  .rw[z]at q|-;exact r.keep _ _ (j b u e).1 (j b u e).2 q
  .exact r.keep _ _ (j c _ z).1 (j c _ z).2 q
 exact I.call (g':=s.gens) (t':=s.toks) (d':=s.drawn) (ch:=ch) u m I.bare λb l=>#[.inr (g b l).2.1,(g b l).2.2.1,(g b l).2.2.2.1,(g b l).2.2.2.2]
theorem Inv.wj (I:Inv X pins σ H s)(e:s.heap.get? a=some o)(d:o.data=.fields vs):a≠X.env.locals/\(∀x c,X.env.cells.lookup x=some c->c≠a)/\a∉frs X.stack:=by
 refine#[λz=>?_,λx c p z=>?_,λz=>?_]
 .have(m,(j,q,r,g,hd,_),_):=I.loc;rw[<-z,e]at g
  cases g
  rw[d]at hd
  cases hd
 .have(v,j,g,hd):=I.cell x c p;rw[z,e]at g
  cases g
  rw[d]at hd
  cases hd
 .have(_,j,g,l):=I.stack.mem z;rw[e]at g
  cases g
  exact l vs d
theorem wm (I:Inv X [] σ H s)(S:X.pn=[])(e:X.stack=X.env::X.outer)(V:X.env.frame=some X.env.locals)(F:Fl H s.heap X.s₀.heap.objs.size x C od Y)(go:∀s',s'.os=s.os->Inv X [] σ H s'->Fl H s'.heap X.s₀.heap.objs.size x C od (Qh X.env.locals)->Q Unit.unit s'):Nd (Nj X.prog X.w) X.A (TV (.ref x) X.env) Q E s:=by
 have((z,vs,u,J,G,hd,j,hh),O,R):=F;have D:X.A.frames=some (X.env::X.outer):=by rw[<-e];exact I.ok.frames
 have B:∀(a:Addr),∀p∈X.pn++[],p.1≠a:=λa p hp=>by rw[S]at hp;cases hp
 have(n1,n2,n3):=I.wj u hd
 have Z:∀b∈[x],H b=none/\X.s₀.heap.objs.size<=b/\b≠X.env.locals/\(∀y c,X.env.cells.lookup y=some c->c≠b)/\∀p∈X.pn++[],p.1≠b:=λb W=>by
  rw[EF.mp W];exact#[R,O,n1,n2,B x]
 have fin:∀(t:fy),t.os=s.os->Inv X [] σ H t->∀(l:Heap) (T:Addr) (d o:Obj) (m:Array eF),Rest (frs (X.env::X.outer)) [x] t.heap l->t.heap.objs.size<=T->l.get? x=some d->d.cls=z.cls->d.dict=z.dict->d.data=.fields (vs.setIfInBounds 1 (.ref T)) ->
   t.heap.get? x=some z->l.get? T=some o->o.data=.fields m->m[3]?=some (Qh X.env.locals)->Q Unit.unit {t with heap:=l}:=λt U v l T d o m r q e1 e2 e3 e4 ex e5 e6 e7=>by
  rw[<-e]at r;refine go _ U (v.rest r Z) #[#[d,_,e1,e2.trans J,e3.trans G,e4,?_,.inr #[T,o,m,?_,?_,?_,v.hok.fresh q,e5,e6,e7]],O,R]
  .rw[Array.size_setIfInBounds];exact j
  .rw[Qm j]
  .exact QX (Ni (Na ex) q)
  .exact Nz v.sz q
 unfold TV;simp only[V];rcases hh with⟨h1,rfl⟩|⟨T,o,m,h1,hTx,hTn,hTH,q,hdT,h3⟩
 .refine cB (NZ u hd h1 ?_);rw[if_neg (by decide)];exact uZ D (by rw[<-e];exact I.stack) V (by rw[<-e];exact n3) u hd j λl T d o m r a1 a2 a3 a4 a5 a6 a7 a8=>fin s rfl I l T d o m r a1 a2 a3 a4 a5 u a6 a7 a8
 .refine cB (NZ u hd h1 ?_);rw[if_pos (show(Value.ref T != Value.none)=true from by simp)];refine cB (NZ q hdT h3 ?_);have(t1,t2,t3):=I.wj q hdT
  by_cases c:(Y == Qh X.env.locals)=true
  .rw[if_pos c];have ef:Y=Qh X.env.locals:=Pq c;subst ef;exact tF (go s rfl I #[#[z,vs,u,J,G,hd,j,.inr #[T,o,m,h1,hTx,hTn,hTH,q,hdT,h3]],O,R])
  .rw[if_neg c];refine cB (Rb q hdT (Se.mp h3).1 ?_)
   have v:=I.rest (tG (fs:=frs X.stack) (a:=T) (g:=P1 (·.setIfInBounds 3 Value.none))) λb W=>by
    rw[EF.mp W];exact#[hTH,hTn,t1,t2,B T]
   have L:(s.heap.update T (P1 (·.setIfInBounds 3 Value.none))).get? x=some z:=by rw[Oz _ _ hTx];exact u
   exact uZ D (by rw[<-e];exact v.stack) V (by rw[<-e];exact n3) L hd j λl T2 d N M r a1 a2 a3 a4 a5 a6 a7 a8=>fin {s with heap:=s.heap.update T (P1 (·.setIfInBounds 3 Value.none))} rfl v l T2 d N M r a1 a2 a3 a4 a5 L a6 a7 a8
theorem nU (I:Inv X [] σ H s)(o:X.pn=[])(F:Fl H s.heap X.s₀.heap.objs.size x C od G)(go:∀s' q,s'.os=s.os->Inv X [] σ H s'->Fl H s'.heap X.s₀.heap.objs.size x C od q->Q Unit.unit s'):Nd (Nj X.prog X.w) X.A (setFlight (.ref x) fr) Q E s:=by
 have((m,t,l,j,e,hd,d,B),u,v):=F;unfold setFlight;rcases B with⟨h1,rfl⟩|⟨T,oT,ts,h1,hTx,hTn,hTH,hT,hdT,h3⟩
 .refine cB (NZ l hd h1 ?_);rw[if_neg (by decide)];exact tF (go s .none rfl I #[#[m,t,l,j,e,hd,d,.inl #[h1,rfl]],u,v])
 .refine cB (NZ l hd h1 ?_);rw[if_pos (show(Value.ref T != Value.none)=true from by simp)];have(t1,t2,t3):=I.wj hT hdT;have l3:=(Se.mp h3).1;refine Rb hT hdT l3 ?_;generalize fr.elim Value.none (λf=>Qh f)=w
  have L:=I.rest (tG (fs:=frs X.stack) (a:=T) (g:=P1 (·.setIfInBounds 3 w))) λb D=>by
   rw[EF.mp D];exact#[hTH,hTn,t1,t2,λp y=>by(rw[o]at y;cases y)]
  have z:=QL hdT (·.setIfInBounds 3 w);have r:(s.heap.update T (P1 (·.setIfInBounds 3 w))).get? x=some m:=by rw[Oz _ _ hTx];exact l
  have J:=OR (P1 (·.setIfInBounds 3 w)) hT (Rm z);exact go _ w rfl L #[#[m,t,r,j,e,hd,d,.inr #[T,_,_,h1,hTx,hTn,hTH,J,z,by rw[Qm l3]]],u,v]
def xP(P:IF)(w:Nn):wU:=λouter H s E e d=>∃(x C:Addr) (j:Option Addr) (l:eF) (g:Hp),e=.ref x/\d.os=s.os/\RS d.gens/\Un (frs outer) [] H g s.heap d.heap/\mL P w g d.heap/\Fl g d.heap s.heap.objs.size x C j l/\E (.ref C) j g
def GQ(X:Cx)(E:XK):eF->fy->Prop:=λe g=>∃(x C:Addr) (j:Option Addr) (m:eF) (l:St) (d:Hp),e=.ref x/\Inv X [] l d g/\Fl d g.heap X.s₀.heap.objs.size x C j m/\E (.ref C) j d
theorem Fl.young (f:Fl H h n x C od l)(j:m<=n):Fl H h m x C od l:=by
 have((p,o,u,g,e,hd,d,t),q,r):=f;refine#[#[p,o,u,g,e,hd,d,?_],Nz j q,r];rcases t with h|⟨T,oT,ts,h1,h2,h3,h4⟩
 .exact .inl h
 .exact .inr #[T,oT,ts,h1,h2,Nz j h3,h4]
theorem qP.Il {X:Cx}{st:List Stmt}(k:∀e s,W e s->m e s)(h:qP (X.jt W) st t):qP (X.jt m) st t:=λl s o H D I p =>
 NG (h l s o H D (I.fF.jt _) p) (λf y q=>by
  cases f with
  |next=>have(d,j,g,q):=q;exact#[d,j,g.fF.jt _,q]
  |brk=>have(d,j,g,q):=q;exact#[d,j,g.fF.jt _,q]
  |cont=>have(d,j,g,q):=q;exact#[d,j,g.fF.jt _,q]
  |ret u=>have(v,d,j,g,r,q):=q;exact#[v,d,j,g.fF.jt _,r,q]) k
theorem jy {X:Cx}:Passes (xP X.prog X.w) (X.jt (GQ X E)) E:=by
 intro r o H s e v I h;have(x,C,B,J,L,rfl,y,j,un,m,F,q):=h;have u:Inv X [] o H s:=I.fF.fu λp D=>nomatch D
 have(G,g,d,t,l):=v;obtain rfl:l=s.os:=y;exact#[x,C,B,J,o,L,rfl,u.call (h':=G) (g':=g) (d':=d) (t':=t) (ch:=[]) un m j (λb z=>nomatch z),F.young u.sz,q]
theorem iZ (d:X.pn=[])(g:X.stack=X.env::X.outer)(t:X.env.frame=some X.env.locals):PassesOwn (Nj X.prog X.w) X.A X.env (GQ X E):=by
 intro e N h;have(x,C,o,S,m,G,rfl,I,F,q):=h;show Nd _ _ (TV _ _) _ _ _;refine wm I d g t F λM R D l=>?_;show Nd _ _ _ _ _ _;have(O,J,u,y,v,hd,p,r):=id l.ob;rcases r with⟨h1,z⟩|⟨T,oT,ts,h1,_⟩
 .exact absurd z (by unfold Qh;intro z;cases z)
 .refine cB (NZ u hd h1 ?_);rw[if_neg (by simp)];exact nU D d l λL j Q B H=>#[x,C,o,j,m,G,rfl,B,H,q]
theorem Im {K:bN}(h:GQ (vI (xP P w) P w K mg base N d scope f l A outer s H E) E e s'):(vI (xP P w) P w K mg base N d scope f l A outer s H E).xe e s':=by
 have(x,C,m,D,u,p,rfl,I,F,q):=h;show Nd _ _ (leaving _ _) _ _ _;unfold leaving;refine cB (wm I rfl rfl rfl F λy B o t=>?_);refine nU o rfl t λv j z g r=>?_;exact#[x,C,m,j,p,rfl,g.os,g.bare,g.base,g.hok,r,q]
end L2
namespace L2
open PySem PySem.Spec PyProof.Rows PySem.W
noncomputable def BU(x:Addr)(H:Hp):Hp:=λb=>if b=x then none else H b
theorem xQ :BU x H x=none:=by unfold BU;rw[if_pos rfl]
theorem nu (n:b≠x):BU x H b=H b:=by unfold BU;rw[if_neg n]
theorem qb (e:H b=none):BU x H b=none:=by
 unfold BU
 split
 .rfl
 .exact e
theorem Inv.BU (I:Inv X pins σ H s)(t:H x=some (.ext φ))(hn:X.s₀.heap.objs.size<=x):Inv X pins σ (L2.BU x H) s:=by
 have d:∀b u,H b=some u->(∀j,u≠.ext j)->b≠x:=λb u e n z=>by
  rw[z,t]at e
  cases e
  exact n φ rfl
 have r:∀b o,X.s₀.heap.get? b=some o->b≠x:=λb o e z=>Om _ (Ni (Na e) (by rw[z];exact hn));refine#[I.ok,I.os,I.bare,#[I.base.keep,I.base.slot,λb o e n B=>?_,I.base.there,λb g e=>?_,λb o u e=>?_,λb l e=>?_],I.loc,I.cell,qb I.free,λy c h=>qb (I.freeC y c h),λp v=>?_,λb u e=>?_,I.len]
 .exact qb (I.base.free b o e n B)
 .have q:=I.base.tups b g e;rw[nu (d b _ q (λ_ z=>nomatch z))]
  exact q
 .have q:=I.base.frzs b o u e;rw[nu (d b _ q (λ_ z=>nomatch z))]
  exact q
 .have(m,q):=I.base.tbls b l e;exact#[m,by rw[nu (d b _ q (λ_ z=>nomatch z))];exact q]
 .have(J,G,D):=I.pin p v;exact#[J,qb G,D]
 .have C:b≠x:=λz=>by(rw[z,xQ]at e;cases e)
  rw[nu C]at e;exact(I.hok b u e).stay (λ_ _ _ q=>q) (λc q=>by rw[nu (d c _ q (λ_ z=>nomatch z))];exact q) λc g q=>by rw[nu (d c _ q (λ_ z=>nomatch z))];exact q
structure zd(K:Frag) (C:Addr):Prop where
 cls:∀h,K.In h->∃nm q N bs bm hdct sn sub ab col dd k0 k1 k2 k3 k5 nw,h.get? C=some (Qs nm q C N bs bm hdct sn sub ab col dd k0 k1 k2 k3 k5 nw)/\bm.contains (.type "BaseException")=true
theorem Bd (J:A.handled=none)(go:Nd M A y (λv e=>∃x C ta od p q N bs j d m sub I g H k0 B u t r o,v=.ref x/\e.heap.get? C=some (Qs p q C N bs j d m sub I g H k0 B u t r o)/\j.contains (.type "BaseException")=true/\e.heap.get? x=some (tu C ta od)/\E (.ref x) e) E s):
  Nd M A (raiseStmt l (some y) none) Q E s:=by
 unfold raiseStmt;refine cB (NG go (λv e q1=>?_) λ_ _ z=>z);have(x,C,ta,od,p,q,N,bs,j,d,m,sub,I,g,H,k0,B,u,t,r,o,rfl,G,L,D,O):=q1;have R:(Value.ref C::j).contains (.type "BaseException")=true:=by rw[PD,L,RU]
 have(U,V,W,S,T):=e;unfold tu at D
 repeat (first|(with_reducible refine Pa D ?_)|(with_reducible refine Pa G ?_)|(with_reducible refine QB G ?_;rw[R])|wp_step)
 exact wpAny_raiseNew_none J O
def Io(K:Frag)(n:Nat)(j:TE)(E:XK):TS:=λ_ g H=>j g H λv e=>∃x C d,v=.ref x/\n<=x/\e x=some (.ext (iq x C d))/\zd K C/\E (.ref C) d (BU x e)
theorem gX {X:Cx}{E:XK}{j:Expr}{B:TE}{pos:Pos}(hc:X.calm=true)(he:PE (X.jt (GQ X E)) j B):PS (X.jt (GQ X E)) (.Raise (some j) none pos) (Io X.K X.s₀.heap.objs.size B E):=by
 intro d s m H D I h;have hh:(X.jt (GQ X E)).A.handled=none:=I.ok.hd hc;rw[arm_exec_Raise];refine cB (OM (Bd hh ?_));refine cB (NG (he d s m H _ I h) (λv J q=>cB (OM (tF ?_))) λ_ _ z=>z);have(u,y,I1,Q,x,C,l,rfl,M,L,o,q):=q
 cases Q
 have t:Inv X [] m y J:=I1.fF.fu λp hp=>nomatch hp
 have(T,R,N,bs,bm,g,O,sub,ab,r,dd,Z,Y,W,V,U,S,hC,hb):=o.cls _ t.rY;have((G,e),_):=(show eM X.prog X.w y J.heap x (.ext (iq x C l))from t.hok x _ L);exact#[x,C,G,l,T,R,N,bs,bm,g,O,sub,ab,r,dd,Z,Y,W,V,U,S,rfl,hC,hb,e,#[x,C,l,.none,m,L2.BU x y,rfl,t.BU L M,#[#[tu C G l,_,e,rfl,rfl,rfl,(by show 1<6;decide),.inl #[rfl,rfl]],M,xQ],q]]
def Ka(n:Nat)(C:Addr)(sp:Sp)(d:List V)(E:XK)(t:TA):TE:=λj H Q=>t j H λe g=>e.length<=1000/\∀x,n<=x->g x=none ->
 sp (.ref x::(e++d)) (upd g x (.ext (iq x C none))) (λv l=>v=.eN/\Q (.ref x) l) E
theorem CG {sp:Sp}(M:E4 X.K C f)(F:cA X.prog X.w X.K X.mg X.base CX k f fd ps sp)(hr:di (k+1) X.A)(hb:Binds X.K fd ps ds)(hd:Vals dvs ds)(hx:Passes CX X E)(I:Inv X l y H s)(r:Vals vs us)(hl:vs.length<=1000)(go:∀x,X.s₀.heap.objs.size<=x->H x=none->sp (.ref x::(vs++dvs)) (upd H x (.ext (iq x C none))) (λv H2=>v=.eN/\Q (.ref x) H2) E):
  Nd (Nj X.prog X.w) X.A (call (.ref C) us) (EP X l y Q) X.xe s:=by
 have(nm,q,N,bs,bm,Y,sn,sub,ab,aa,dd,k0,k1,k2,k3,k5,mN,oI,hC,hn,hi,T,U,S):=M.cls _ I.rY;have O:us.length<=mH:=by rw[<-r.length];exact Ot (br hl)
 have R:=I.sz;have(hh,g,d,W,os):=s;refine za PySem.F.excBase_ValueError T hC hn hi U S (λh' x made L=>?_) O;obtain⟨kp,-,tup,ex,-,-⟩:=made;have B:Inv X l y (upd H x (.ext (iq x C none))) #[h',g,d,W,os]:=I.laid (a:=x) (o:=.ext (iq x C none)) (t':=W) kp L (CD #[tup,ex]);have q1:=go x (Nz R L) (I.hok.fresh L);have r2:Vals (V.ref x::(vs++dvs)) (Value.ref x::(us++ds)):=.cons rfl (r.append hd)
 have J:(Value.ref x::us++ds).length=ps.length:=by
  have z:=r2.length;rw[F.len _ _ _ _ q1]at z;exact z.symm
 have D:=F.run _ X.stack _ _ #[Value.ref x::us,[]] (Value.ref x::(us++ds)) _ _ E (hr.make C us []) (B.HL.make C us []) (hb _ (Value.ref x::us) B.rY J) r2 q1;refine R3 (Qt D λG Z j=>?_)
 match G,j with
 |.error e,j=>exact hx l y _ _ e Z B j
 |.ok (.ret u),j =>
  have(v,H',I3,rv,rfl,q3):=B.after j;exact#[rv,#[V.ref x,H',I3,rfl,q3]]
 |.ok .next,j=>exact OE j
 |.ok .brk,j=>exact OE j
 |.ok .cont,j=>exact OE j
theorem i9 {CX:wU}{k:Nat}{f C:Addr}{fd:L1}{ps:List Str}{sp:Sp}{dvs:List V}{ds:List eF}{E:XK}{x:Str}{p pos:Pos}{e:Expr}{es:List Expr}{t:TA}(M:E4 X.K C f)(F:cA X.prog X.w X.K X.mg X.base CX k f fd ps sp)(hr:di (k+1) X.A)(y:Gl X x)(u:X.mg x=some (.ref C))(z:Binds X.K fd ps ds)(hd:Vals dvs ds)(l:Passes CX X E)(ha:PA X (e::es) t)(hdb:(x == ("__debug__":Str))=false:=by decide)(he:Ob (e::es) X.env=(false,eval e X.env)::Ob es X.env:=by rfl)(hpl:(RV pos (Ob es X.env)).any (·.1)=false:=by rfl):
  PE X (.Call (.Name x p) (e::es) [] pos) (Ka X.s₀.heap.objs.size C sp dvs E t):=by
 intro d s j H Q I h;refine O6 (pe I y u ?_ hdb);exact callWith_K (h₀:=X.base) I.ok.mod.kin M.kp (cR (ha pos d s j H _ I h) λD G ⟨B,J,g,r,v,q⟩=>#[g.rY,CG M F hr z hd l g r v q]) he hpl
theorem Inv.names (I:Inv X pins σ H s)(hs:PU X.env.locals s.heap h')(l:h'.Ns X.env.locals m')(J:σ'.length=σ.length)(k:∀(i:Nat) (x:Str) (v:V),X.N[i]?=some x->σ'[i]?=some (some v)->Jw X.env.scope x->∃u,RelV v u/\Look X.env h' m' x u):Inv X pins σ' H {s with heap:=h',toks:=t'}:=by
 have young:∀b o,X.s₀.heap.get? b=some o->b≠X.env.locals:=λb o e=>ND (Ni (Na e) I.ok.above)
 have Eg:∀x c,X.env.cells.lookup x=some c->c≠X.env.locals:=λx c L z=>by
  have(m,(R,S,T,G,hd,_),_):=I.loc;have(v,t,g,j):=I.cell x c L;rw[z,G]at g
  cases g
  rw[hd]at j
  cases j
 refine#[I.ok,I.os,I.bare,#[λb o e n r d=>?_,λb o e n r d=>?_,I.base.free,λb o e d=>?_,I.base.tups,I.base.frzs,I.base.tbls],#[m',l,k],λy c e=>?_,I.free,I.freeC,λp D=>?_,λb u e=>?_,J.trans I.len]
 .rw[hs.2 b (young b o e)];exact I.base.keep b o e n r d
 .rw[hs.2 b (young b o e)];exact I.base.slot b o e n r d
 .rw[hs.2 b (young b o e)];exact I.base.there b o e d
 .have(v,t,g,j):=I.cell y c e;exact#[v,t,(hs.2 c (Eg y c e)).trans g,j]
 .have(Q,O,B,M):=I.pin p D;exact#[(hs.2 _ B).trans Q,O,B,M]
 .refine(I.hok b u e).stay (λc v C q=>(hs.2 c ?_).trans q) (λ_ q=>q) λ_ _ q=>q;rintro rfl;rcases C with z|z
  .rw[<-z,I.free]at e
   cases e
  .rw[I.free]at z
   cases z
theorem E5 (I:Inv X pins σ H s)(G:X.N.Nodup)(hi:X.N[i]?=some n)(l:X.env.scope.names.lookup n=some .local)(go:∀s',Inv X pins (σ.set i none) H s'->Q Unit.unit s'):Nd M A (do To X.env n .none;RD X.env n pos) Q E s:=by
 have S:(X.env.scope.kind == .class||(X.env.scope.kind == .module&&X.env.locals != X.env.globals))=false:=by rw[I.ok.kind];rfl
 have g:X.env.kindOf n=some .local:=l;refine cB (Tp (kK I G hi (.inl l) (show RelV .eN Value.none from rfl) (λO C=>?_) (.inr l)));have(m,U,D):=id C.loc;unfold RD;refine Rx ?_;unfold unbindName;refine cB (wpAny_point (cB ?_));unfold deleteName;simp only[g,S];rw[if_neg (by decide)];refine cB (wpAny_nsDel_keeps U λh2 L p e=>?_)
 have V:(m n).isSome=true:=by
  have(u,r,q):=D i n .eN hi (by rw[P8 (by rw[I.len];exact(bH.mp hi).1)]) (.inl l);rcases q with⟨_,q⟩|⟨q,_⟩
  .rw[q];rfl
  .rw[g]at q;rcases q with q|q<;>cases q
 simp only[V,Bool.not_true,PB,if_false];refine tF (wpAny_point (go _ ?_));refine C.names (σ':=σ.set i none) (t':=O.toks) e p (by simp) λj y v J o W=>?_
 have t:j≠i:=λz=>by
  subst z;rw[P8 (by rw[I.len];exact(bH.mp hi).1)]at o
  cases o
 rw[Qn (PR t)]at o;have(u,r,q):=D j y v J (by rw[Qn (PR t)];exact o) W;refine#[u,r,?_];rcases q with⟨q1,q2⟩|⟨q1,c,q2,q3⟩
 .refine .inl #[q1,?_];have:y≠n:=λz=>t (se G (by rw[J,z]) hi);show(if y=n then L else m y)=some u;rw[if_neg this];exact q2
 .have(R,d,B):=q3;refine .inr #[q1,c,q2,R,(e.2 c ?_).trans d,B];intro z;have(Z,(Y,es,ep,T,hd,_),_):=C.loc;rw[z,T]at d
  cases d
  rw[hd]at B
  cases B
def uy(x C:Addr)(od:Option Addr):Heap->Prop:=λh=>∃d e,h.get? x=some d/\d.cls=.ref C/\d.dict=od/\d.data=.fields e
theorem E6 (e:uy x C od h):eM P w H h x (.ext (uy x C od)) :=
 #[e,e.elim λ_ q=>q.elim λ_ q=>#[_,q.1],λ_ _ ⟨g,d,q,r⟩ k=>#[g,d,k _ q,r]]
structure wo(K:Frag) (C G:Addr):Prop where
 cls:∀h,K.In h->∃nm q N bs bm hdct sn sub ab col dd k0 k1 k2 k3 k5 nw,h.get? C=some (Qs nm q C N bs bm hdct sn sub ab col dd k0 k1 k2 k3 k5 nw)/\(Value.ref C::bm).contains (.ref G)=true
 top:zd K G
theorem Be {K:Frag}(p:K.In s.heap)(S:wo K C G)(J:s.heap.get? x=some m)(g:m.cls=.ref C)(go:Q true s):Nd M A (excMatches (.ref x) (.ref G)) Q E s:=by
 have(nm,q,N,bs,bm,o,Y,sub,ab,U,dd,k0,k1,k2,k3,k5,nw,O,d):=S.cls _ p;have(y,Z,N',V,j,e,u,l,W,t,T,I,H,D,B,z,v,r,L):=S.top.cls _ p;have R:(Value.ref G::j).contains (.type "BaseException")=true:=by rw[PD,L,RU]
 have f:=tc_notTuple;have(h9,g9,d9,X,o9):=s;unfold excMatches
 repeat (first|(with_reducible refine Pa J ?_;rw[g])|(with_reducible refine Pa r ?_)|(with_reducible refine QB r ?_;rw[R])|(with_reducible refine QB O ?_;rw[d])|wp_step)
 exact go
noncomputable def Cx.Bf(X:Cx)(x:Addr):Cx:={X with A:=X.A.mark (some (.ref x)),calm:=false,xe:=λ_ _=>False}
theorem Inv.Bf (I:Inv X pins σ H s)(x:Addr):Inv (X.Bf x) pins σ H s :=
 #[#[I.ok.mod,I.ok.kind,I.ok.glob,I.ok.blt,I.ok.above,I.ok.inj,I.ok.has,I.ok.cab,nofun,I.ok.frames,I.ok.stk,I.ok.exf,I.ok.bs,I.ok.bsz,I.ok.noex,I.ok.exfs,I.ok.qz,I.ok.frf],I.os,I.bare,I.base,I.loc,I.cell,I.free,I.freeC,I.pin,I.hok,I.len]
theorem Inv.LC (I:Inv (X.Bf x) pins σ H s)(ok:X.Ok):Inv X pins σ H s:=#[ok,I.os,I.bare,I.base,I.loc,I.cell,I.free,I.freeC,I.pin,I.hok,I.len]
theorem Inv.Kc {T:eF}(I:Inv X [] σ H s)(j:X.pn=[])(F:Fl H s.heap X.s₀.heap.objs.size x C od T):Inv X [] σ (upd H x (.ext (uy x C od))) s:=by
 have((L,G,B,r,l,hd,R,V),M,Q):=F;have(O,N,U):=I.wj B hd;have d:∀b u,H b=some u->b≠x:=λb u e z=>by(rw[z,Q]at e;cases e)
 have g:∀b o,X.s₀.heap.get? b=some o->b≠x:=λb o e z=>Om _ (Ni (Na e) (by rw[z];exact M));refine#[I.ok,I.os,I.bare,#[I.base.keep,I.base.slot,λb o e n S=>?_,I.base.there,λb t e=>?_,λb o u e=>?_,λb J e=>?_],I.loc,I.cell,?_,λy c h=>?_,λp v=>?_,λb u e=>?_,I.len]
 .rw[au (g b o e)];exact I.base.free b o e n S
 .have q:=I.base.tups b t e;rw[au (d b _ q)];exact q
 .have q:=I.base.frzs b o u e;rw[au (d b _ q)];exact q
 .have(m,q):=I.base.tbls b J e;exact#[m,by rw[au (d b _ q)];exact q]
 .rw[au (PR O)];exact I.free
 .rw[au (N y c h)];exact I.freeC y c h
 .rw[j]at v
  cases v
 .by_cases D:b=x
  .subst D;rw[af]at e
   cases e
   exact E6 #[L,G,B,r,l,hd]
  .rw[au D]at e;exact(I.hok b u e).stay (λ_ _ _ q=>q) (λc q=>by rw[au (d c _ q)];exact q) λc t q=>by rw[au (d c _ q)];exact q
def LD(X:Cx)(st:Stmt)(t:TS):Prop :=
 ∀(s:fy) (d:St) (H:Hp) (D:Ends),Inv X [] d H s->t D d H->Nd (Nj X.prog X.w) X.A (exec st X.env) (SP X [] D) X.xe s
def xR(X:Cx)(st:List Stmt)(t:TS):Prop :=
 ∀(s:fy) (d:St) (H:Hp) (D:Ends),Inv X [] d H s->t D d H->Nd (Nj X.prog X.w) X.A (execs st X.env) (SP X [] D) X.xe s
theorem qP.top {st:List Stmt}(h:qP X st t):xR X st t:=λs d H D I q=>h [] s d H D I q
theorem PS.top {st:Stmt}(h:PS X st t):LD X st t:=λs d H D I q=>h [] s d H D I q
noncomputable def behind(i:Nat)(D:Ends):Ends:={nx:=λd H=>D.nx (d.set i none) H,rt:=D.rt,bk:=λd H=>D.bk (d.set i none) H,ct:=λd H=>D.ct (d.set i none) H}
def LF(K:Frag)(G:Addr)(o i:Nat)(E':XK)(m:TS)(l:TS):TS:=λD j H=>m D j H/\∀d g e,E' d g e->∃C,d=.ref C/\wo K C G/\∀x,e x=none->l (behind i D) ((Ng o none).set i (some (.ref x))) (upd e x (.ext (uy x C g)))
theorem Ip {T:TS}{V:Pos}(p:X.pn=[])(M:X.stack=X.env::X.outer)(hf:X.env.frame=some X.env.locals)(hb:qP (X.jt (GQ X E')) y T)(hg:Gl X g)(hm:X.mg g=some (.ref G))(hN:X.N.Nodup)(hi:X.N[i]?=some n)(hk:X.env.scope.names.lookup n=some .local)(hs:∀x,qP (X.Bf x) (W::l) R)(hdb:(g == ("__debug__":Str))=false:=by decide):
  LD X (.Try y [.ExceptHandler (some (.Name g gp)) (some n) (W::l) V] [] [] pos) (LF X.K G X.N.length i E' T R):=by
 intro s σ H D I h;have(h1,h2):=h;refine wpAny_Try_except (NG (hb [] s σ H D (I.jt _) h1) (λf s1 q=>?_) λe s1 q=>?_)
 .cases f with
  |next=>exact tF q.fF
  |brk=>exact q.fF
  |cont=>exact q.fF
  |ret u=>exact q.fF
 .have(x,C,od,fl,aa,H1,rfl,I1,F1,q1):=q;have(C',ec,S,q2):=h2 _ _ _ q1
  cases ec
  have q3:=q2 x F1.hx;refine wm I1 p M hf F1 λs2 o2 I2 F2=>?_;refine nU I2 p F2 λs3 ac o3 I3 Z=>?_;refine wpAny_handleBy_cons (codeAny_handlers_test ?_) (by intro z;cases z);have Q:=I3.Bf x;refine pe Q hg hm ?_ hdb;have(oe,vs,he,O,_):=Z.ob;refine Be Q.rY S he O ?_;refine codeAny_handlers_suite_as ?_;refine nU (X:=X.Bf x) Q p Z λs4 ab o4 J4 F4=>?_;have Y:=Inv.Kc J4 p F4
  have J6:Inv (X.Bf x) [] (Ng X.N.length none) (upd H1 x (.ext (uy x C od))) s4:=Y.weak (by rw[OQ];exact Y.len.symm) λj v e=>by
   rw[P4]at e
   split at e<;>cases e
  refine kK (X:=X.Bf x) J6 hN hi (.inl hk) (show RelV (.ref x) (Value.ref x)from rfl) (λs5 J7=>?_) (.inr hk);refine NG (hs x [] s5 _ _ _ J7 q3) (λf U B=>?_) λ_ _ z=>z.elim
  have fin:∀{d:St}{m:Hp}{L:Flow->fy->Prop},Inv (X.Bf x) [] d m U->(∀o,Inv X [] (d.set i none) m o->L f o)->Nd (Nj X.prog X.w) X.A (do To X.env n .none;RD X.env n V) (λ_ o=>L f o) X.xe U:=λ{d m L} J go =>
   E5 (J.LC I.ok) hN hi hk λo t=>go o t
  cases f with
  |next =>
   have(d,m,J,q):=B;exact fin J λo t=>#[_,m,t,q]
  |brk =>
   have(d,m,J,q):=B;exact fin J λo t=>#[_,m,t,q]
  |cont =>
   have(d,m,J,q):=B;exact fin J λo t=>#[_,m,t,q]
  |ret u =>
   have(v,d,m,J,r,q):=B;exact fin J λo t=>#[v,_,m,t,r,q]
def kH(H:Hp)(x C:Addr)(fs:List (Str×V)):Prop:=(fs=[]/\H x=some (.ext (uy x C none)))\/∃d,H x=some (.ext (uy x C (some d)))/\H d=some (.xd fs)
theorem kH.Bf (e:kH H x C fs)(ok:mL P w H h):GP x C h:=by
 rcases e with⟨-,e⟩|⟨dx,e,ed⟩
 .obtain⟨⟨j,p,m,l,g,d⟩,-,-⟩:=ok x _ e;exact#[j,none,m,l,by(unfold notCls;rw[d]),by(rw[g];trivial)]
 .obtain⟨⟨j,p,m,l,g,d⟩,-,-⟩:=ok x _ e;obtain⟨r,⟨o,t,u,q,-⟩,-⟩:=ok dx _ ed;exact#[j,some o,m,l,by(unfold notCls;rw[d]),by(rw[g];exact q)]
theorem ny :iQ X (.builtin "isinstance") (λxs H Q=>∃x C fs D r,xs=[.ref x,.ref D]/\kH H x C fs/\Bb X.K C/\RL X.K (.ref C) (.ref D)=some r/\Q (.bl r) H):=by
 intro d s l H xs m Q I r h;have(x,C,fs,D,b,rfl,e,G,k,q):=h;have(u,g,rfl,j,r2):=vals2 r;obtain rfl:u=Value.ref x:=j;obtain rfl:g=Value.ref D:=r2;exact kia_one (wg G) I.rY (e.Bf I.hok) k nofun λo=>#[.bl b,H,I.tok _,rfl,q]
theorem wq :iQ X (.builtin "isinstance") (λxs H Q=>∃x C fs T r,xs=[.ref x,.ty T]/\kH H x C fs/\Bb X.K C/\RL X.K (.ref C) (.type T)=some r/\Q (.bl r) H):=by
 intro d s l H xs m Q I r h;have(x,C,fs,T,b,rfl,e,G,k,q):=h;have(u,g,rfl,j,r2):=vals2 r;obtain rfl:u=Value.ref x:=j;obtain rfl:g=Value.type T:=r2;exact kia_one (wg G) I.rY (e.Bf I.hok) k nofun λo=>#[.bl b,H,I.tok _,rfl,q]
theorem wu :iQ X (.builtin "isinstance") (λxs H Q=>∃x C fs d,∃ds:List Addr,∃r,xs=[.ref x,.ref d]/\kH H x C fs/\Bb X.K C/\cP X.K H d (ds.map V.ref)/\U1 X.K (.ref C) (ds.map Value.ref)=some r/\Q (.bl r) H):=by
 intro g s J H xs L Q I r h;have(x,C,fs,d,ds,b,rfl,e,G,l,k,q):=h;have(u,j,rfl,o,r2):=vals2 r;obtain rfl:u=Value.ref x:=o;obtain rfl:j=Value.ref d:=r2;obtain⟨y,m,B,-⟩:=I.tuple l;have z:=uY m;subst z;have((N,t,v,p),D,rfl,n,rfl):=B;exact kia_tup (wg G) I.rY (e.Bf I.hok) D k nofun λM=>#[.bl b,H,I.tok _,rfl,q]
def Iq(K:Frag)(ta:TE)(n:Str):TE:=λe H Q=>ta e H λx d=>∃a C fs v,x=.ref a/\kH d a C fs/\Ik K C n/\fs.lookup n=some v/\Q v d
theorem CH (U:PE X e ta)(V:QD e n X.env (eval e X.env)=eval e X.env:=by rfl):PE X (.Attribute e n pos) (Iq X.K ta n):=by
 intro d s D H Q I h;refine zJ V (cR (U d s D H _ I h) λu s1 ⟨x,H1,g,G,a,C,fs,v,ex,t,R,l,q⟩=>?_);subst ex;obtain rfl:u=Value.ref a:=G;rcases t with⟨rfl,-⟩|⟨dx,t,ed⟩
 .cases l
 obtain⟨⟨L,vs,e1,Z,r,m⟩,-,-⟩:=g.hok a _ t;have(O,(o,es,ep,Y,p,sk,uk,N),j):=g.hok dx _ ed;have(u,T,y):=lA.some_of (v:=v) (o:=O n) (by rw[<-l];exact j n);have(B,W,M):=R.no
 have S:Sx n o=some (some u):=by
  have z:=N n;rw[T]at z;unfold UC findBy at z;have(en,q1,J):=we.mp z;unfold Sx;rw[p];dsimp only;rw[<-Ud]at q1;rw[q1];exact congrArg (λz=>some (some z)) J
 exact A9 (ox:=L) (od:=some o) g.rY #[e1,Z,by(unfold notCls;rw[m]),by(rw[r];exact Y)] R.hg (findObj_own R.hd W M S) (uJ y) #[v,H1,g.tok _,y,q]
theorem qJ {st:Stmt}(l:LD X st t)(j:xR X rest u):xR X (st::rest) (aY t u):=by
 intro s e H D I h;refine SK (cR (l s e H {D with nx:=u D} I h) λf g q=>?_)
 cases f with
 |next =>
  have(d,o,m,q):=q;exact j g d o D m q
 |ret v=>exact q
 |brk=>exact q
 |cont=>exact q
theorem jq.E7 {P:IF}{w:Nn}{K:bN}{mg:Str->Option eF}{base:Heap}{x d:Str}{st:Stmt}{f:Addr}{m:L1}{N ps:List Str}{k:Nat}{sp:Sp}(F:jq K x d st f m)(S:aZ N ps (ak st))(g:∀vs H Q E,sp vs H Q E->vs.length=ps.length)(hbody:∀(cdv:eF) (A:Nx) (outer:List Env) (s:fy) (H:Hp) (vs:List V) (Q:VK) (E:XK),di k (A.deeper (Np d (ak st) s.heap.objs.size f cdv))->sp vs H Q E ->
   ∃t,qP ((Zi (xP P w) N d (ak st) H).jt (GQ (Zi (xP P w) N d (ak st) H) E)) (bh st) t/\t {nx:=λ_ u=>Q .eN u,rt:=Q} (start N vs) H):cA P w K mg base (xP P w) (k+1) f m ps sp:=by
 have(C,B,kV,r,y,G,cdv,D,o,rfl,p,l):=F.ex;refine GG p l S g λA outer s H vs Q E hr j=>?_;have(t,h,q):=hbody cdv A outer s H vs Q E hr j;exact#[t,qP.Il (λe v z=>Im z) h,q]
end L2
namespace L2
open PySem PySem.Spec PyProof.Rows
theorem xR.nN {st:List Stmt}(h:xR X.nN st t):xR X st t:=λs d H D I e =>
 NG (h s d H D (I.jt _) e) (λ_ _ q=>q.fF) λ_ _ z=>OE z
theorem Ir {CX:wU}{P:IF}{w:Nn}{K:bN}{mg:Str->Option eF}{base:Heap}{k:Nat}{f:Addr}{name d:Str}{g:Arguments}{j:List Stmt}{scope:OG}{T kV D R cdv ct oc:eF}{X od:Option Addr}{osl:Array (Option eF)}{N ps:List Str}{sp:Sp}(lk:K.lookup f=some #[oc,od,.func (Q4 name d g j scope T kV D R X cdv ct),osl])(hcd:Sy K cdv d=true)(S:aZ N ps scope)(len:∀vs H Q E,sp vs H Q E->vs.length=ps.length)(hbody:∀(A:Nx) (outer:List Env) (s:fy) (H:Hp) (vs:List V) (Q:VK) (E:XK),di k (A.deeper (Np d scope s.heap.objs.size f cdv))->sp vs H Q E ->
   ∃t,xR (Zi CX N d scope H) j t/\t {nx:=λ_ m=>Q .eN m,rt:=Q} (start N vs) H):
  cA P w K mg base CX (k+1) f (Q4 name d g j scope T kV D R X cdv ct) ps sp:=by
 refine#[len,λA outer s H U Z vs Q E hr C hb r B=>?_];have hl:=len _ _ _ _ B;have Y:K.In s.heap:=C.mod.kin.keeps λb o e=>(C.bs b o e).1;have M:s.heap.NoLimit:=C.mod.nolimit.keeps λb o e=>(C.bs b o e).1
 have p:∀y∈ps.zip Z,scope.names.lookup y.1=some .local\/(scope.names.lookup y.1=some .cell/\((UE (s.heap.objs.size+1) scope.names []).lookup y.1).isSome=true):=λ⟨n,v⟩ hy=>by
  rcases S.par n (Pe hy).1 with q|q
  .exact .inl q
  .exact .inr #[q,Q3 _ _ _ (.inl q)]
 refine Ti hr.depth (Y _ _ lk) rfl S.co S.gen rfl (Ug Y hcd) (hb _ _ _ _ ?_);refine R4 S.kind p λaa he O x=>?_;subst he;refine#[M.keeps x.toInCall.keep,codeAny_func ?_];have(t,ht,hq):=hbody A outer s H vs Q E (hr.deeper _) B;have I:Inv (Zi CX N d scope H) [] (start N vs) H O:=uO S hr.hd C hl r x;refine NG (ht O (start N vs) H _ I hq) (λfl G z=>?_) λe G z=>z
 have fin:∀{l:St}{m:Hp}{v:V}{u:eF},Inv (Zi CX N d scope H) [] l m G->RelV v u->Q v m->CE outer P w H s Q u G :=
  λ{l m v u} J L q=>#[v,m,J.os,J.bare,J.base,J.hok,L,q]
 cases fl with
 |ret u =>
  have(v,l,m,J,L,q):=z;exact fin J L q
 |next =>
  have(l,m,J,q):=z;exact fin (v:=V.eN) (u:=Value.none) J rfl q
 |brk =>
  have(_,_,_,q):=z;exact OE q
 |cont =>
  have(_,_,_,q):=z;exact OE q
theorem jq.MQ {P:IF}{w:Nn}{K:bN}{mg:Str->Option eF}{base:Heap}{x d:Str}{st:Stmt}{f:Addr}{l:L1}{N ps:List Str}{k:Nat}{sp:Sp}(F:jq K x d st f l)(S:aZ N ps (ak st))(e:∀vs H Q E,sp vs H Q E->vs.length=ps.length)(hbody:∀(cdv:eF) (A:Nx) (outer:List Env) (s:fy) (H:Hp) (vs:List V) (Q:VK) (E:XK),di k (A.deeper (Np d (ak st) s.heap.objs.size f cdv))->sp vs H Q E ->
   ∃t,xR (Zi gy N d (ak st) H).nN (bh st) t/\t {nx:=λ_ r=>Q .eN r,rt:=Q} (start N vs) H):cA P w K mg base gy (k+1) f l ps sp:=by
 have(y,v,kV,p,u,B,cdv,z,m,rfl,o,j):=F.ex;refine Ir o j S e λA outer s H vs Q E hr g=>?_;have(t,h,q):=hbody cdv A outer s H vs Q E hr g;exact#[t,h.nN,q]
end L2
namespace L2
open PySem PySem.Spec PyProof.Rows PySem.W
def xS(C:Addr)(n:Str):Sp:=λe H Q _=>∃(x:Addr) (y:V),e=[.ref x,y]/\H x=some (.ext (iq x C none))/\∀d,H d=none->d≠x->Q .eN (upd (upd H d (.xd [(n,y)])) x (.ext (iq x C (some d))))
structure oh(P:IF) (w:Nn) (K:Frag) (mg:Str->Option eF) (base:Heap) (x:Str) (k:Nat) (ps:List Str) (sp:Sp) (f:Addr) (fd:L1):Prop where
 ok:cA P w K mg base (xP P w) k f fd ps sp
 at':mg x=some (.ref f)
 kp:Pd K (.ref f)=true
 bd:Binds K fd ps []
structure BV(P:IF) (w:Nn) (K:Frag) (mg:Str->Option eF) (base:Heap) (x:Str) (n:Str) (C f:Addr) (fd:L1):Prop where
 k:E4 K C f
 ok:cA P w K mg base gy 1 f fd ["self",n] (xS C n)
 m:mg x=some (.ref C)
 bd:Binds K fd ["self",n] []
 c:zd K C
def Told(E:XK)(H:Hp)(C:Addr)(n:Str)(y:V):Prop:=∀(d:Addr) (e:Hp),aT H e->H d=none->e d=some (.xd [(n,y)])->E (.ref C) (some d) e
theorem Told.same (t:Told E H C n y)(s:aT H d):Told E d C n y:=λl m e j g=>t l m (s.trans e) (s.free j) g
theorem gc {K:Frag}(c:zd K C)(h:Told E H C n y):∀x,m<=x->H x=none->xS C n (.ref x::([y]++[])) (upd H x (.ext (iq x C none))) (λv o=>v=.eN/\∃d l od,V.ref x=.ref d/\m<=d/\o d=some (.ext (iq d l od))/\zd K l/\E (.ref l) od (BU d o)) E0:=by
 intro x t r;refine#[x,y,rfl,af,λj hd g=>#[rfl,x,C,some j,rfl,t,af,c,h j _ (λb u q=>?_) ?_ ?_]]
 .have e:b≠x:=ay q r
  have p:b≠j:=by
   intro z;subst z;rw[au e]at hd;rw[hd]at q
   cases q
  rw[nu e,au e,au p,au e];exact q
 .rw[au g]at hd;exact hd
 .rw[nu g,au g];exact af
end L2
namespace L2
open PySem
theorem tH (k:Nat):∀{fs:List (Str×V)},fs.length+(k+1)<n->(aX f v fs).length+k<n
 | [],h=>by show 1+k<n;simp at h;omega
 |(g,x)::r,h=>by
  unfold aX
  split
  .rw[Nv]at h|-;omega
  .rw[Nv]at h|-;have:=tH (f:=f) (v:=v) (n:=n) (k+1) (fs:=r) ();omega
theorem CI (h:fs.length+1<n):(aX f v fs).length<n:=tH 0 h
theorem bq {g:wU}{P:IF}{w:Nn}{K:bN}{mg:Str->Option eF}{base:Heap}{N:List Str}{e:Str}{d:OG}{f:Addr}{cdv:eF}{A:Nx}{outer:List OJ}{s:fy}{H:Hp}{E:XK}:(Zi g N e d H).nN.K=K:=rfl
def Cut(b:TS)(D:Ends)(N:St->Hp->Prop):Prop:=∀d H,b D d H->N d H
theorem Cut.go (h:Cut b D N)(g:b D d H):N d H:=h d H g
theorem lQ (h:∀N:St->Hp->Prop,Cut b D N->a (D.wn N) d H):aY a b D d H:=h (b D) (λ_ _ x=>x)
theorem E8 (h:D.nx d H):GB D d H:=h
theorem E9 (h:D.nx (d.set i (some v)) H):vH (tC v) (iF i) D d H:=h
theorem j0 (h:∀j g:St->Hp->Prop,Cut t1 (D.wn g) j->Cut t2 D g->e (D.wn j) d H):aY e (aY t1 t2) D d H:=h (aY t1 t2 D) (t2 D) (λ_ _ x=>x) (λ_ _ x=>x)
theorem tI (h:∀l j g:St->Hp->Prop,Cut t1 (D.wn j) l->Cut t2 (D.wn g) j->Cut t3 D g->e (D.wn l) d H):aY e (aY t1 (aY t2 t3)) D d H:=h (aY t1 (aY t2 t3) D) (aY t2 t3 D) (t3 D) (λ_ _ x=>x) (λ_ _ x=>x) (λ_ _ x=>x)
theorem tJ (h:∀m l j g:St->Hp->Prop,Cut t1 (D.wn l) m->Cut t2 (D.wn j) l->Cut t3 (D.wn g) j->Cut t4 D g->e (D.wn m) d H):aY e (aY t1 (aY t2 (aY t3 t4))) D d H:=h (aY t1 (aY t2 (aY t3 t4)) D) (aY t2 (aY t3 t4) D) (aY t3 t4 D) (t4 D) (λ_ _ x=>x) (λ_ _ x=>x) (λ_ _ x=>x) (λ_ _ x=>x)
theorem tK (h:∀o m l j g:St->Hp->Prop,Cut t1 (D.wn m) o->Cut t2 (D.wn l) m->Cut t3 (D.wn j) l->Cut t4 (D.wn g) j->Cut t5 D g->e (D.wn o) d H):aY e (aY t1 (aY t2 (aY t3 (aY t4 t5)))) D d H:=h (aY t1 (aY t2 (aY t3 (aY t4 t5))) D) (aY t2 (aY t3 (aY t4 t5)) D) (aY t3 (aY t4 t5) D) (aY t4 t5 D) (t5 D) (λ_ _ x=>x) (λ_ _ x=>x) (λ_ _ x=>x) (λ_ _ x=>x) (λ_ _ x=>x)
theorem xT (h:∀q p o m l j:St->Hp->Prop,Cut t1 (D.wn p) q->Cut t2 (D.wn o) p->Cut t3 (D.wn m) o->Cut t4 (D.wn l) m->Cut t5 (D.wn j) l->Cut d D j->g (D.wn q) e H):aY g (aY t1 (aY t2 (aY t3 (aY t4 (aY t5 d))))) D e H:=h (aY t1 (aY t2 (aY t3 (aY t4 (aY t5 d)))) D) (aY t2 (aY t3 (aY t4 (aY t5 d))) D) (aY t3 (aY t4 (aY t5 d)) D) (aY t4 (aY t5 d) D) (aY t5 d D) (d D) (λ_ _ x=>x) (λ_ _ x=>x) (λ_ _ x=>x) (λ_ _ x=>x) (λ_ _ x=>x) (λ_ _ x=>x)
theorem Kd (h:∀t r q p o m l:St->Hp->Prop,Cut t1 (D.wn r) t->Cut t2 (D.wn q) r->Cut t3 (D.wn p) q->Cut t4 (D.wn o) p->Cut t5 (D.wn m) o->Cut e (D.wn l) m->Cut d D l->j (D.wn t) g H):aY j (aY t1 (aY t2 (aY t3 (aY t4 (aY t5 (aY e d)))))) D g H:=h (aY t1 (aY t2 (aY t3 (aY t4 (aY t5 (aY e d))))) D) (aY t2 (aY t3 (aY t4 (aY t5 (aY e d)))) D) (aY t3 (aY t4 (aY t5 (aY e d))) D) (aY t4 (aY t5 (aY e d)) D) (aY t5 (aY e d) D) (aY e d D) (d D) (λ_ _ x=>x) (λ_ _ x=>x) (λ_ _ x=>x) (λ_ _ x=>x) (λ_ _ x=>x) (λ_ _ x=>x) (λ_ _ x=>x)
theorem CJ (h:∀v u t r q p o m:St->Hp->Prop,Cut t1 (D.wn u) v->Cut t2 (D.wn t) u->Cut t3 (D.wn r) t->Cut t4 (D.wn q) r->Cut t5 (D.wn p) q->Cut g (D.wn o) p->Cut e (D.wn m) o->Cut d D m->l (D.wn v) j H):aY l (aY t1 (aY t2 (aY t3 (aY t4 (aY t5 (aY g (aY e d))))))) D j H:=h (aY t1 (aY t2 (aY t3 (aY t4 (aY t5 (aY g (aY e d)))))) D) (aY t2 (aY t3 (aY t4 (aY t5 (aY g (aY e d))))) D) (aY t3 (aY t4 (aY t5 (aY g (aY e d)))) D) (aY t4 (aY t5 (aY g (aY e d))) D) (aY t5 (aY g (aY e d)) D) (aY g (aY e d) D) (aY e d D) (d D) (λ_ _ x=>x) (λ_ _ x=>x) (λ_ _ x=>x) (λ_ _ x=>x) (λ_ _ x=>x) (λ_ _ x=>x) (λ_ _ x=>x) (λ_ _ x=>x)
theorem KZ {e d:Type}{p:e->d->Prop}(a:e)(b:d)(h:p a b):∃a b,p a b:=#[a,b,h]
theorem MR {g e d:Type}{p:g->e->d->Prop}(a:g)(b:e)(c:d)(h:p a b c):∃a b c,p a b c:=#[a,b,c,h]
theorem MS {l j g e:Type}{p:l->j->g->e->Prop}(a:l)(b:j)(c:g)(d:e)(h:p a b c d):∃a b c d,p a b c d:=#[a,b,c,d,h]
theorem MT {o m l j ε g:Type}{p:o->m->l->j->ε->g->Prop}(a:o)(b:m)(c:l)(d:j)(e:ε)(f:g)(h:p a b c d e f):∃a b c d e f,p a b c d e f:=#[a,b,c,d,e,f,h]
theorem MU {v u t r ε q o m l:Type}{p:v->u->t->r->ε->q->o->m->l->Prop}(a:v)(b:u)(c:t)(d:r)(e:ε)(f:q)(g:o)(i:m)(j:l)(h:p a b c d e f g i j):∃a b c d e f g i j,p a b c d e f g i j:=#[a,b,c,d,e,f,g,i,j,h]
theorem MV :T.mX []<=d:=by rw[T.mX];exact Nu _
theorem MW (h:x.dep<=d)(r:T.mX xs<=d):T.mX (x::xs)<=d:=by rw[T.mX];exact Nat.max_le.mpr #[h,r]
theorem MX (h:T.mX xs<=d):T.dep (.t xs)<=d+1:=by rw[T.dep];exact Pw h
theorem LZ :T.dep (.s x)<=d:=by simp[T.dep]
theorem MY :T.dep (.i x)<=d:=by simp[T.dep]
end L2
open L2 in
local macro_rules | `(tactic| fail "Z") => `(tactic| first | exact bQ.of (by first | assumption | exact af) | exact cP.of (by first | assumption | exact af) | omega | (dsimp only [List.length_cons, List.length_nil]; decide) | decide | exact Nat.zero_le _ | (refine CI ?_; (repeat with_reducible refine tH _ ?_); decide))
open L2 in
local macro_rules | `(tactic| fail "S") => `(tactic| first
  | ((with_reducible change @Eq _ _ _); (first | exact rfl | assumption | exact af | (rw [au (by assumption)]; first | exact af | assumption | (rw [au (by assumption)]; first | exact af | assumption)) | omega))
  | ((with_reducible first | change @LT.lt _ _ _ _ | change @LE.le _ _ _ _); (first | omega | with_reducible assumption | fail "Z"))
  | assumption
  | ((with_reducible refine And.intro ?_ ?_) <;> fail "S")
  | ((with_reducible refine Or.inl ?_); fail "S")
  | ((with_reducible refine Or.inr ?_); fail "S")
  | ((with_reducible apply Exists.intro); fail "S")
  | ((with_reducible first | change KP _ _ _ _ | change HG _ _ _ _ | change JF _ _ | change Ek _ _ | change JG _ _); first | ((first | refine (?_ : @Eq _ _ _) | refine (?_ : And _ _) | refine (?_ : Or _ _) | refine (?_ : Exists _)); fail "S") | exact True.intro)
  | fail "Z")
open L2 in
local macro_rules | `(tactic| fail "T") => `(tactic| first
  | ((with_reducible first | refine CJ ?_ | refine xT ?_ | refine tK ?_ | refine tJ ?_ | refine tI ?_ | refine j0 ?_ | refine lQ ?_); intros)
  | (refine (?_ : Exists _); first
     | with_reducible first | apply @Exists.intro Hp | apply @Exists.intro Sp
     | ((fail_if_success (with_reducible apply @Exists.intro (_ -> _))); (with_reducible first | apply MU | apply MT | apply MS | apply MR | apply KZ | apply Exists.intro)))
  | (refine And.intro ?_ ?_; fail "S")
  | ((try with_reducible first | refine E8 ?_ | refine E9 ?_); refine (by with_reducible assumption : Cut _ _ _) _ _ ?_))
local macro_rules | `(tactic| ext) => `(tactic| first | (fail "T"; ext) | refine And.intro ?_ ?_ | refine (?_ : @ite _ _ _ _ _) | skip)|`(tactic|ext$x:rintroPat$y:rintroPat*)=>`(tactic|(ext;rintro$x$y*))
local macro_rules | `(tactic| fail "F") => `(tactic| first | ((with_reducible apply Exists.intro); fail "F") | ((with_reducible refine And.intro ?_ ?_); fail "S"))
local macro_rules | `(tactic| fail "O") => `(tactic| first | (fail "T"; fail "O") | refine And.intro ?_ ?_ | ((first | (refine Or.inl ?_; fail "F") | (refine Or.inr ?_; fail "F")); fail "O") | refine (?_ : @ite _ _ _ _ _) | skip)
open L2 in
local macro_rules | `(tactic| fail "D") => `(tactic| repeat' first | exact MV | exact LZ | exact MY | assumption | exact Nat.le_trans (by assumption) (by decide) | refine MX ?_ | refine MW ?_ ?_)
namespace L2
open PySem
@[irreducible] def ja (X:Cx) (st:List Stmt):TS:=λD σ H=>∃u,qP X st u/\u D σ H
theorem cK :qP X st (ja X st):=λd s e H D I h=>by
 unfold ja at h;have(u,g,q):=h;exact g d s e H D I q
theorem d7 (h:qP X st u)(q:u D d H):ja X st D d H:=by
 unfold ja;exact#[u,h,q]
noncomputable def forA:List Stmt->List Stmt
 |.For _ _ a _ _::_=>a
 |_=>[]
noncomputable def isStar:Expr->Bool
 |.Starred _ _=>true
 |_=>false
theorem CK (h:isStar e=false):Ob (e::g) d=(false,eval e d)::Ob g d:=by
 cases e<;>first|rfl|cases h
theorem c8 {e:Expr}{g:List Expr}{d:TE}{t:TA}(j:PE X e d)(hr:PA X g t)(hs:isStar e=false:=by rfl):PA X (e::g) (oq d t):=bJ j hr (CK hs)
end L2
namespace L2
open PySem PySem.Spec PyProof.Rows
open PySem.AutoSeq1 (wpAny_loadPart')
theorem CL (r:A.handled=none)(it l:Addr)(m:l≠it)(items:Array eF):
  Draws prog w A it [it,l] items.size (λi v=>items[i]?=some v) (λi h=>qx b h it l i/\qV b h l items) where
 live:=λ_ _ d=>d.1.got
 frame:=λ_ _ _ d p=>#[d.1.at λo e=>p it (by simp) o e,d.2.at λo e=>p l (by simp) o e]
 item:=λi s Q E q d t=>by
  refine pZ d.1 d.2 (x:=items[i]) (by simp[q]) λy j g=>?_;exact t _ y s.toks (by simp[q]) #[j,d.2.extBut g.extBut m] g
 done:=λs Q E d u=>vX r d.1 d.2 (by simp) u
set_option maxRecDepth 100000 in
theorem Fb (b:Bool)(l:Addr)(items:Array eF):
  Meets (QZ.«enumerate.__new__» #[[.type "enumerate",.ref l],[]]) (λ_ R s=>qV b s.heap l items /\
   R (.ok (.ret (.ref (s.heap.push (nq b l)).objs.size)))
    {s with heap:=(s.heap.push (nq b l)).push {cls:=.type "enumerate",data:=.fields #[.none,.bool false,.ref s.heap.objs.size,Qh 0,.none,.none,]}}) :=
 .of_wp λp w A R s h=>by
  have(y,g,d,r,u):=s;have(e,h):=h;have q:=sub_enumerate;have m:qV b (UO #[y,g,d,r,u]) l items:=e;have(o,j):=e.got;have(C,B,v,t):=o
  wp_walk using RM j
  refine wpAny_stack_any λz=>tF ?_
  split
  .rename_i c _ _ _ _ _
   cases(c == Value.type "enumerate")
   .wp_walk using RM j,xM m
    exact#[_,rfl,h]
   .wp_walk using RM j,xM m
    exact#[_,rfl,h]
  .wp_walk using RM j,xM m
   exact#[_,rfl,h]
end L2
namespace L2
open PySem PySem.Spec PyProof.Rows
theorem CM (j:qV b s.heap l items)(h:∀h',IsEnum h' (s.heap.objs.size+1) s.heap.objs.size 0 .none->qx b h' s.heap.objs.size l 0->h'.objs.size=s.heap.objs.size+2 ->
   (∀b o,s.heap.get? b=some o->h'.get? b=some o)->Q (.ref (s.heap.objs.size+1)) {s with heap:=h'}):
  Nd (Nj prog w) A (call (.type "enumerate") [.ref l]) Q E s:=by
 refine callType_new PySem.F.called_enumerate (by decide) (PySem.F.typeCall_enumerate_1 _) (PySem.F.newCall_enumerate_1 _) (λd=>PySem.F.args_object_init_2 d _) PySem.F.entry_enumerate_new (Fb b l items) #[j,?_];have g:(s.heap.push (nq b l)).objs.size=s.heap.objs.size+1:=Oh ..;have e:=Nh (s.heap.push (nq b l)) (o:={cls:=.type "enumerate",data:=.fields #[.none,.bool false,.ref s.heap.objs.size,Qh 0,.none,.none,]}) rfl;show _/\_;rw[g]at e|-;exact#[#[_,e,rfl],h _ e (CB (pC _ (Nh _ rfl))) (by rw[Oh,g]) λb o x=>pC _ (pC _ x)]
noncomputable def Ke (K : bN) (b : Bool) (l : Addr) : It :=
  #[λi H => ∃ d x, nT K b H l d ∧ d[i]? = some x,
   λi H v e => ∃ p x, H p = none ∧ v = .ref p ∧ e = upd H p (.tup [.int i, x]) ∧ ∀ d, nT K b H l d -> d[i]? = some x,
   λi H => ∃ d, nT K b H l d ∧ d.length = i]
theorem Bg {K:bN}(e it l:Addr)(d1:e≠it)(d2:l≠it)(d3:l≠e):Turn P w K (.Tuple L x1 pos) (Ke K b l) [e,it] e
  (λi h=>(∃j,IsEnum h e it i j)/\qx b h it l i) where
 mem:=by simp
 obj:=λi h t c g=>by
  have((j,p),r):=t;simp only[Nc,NB,or_false]at g;rcases g with rfl|rfl
  .exact#[_,p,λv z=>by cases z]
  .cases b with
   |false=>have(o,e,_,d):=(show h.IsListIter _ l i from r);exact#[o,e,λv z=>by rw[d]at z;cases z]
   |true=>have(o,e,_,d):=(show h.IsTupleIter _ l i from r);exact#[o,e,λv z=>by rw[d]at z;cases z]
 keep:=λi h h' t k=>by
  have((j,p),r):=t;exact#[#[j,k e (by simp) _ p],r.at λo q=>k it (by simp) o q]
 item:=by
  intro X hP U hK g i C s σ H E I O t hg;subst hP U hK;have(xs,x,N,hx):=hg;have((j,p),r):=t;have(m,Q,R,_):=lN I N;have(u,hu,ru):=Q.get hx
  have Y:i<m.toArray.size:=by
   have:=(bH.mp hu).1
   simpa using this
  refine wpAny_pyNext_enum_itemD (CL (A:=X.A.in1) (b:=b) (I.ok.hd g) it l d2 m.toArray) p #[r,R] Y d1 (by simp[d1,PR d3]) λy h' M hy ho V hT ab Z=>?_
  have T:y=u:=by
   have D:m[i]?=some y:=by simpa using hy
   rw[hu]at D;exact(Nk D).symm
  subst T;refine#[.ref s.heap.objs.size,rfl,wpAny_letOwnedTupleGo_enum (s:={s with heap:=h',toks:=M+1}) ho λJ aa B=>?_]
  have ne:∀c∈[e,it],c≠s.heap.objs.size:=λc g z=>by
   obtain⟨o,e2⟩:∃o,s.heap.get? c=some o:=by
    simp only[Nc,NB,or_false]at g;rcases g with rfl|rfl
    .exact#[_,p]
    .exact r.got
   have:=Na e2;rw[z]at this;exact Om _ this
  have kk:∀c o,c∉[e,it]->s.heap.get? c=some o->J.get? c=some o:=λc o g q=>by
   simp only[Nc,NB,or_false,not_or]at g;exact(B.2 c g.1).trans (Z c o g.1 g.2 q)
  have G:J.get? s.heap.objs.size=some {cls:=.type "tuple",data:=.seq #[.int i M,y,]}:=(B.2 _ (ne e (by simp)).symm).trans hT
  refine#[.ref s.heap.objs.size,upd H s.heap.objs.size (.tup [.int i,x]),I.vZ (t':=M+1) O kk (lj _) #[(by show 2<=mH;decide),_,.cons #[M,rfl] (.cons ru .nil),#[_,G,rfl,_,rfl],_,G,rfl],rfl,
   #[_,x,I.hok.fresh (lj _),rfl,rfl,λzs S=>by rw[nT.inj I S N];exact hx],?_,λc g=>?_]
  .exact#[#[_,by simpa using aa],V.1.at λo q=>(B.2 it (PR d1)).trans q]
  .rw[au (ne c g)];exact(O c g).1
 done:=by
  intro X hP U hK g i C s σ H E I O t hg;subst hP U hK;have(xs,N,hl):=hg;have((j,p),r):=t;have(m,Q,R,_):=lN I N;have e1:=Q.length;have ei:i=m.toArray.size:=by simp;omega
  rw[ei]at r;refine wpAny_pyNext_enum_endD (CL (A:=X.A.in1) (b:=b) (I.ok.hd g) it l d2 m.toArray) p #[r,R] λh' Z=>#[rfl,I.vY (t':=s.toks) O λc o g q=>?_];simp only[Nc,NB,or_false,not_or]at g;exact Z c o g.2 q
 self:=λ_ _ _ _ _ t h=>let⟨_,p⟩:=t.1;wpAny_pyIter_enum p h
def Kf(K:bN)(t:TA):TI:=λe H R=>t e H λj d=>∃b p g,j=[.ref p]/\nT K b d p g/\R (Ke K b p) d
theorem Fc (K:bN)(V:X.K=K)(T:Gl X "enumerate")(Q:X.mg "enumerate"=none)(U:PA X [a] t)(he:Ob [a] X.env=(false,eval a X.env)::Ob [] X.env:=by rfl)(hpl:(RV q (Ob [] X.env)).any (·.1)=false:=by rfl):PI X (.Tuple m B pos) (.Call (.Name "enumerate" G) [a] [] q) (Kf K t):=by
 subst V;intro j s z H R I h;refine O6 (qA I T Q (u:=.type "enumerate") (by decide) ?_ (by decide) (by decide));refine Pk ?_ he hpl;refine cR (U q j s z H _ I h) λus d ⟨vs,Z,o,D,q1⟩=>?_;have(c,p,xs,rfl,M,O):=q1;have(u,rfl,C):=vals1 D;obtain rfl:u=Value.ref p:=C;have(L,rv,r,_):=lN o M;have J:@LT.lt Nat _ p d.heap.objs.size:=by have(_,e):=r.got;exact Na e
 refine CM r λg v Y N S=>?_;refine wpAny_pyIter_enum (s:={d with heap:=g}) v ?_;refine#[d.heap.objs.size+1,[d.heap.objs.size+1,d.heap.objs.size],_,_,Z,rfl,o.kept (t':=d.toks) S,Bg _ _ p (by show @Ne Nat _ _;omega) (by show @Ne Nat _ _;omega) (by show @Ne Nat _ _;omega),#[#[_,v],Y],λb y=>?_,O]
 have l:d.heap.objs.size<=b:=by
  simp only[Nc,NB,or_false]at y;rcases y with rfl|rfl
  .exact Pr _ 1
  .exact lj _
 exact o.AN l (o.hok.fresh l)
theorem CN {K:bN}{g:TG}{t:TS}{D:Ends}(j:Nat->St->Hp->Prop)(I:j 0 d H)(C:∀i d H,i<=xs.length->j i d H->nT K b H a xs)(hs:∀i x d H p,xs[i]?=some x->j i d H->H p=none->g (.ref p) d (upd H p (.tup [.int i,x])) λl r=>t {D with nx:=j (i+1),ct:=j (i+1),bk:=D.nx} l r)(hd:∀d H,j xs.length d H->D.nx d H):
  ∃W:Nat->Nat->St->Hp->Prop,(∃m,W 0 m d H)/\∀i m d H,W i m d H ->
   ((Ke K b a).stop i H/\D.nx d H)\/((Ke K b a).go i H/\∃N:St->Hp->Prop,(∀σ' o,N σ' o->∃m',m' < m/\W (i+1) m' σ' o)/\∀x o,(Ke K b a).yld i H x o->g x d o λl r=>t {D with nx:=N,ct:=N,bk:=D.nx} l r):=by
 refine#[λi m d H=>m=xs.length-i/\i<=xs.length/\j i d H,#[xs.length,by simp,Nu _,I],?_];rintro i m d H ⟨rfl,G,p⟩;have q1:=C i d H G p
 by_cases q:i<xs.length
 .refine .inr #[#[xs,xs[i],q1,by simp[q]],j (i+1),λσ' o z=>#[xs.length - (i+1),(),rfl,q,z],λx o y=>?_];have(v,u,B,rfl,rfl,J):=y;exact hs i u d H v (J xs q1) p B
 .have e:i=xs.length:=()
  subst e;exact .inl #[#[xs,q1,rfl],hd d H p]
noncomputable def sp(c:Nat):List Nat->List (List Nat)
 | []=>[[]]
 |a::l=>if a=c then []::sp c l else match sp c l with
  |p::r=>(a::p)::r
  | []=>[[a]]
end L2
local macro_rules|`(tactic|right)=>`(tactic|try dsimp only[L2.bq])
namespace G14
open PySem L2
theorem qc {W:eF->fy->Prop}{CX:wU}{P:IF}{w:Nn}{K:bN}{mg:Str->Option eF}{base:Heap}{N:List Str}{e:Str}{d:OG}{f:Addr}{cdv:eF}{A:Nx}{outer:List Env}{s:fy}{H:Hp}{E:XK}:((Zi CX N e d H).jt W).K=K:=rfl
theorem qd {CX:wU}{P:IF}{w:Nn}{K:bN}{mg:Str->Option eF}{base:Heap}{N:List Str}{e:Str}{d:OG}{f:Addr}{cdv:eF}{A:Nx}{outer:List Env}{s:fy}{H:Hp}{E:XK}:(Zi CX N e d H).K=K:=rfl
def CO(g:Addr):Sp:=λe H Q E=>∃(n:Int) (l:Addr) (d:List Int),e=[.int n,.ref l]/\H l=some (.lst (d.map V.int))/\d.length<=900/\(n∈d->Told E H g "name" (.str "?"))/\(n∉d->Q .eN (upd H l (.lst ((d++[n]).map V.int))))
def qK(K:bN)(j:Addr):Sp:=λg H Q E=>∃(a:Addr) (b:Bool) (d:List Str),g=[.ref a]/\nT K b H a (d.map V.str)/\d.length<=500/\(∀x,cH [] d=some x->Told E H j "name" (.str x))/\(cH [] d=none->∀e,aT H e->Q .eN e)
theorem kg :Nm V6 (ak lK):=by decide
theorem xU :aZ V6 V6 (ak lK):=by ac_rfl
theorem Iu (F:jq K "look_gap" "look_gap" lK f j)(d:BV P w K mg base "Twice" "name" cT fT dT):cA P w K mg base (xP P w) 3 f j V6 (CO cT):=by
 refine F.E7 xU (λp H Q E h=>?_) (λcdv A outer s H p Q E hr h=>?_)
 .have(_,_,_,rfl,_):=h;rfl
 have(n,l,ns,rfl,r,y,t,k):=h;refine#[_,(Z5 (Zb (nQ gq (va kg 0) (va kg 1) (by with_unfolding_all rfl)) (Zd (@gX _ _ _ _ _ rfl (i9 d.k d.ok (hr.mono ()) (by left) d.m d.bd .nil kQ (Zc aG))))) (Zd (Zn (Z6 (va kg 1) (Zc (va kg 0)))))),?_]
 right
 try dsimp only[qc,qd]
 have B:=qI ns;have u:bQ K H l (ns.map V.int):=bQ.of r;have g:=sY (n:=n) (ns:=ns);have v:(ns.map V.int).length<mH:=br (by rw[bM];omega);ext;refine bW (λc=>?_) (λc=>?_)
 .have e:n∈ns:=by
   have o:nR (.int n) (ns.map V.int)=true:=c;rw[g]at o;exact of_decide_eq_true o
  have q:=t e;ext;exact gc d.c q
 .have e:n∉ns:=λz=>c (by show nR (.int n) (ns.map V.int)=true;rw[g];exact decide_eq_true z);ext;have:=k e;rw[i5]at this;exact this
theorem jb :Nm ["names","at","name"] (ak jw):=by decide
theorem qe :Lm ["names","at","name"] (ak jw):=by decide
theorem lR :aZ ["names","at","name"] We (ak jw):=by ac_rfl
theorem Fd {T:L1}(F:jq K "look_once" "look_once" jw f T)(d:BV P w K mg base "Twice" "name" cT fT dT)(e:mg "enumerate"=none):cA P w K mg base (xP P w) 3 f T We (qK K cT):=by
 refine F.E7 lR (λW H Q E h=>?_) (λcdv A outer s H W Q E hr h=>?_)
 .have(_,_,_,rfl,_):=h;rfl
 have(a,b,xs,rfl,M,hn,S,k):=h;refine#[_,(Zd (Zg (iZ rfl rfl rfl) (Fc K rfl (by left) e (Zc (va jb 0))) (Z9 (2) (Ze (ga lR.nd qe 1) (Zs (ga lR.nd qe 2)))) (Zd (Zb (Zh gq (va jb 2) (@dX _ _ _ _ _ _ _ _ _ _ (BS.or rM vJ) (va jb 0) eY (dj (va jb 1))) (by with_unfolding_all rfl)) (Zd (@gX _ _ _ _ _ rfl (@i9 _ _ _ _ _ _ _ _ _ _ _ _ _ _ _ _ _ d.k d.ok (hr.mono ()) (by left) d.m d.bd .nil kQ (Zc (va jb 2)) (by decide) (by rfl) (by rfl)))))))),?_]
 right
 try dsimp only[qc,qd]
 have O:(xs.map V.str).length=xs.length:=bM _;ext;refine CN (K:=K) (b:=b) (xs:=xs.map V.str) (λi G t=>(∃y z,G=[some (.ref a),y,z])/\aT H t/\cH [] xs=cH (xs.take i) (xs.drop i)) #[#[_,_,rfl],aT.refl _,rfl] ?_ ?_ ?_
 .rintro i G t hi ⟨_,C,_⟩;exact xO M C
 .rintro i v G t p3 hv ⟨⟨_,_,rfl⟩,C,g⟩ hp3;rw[xn]at hv;have(x,R,rfl):=we.mp hv;have Y:=(bH.mp R).1;have N:=ae hp3 (.tup [.int i,.str x]);have Z:upd t p3 (.tup [.int i,.str x]) p3=some (.tup [.int i,.str x]):=af;generalize upd t p3 (.tup [.int i,.str x])=H3 at N Z|-;have o:=C.trans N;have u:=xO M o;rw[xN R]at g;have U:ju (xs.map V.str) none (some (i:Int))=(xs.take i).map V.str:=by rw[iL,Po]
  have fl:=iM (xs.take i);have I:=jZ (x:=x) (xs:=xs.take i)
  cases b with
  |false =>
   have l:bQ K H3 a (xs.map V.str):=u;ext;refine .inl #[_,_,rfl,l,λp q=>?_];rw[U];have B:=ae q (.lst ((xs.take i).map V.str));have L:bQ K (upd H3 p (.lst ((xs.take i).map V.str))) p ((xs.take i).map V.str):=bQ.of af;generalize upd H3 p (.lst ((xs.take i).map V.str))=H4 at B L|-;have j:=o.trans B;ext;refine bW (λc=>?_) (λc=>?_)
   .have r:x∈xs.take i:=by
     have D:nR (.str x) ((xs.take i).map V.str)=true:=c;rw[I]at D;exact of_decide_eq_true D
    rw[if_pos r]at g;have J:=(S x g).same j;ext;exact gc d.c J
   .have r:x∉xs.take i:=λz=>c (by show nR (.str x) ((xs.take i).map V.str)=true;rw[I];exact decide_eq_true z);rw[if_neg r]at g;exact#[#[_,_,rfl],j,g]
  |true =>
   have l:cP K H3 a (xs.map V.str):=u
   have X:¬(HT.ir (xs.map V.str).length 0 none=0/\HT.ir (xs.map V.str).length (xs.map V.str).length (some (i:Int))=(xs.map V.str).length):=λz=>by
    have:=z.2;rw[HT.j9,O]at this;omega
   ext;refine .inr #[_,_,rfl,l,X,λp q=>?_];rw[U];have B:=ae q (.tup ((xs.take i).map V.str));have L:cP K (upd H3 p (.tup ((xs.take i).map V.str))) p ((xs.take i).map V.str):=cP.of af;generalize upd H3 p (.tup ((xs.take i).map V.str))=H4 at B L|-;have j:=o.trans B;ext;refine bW (λc=>?_) (λc=>?_)
   .have r:x∈xs.take i:=by
     have D:nR (.str x) ((xs.take i).map V.str)=true:=c;rw[I]at D;exact of_decide_eq_true D
    rw[if_pos r]at g;have J:=(S x g).same j;ext;exact gc d.c J
   .have r:x∉xs.take i:=λz=>c (by show nR (.str x) ((xs.take i).map V.str)=true;rw[I];exact decide_eq_true z);rw[if_neg r]at g;exact#[#[_,_,rfl],j,g]
 .rintro G t ⟨_,C,g⟩;rw[O,NL]at g;exact k g _ C
end G14
namespace L2
open PySem
theorem GR (p:Prop)(ht:∀C:Bool->Hp->Prop,(p->C true H)->(¬p->C false H)->e d H C)(a:p->ta D d H)(b:¬p->g D d H):Jz e ta g D d H:=ht _ a b
end L2
namespace L2
open PySem PySem.Spec PyProof.Rows
theorem mJ (I:Nat->fy->Prop)(turn:∀n s,I n s->Nd (Nj prog w) A (Rr it) (λr o=>match r with
   |none=>R (.ok .next) o
   |some v=>Nd (Nj prog w) A (O4 d it v) (λ_ l=>Nd (Nj prog w) A (RX d g v) (λ_ u =>
     Nd (Nj prog w) A (forIn C true λc r=>if r=true then do let ok ←isTrue c g (eval c g);pure (ForInStep.yield ok)else pure (ForInStep.yield r)) (λok j =>
      if ok=true then Nd (Nj prog w) A (eval O g) (λx t=>Nd (Nj prog w) A (eval N g) (λy q =>
       Nd (Nj prog w) A (dictSet D x y) (λ_ p=>∃m,m<n/\I m p) E q) E t) E j
      else ∃m,m<n/\I m j) E u) E l) E o) E s)(hE:∀e s',E e s'->notedBy (Nj prog w) A g (λe s'=>R (.error e) s') e s')(n:Nat)(h:I n s):
  OW (Nj prog w) A (.compLoop (.DictComp O N [#[d,iter,C,0]] scope pos) 0 it (.ref D) g) R s:=by
 refine S8 rfl I (λn s Q=>?_) n h;show Nd _ A ((Tu (.DictComp O N [#[d,iter,C,0]] scope pos) 0 it (.ref D) g).onRaise (λx=>do TV x g;theTreesLotGoes x)) _ _ s;refine Tv ?_;rw[compTurn_dict];refine cB (OM (cB (NG (turn n s Q) (λr o B=>?_) hE)))
 cases r with
 |none=>exact tF B
 |some v =>
  refine cB (NG B (λ_ l G=>?_) hE);refine cB (NG G (λ_ u M=>cB (NG M (λok j z=>?_) hE)) hE)
  cases ok with
  |false=>exact tF #[rfl,z]
  |true =>
   exact cB (cB (NG z (λx t L=>cB (Ov (NG L (λy q J=>cB (OM (Ov (NG J (λ_ p H=>tF #[rfl,H]) hE)))) hE))) hE))
theorem xV (I:Inv X pins σ H s)(y:∀b∈t,pB X pins H b)(I':Inv (bu X scope R t C s H) j σ' p s')(hC:s.heap.objs.size<=C)(hD:s.heap.objs.size<=D)(hDC:D≠C)(hDn:p D=none)(pl:s'.heap.DictOf (bf X.prog X.w) D G)(rv:KV kvs G)(hz:kvs.length<=mH)(hs:PU C s'.heap h''):
  Inv X pins σ (upd p D (.dK kvs)) {s' with heap:=h''}:=by
 have un:Un (frs X.stack) t H p s.heap s'.heap:=I'.base;have r:p C=none:=I'.free;have at':∀b,b≠C->h''.get? b=s'.heap.get? b:=λb g=>hs.2 b g;have l:∀b o,s.heap.get? b=some o->b≠C:=λb o e=>ND (Ni (Na e) hC);have J:∀b o,s.heap.get? b=some o->b≠D:=λb o e=>ND (Ni (Na e) hD);have d:∀b u,H b=some u->b≠D:=λb u e=>ND (Ni (I.hok.lt e) hD)
 have B:Un (frs X.stack) t H (upd p D (.dK kvs)) s.heap h'':=by
  refine#[λb o e n M m=>?_,λb o e n M m=>?_,λb o e n m=>?_,λb o e m=>?_,λb N e=>?_,λb o u e=>?_,λb O e=>?_]
  .rw[at' b (l b o e)];exact un.keep b o e n M m
  .rw[at' b (l b o e)];exact un.slot b o e n M m
  .rw[au (J b o e)];exact un.free b o e n m
  .rw[at' b (l b o e)];exact un.there b o e m
  .rw[au (d b _ e)];exact un.tups b N e
  .rw[au (d b _ e)];exact un.frzs b o u e
  .rw[au (d b _ e)];exact un.tbls b O e
 have L:mL X.prog X.w (upd p D (.dK kvs)) h'':=λb u e=>by
  by_cases g:b=D
  .subst g;rw[af]at e
   cases e
   exact#[hz,beq_eq_false_iff_ne.mpr (PR (ND (Ni I.big hD))),G,rv,pl.at λo e=>by rw[at' b hDC];exact e]
  .rw[au g]at e;refine(I'.hok b u e).stay (λc v Q q=>?_) (λc q=>?_) λc N q=>?_
   .rw[at' c ?_];exact q;rintro rfl;rcases Q with z|z
    .rw[<-z,r]at e;cases e
    .rw[r]at z;cases z
   .rw[au (λz=>by rw[z,hDn]at q;cases q)];exact q
   .rw[au (λz=>by rw[z,hDn]at q;cases q)];exact q
 exact I.GA (s':={s' with heap:=h''}) (ch:=t) I'.os B L I'.bare λb g=>#[(y b g).2.2.2.1,(y b g).2.1,(y b g).2.2.2.2.1,(y b g).2.2.2.2.2]
def wz(J:It)(g:TG)(B:TT)(C z:TE)(Q:VK)(r:St)(L:Hp):Prop:=∃W:Nat->Nat->St->List (Key×V)->Hp->Prop,(∃m,W 0 m r [] L)/\∀i m j e H,W i m j e H ->
 (J.stop i H/\e.length<=mH/\∀p,H p=none->Q (.ref p) (upd H p (.dK e))) \/
 (J.go i H/\e.length<mH/\∃N:St->List (Key×V)->Hp->Prop,(∀d l q,N d l q->∃t,t < m/\W (i+1) t d l q)/\∀x y,J.yld i H x y->g x j y λd q=>B d q λok u =>
  if ok=true then C d u λD I=>z d I λv G=>∃o,D=kV o/\N d (putK e o v) G else N d e u)
def CP(own:Nat)(fr:List Nat)(e:TI)(g:TG)(l:TT)(m j:TE):TE:=λd H Q=>e d H λJ o=>wz J g l m j Q (iU own fr d) o
theorem Fe {W:Nat->Nat->St->List (Key×V)->Hp->Prop}{Q:List (Key×V)->Hp->Prop}(hc:Y.calm=true)(hx:∀e s,¬Y.xe e s)(hg:PG Y tg g)(ht:sL Y aj tt)(hk:PE Y kx tk)(he:PE Y vx tv)(T:Turn Y.prog Y.w Y.K tg J fp it tn)(d:Ia Y D fp)(I:Inv Y [] σ H s)(st:tn 0 s.heap)(fn:∀b∈fp,H b=none)(dn:H D=none)(dd:s.heap.DictOf (bf Y.prog Y.w) D [])(w0:W 0 m σ [] H)(turn:∀i m σ' kvs H,W i m σ' kvs H->(J.stop i H/\kvs.length<=mH/\Q kvs H) \/
   (J.go i H/\kvs.length<mH/\∃N:St->List (Key×V)->Hp->Prop,(∀j ah H2,N j ah H2->∃m',m' < m/\W (i+1) m' j ah H2)/\∀x H',J.yld i H x H'->g x σ' H' λj H2=>tt j H2 λok H3 =>
    if ok=true then tk j H3 λkv H4=>tv j H4 λv H5=>∃B,kv=kV B/\N j (putK kvs B v) H5 else N j kvs H3))(fin:∀{σ:St}{H:Hp}{s:fy}{pl:List (Addr×Obj)}{kvs:List (Key×V)}{M:List (Key×eF)},Inv Y pl σ H s->H D=none->s.heap.DictOf (bf Y.prog Y.w) D M->KV kvs M->kvs.length<=mH->Q kvs H->R (.ok .next) s):
  OW (Nj Y.prog Y.w) Y.A (.compLoop (.DictComp kx vx [#[tg,iter,aj,0]] scope pos) 0 (.ref it) (.ref D) Y.env) R s:=by
 refine mJ (E:=Y.xe) (λn s'=>∃i σ' H' kvs M,Inv Y [] σ' H' s'/\tn i s'.heap/\(∀b∈fp,H' b=none)/\H' D=none/\s'.heap.DictOf (bf Y.prog Y.w) D M/\KV kvs M/\W i n σ' kvs H')
  ?_ (λe s z=>(hx e s z).elim) m #[0,σ,H,[],[],I,st,fn,dn,dd,.nil,w0]
 rintro n s3 ⟨i,C,H3,kvs,M,J3,ai,ak,al,av,rv,w3⟩;have(G,ad,ae,ap,ac,O,ab,Z,aa):=id av;have am:Inv Y [(D,G)] C H3 s3:=d.pin (pl:=[]) J3 al ap λv z=>by rw[O]at z;cases z
 have l:∀p∈[(D,G)],p.1=D:=λp hp=>by
  have e':p=(D,G):=by simpa using hp
  rw[e']
 rcases turn i n C kvs H3 w3 with⟨stop,hz,q⟩|⟨go,hz,N,hN,step⟩
 .refine cR (T.done Y rfl rfl rfl hc i _ s3 C H3 Y.xe am (d.stat ak l) ai stop) λr s4 ⟨hr,J4⟩=>?_;subst hr;exact fin J4 al #[G,ad,ae,(J4.pin (D,G) (vv _ (by simp))).1,ac,O,ab,Z,aa] rv hz q
 .refine cR (T.item Y rfl rfl rfl hc i _ s3 C H3 Y.xe am (d.stat ak l) ai go) λr s4 ⟨u,hr,h4⟩=>?_;subst hr;refine cR h4 λ_ s5 ⟨x,H5,J5,r5,y5,U,as⟩=>?_;have ax:=J5.pinned (d.stat as l) (T.obj _ _ U);refine cR (hg _ s5 C H5 x u _ ax r5 (step x H5 y5)) λ_ s6 ⟨t,H6,J6,q6⟩=>?_;refine cR (ht _ s6 t H6 _ J6 q6) λok s7 ⟨H7,J7,q7⟩=>?_
  have after:∀{s8:fy}{H8:Hp},Inv Y ([(D,G)]++oN fp s5.heap) t H8 s8->tn (i+1) s8.heap/\(∀b∈fp,H8 b=none)/\H8 D=none/\s8.heap.get? D=some G:=λ{s8 H8} J8=>by
   refine#[T.keep _ _ _ U λb S o e=>(J8.pin (b,o) (vv _ (vv _ (fb S e)))).1,λb S=>?_,?_,?_]
   .have(o,e,d):=T.obj _ _ U b S;exact(J8.pin (b,o) (vv _ (vv _ (fb S e)))).2.1
   .exact(J8.pin (D,G) (vv _ (NK _ (by simp)))).2.1
   .exact(J8.pin (D,G) (vv _ (NK _ (by simp)))).1
  cases ok with
  |false =>
   have(m',hm,w7):=hN _ _ _ q7;have(a1,a2,a3,a4):=after J7;exact#[m',hm,i+1,t,H7,kvs,M,J7.fu (λp hp=>absurd hp (by simp)),a1,a2,a3,#[G,ad,ae,a4,ac,O,ab,Z,aa],rv,w7]
  |true =>
   refine cR (hk _ s7 t H7 _ J7 q7) λx an ⟨a0,ay,aw,ao,aq⟩=>?_;refine cR (he _ an t ay _ aw aq) λy s8 ⟨v8,H8,J8,r8,n8⟩=>?_;have(B,rfl,n8):=n8;have(m',hm,w8):=hN _ _ _ n8;have(a1,a2,a3,a4):=after J8;have ar:M.length<=mH:=by have:=KV.length rv;omega
   refine wpAny_dictSet_pairs (qT ao) (#[G,ad,ae,a4,ac,O,ab,Z,aa]:s8.heap.DictOf (bf Y.prog Y.w) D M) (λaz ag L=>?_) ar
   exact#[m',hm,i+1,t,H8,putK kvs B v8,stored M B y,d.put (J8.fu λp hp=>absurd hp (by simp)) (λb o S e=>by rw[L.2 b S];exact e) a3 (λp hp=>absurd hp (by simp)),
    T.keep _ _ _ a1 λb S o e=>(L.2 b (λz=>d.out (z▸S))).trans e,a2,a3,ag,rv.put B r8,w8]
theorem u7 {cs}(own:List Str)(fr:List Nat)(hkind:scope.kind=.function)(hcell:∀x∈scope.names,x.2≠.cell)(hnames:∀x∈scope.names,x.2=.local->scope.names.lookup x.1=some .local)(hfr:∀x∈scope.names,x.2=.free->X.env.scope.names.lookup x.1=some .cell\/X.env.scope.names.lookup x.1=some .free)(hin:∀j∈fr,scope.names.lookup (X.N.getD j Nt)=some .free)(hi:PI X tg iter wi)(hs:∀x,NQ iter X.env x=pure x)(I:Inv X pins D H s)(h:wi D H Z)(lp:∀{it:Addr}{m:List Addr}{tn:Nat->Heap->Prop}{J:It}{d s':fy}{r:Hp}{C:Addr}{R:Q2->fy->Prop},Turn X.prog X.w X.K tg J m it tn->Z J r->Ia (bu X scope (own++fr.map λj=>X.N.getD j Nt) m C d r) d.heap.objs.size m->Inv (bu X scope (own++fr.map λj=>X.N.getD j Nt) m C d r) [] (iU own.length fr D) r s'->tn 0 s'.heap->(∀b∈m,r b=none)->r d.heap.objs.size=none->s'.heap.DictOf (bf X.prog X.w) d.heap.objs.size [] ->
   (∀{D:St}{H:Hp}{s:fy}{pl:List (Addr×Obj)}{kvs:List (Key×V)}{rs:List (Key×eF)},Inv (bu X scope (own++fr.map λj=>X.N.getD j Nt) m C d r) pl D H s->H d.heap.objs.size=none->s.heap.DictOf (bf X.prog X.w) d.heap.objs.size rs->KV kvs rs->kvs.length<=mH->(∀p,H p=none->Q (.ref p) (upd H p (.dK kvs)))->R (.ok .next) s) ->
   OW (Nj (bu X scope (own++fr.map λj=>X.N.getD j Nt) m C d r).prog (bu X scope (own++fr.map λj=>X.N.getD j Nt) m C d r).w) (bu X scope (own++fr.map λj=>X.N.getD j Nt) m C d r).A (.compLoop (.DictComp kx vx (#[tg,iter,aa,0]::cs) scope pos) 0 (.ref it) (.ref d.heap.objs.size) (bu X scope (own++fr.map λj=>X.N.getD j Nt) m C d r).env) R s'):
  Nd (Nj X.prog X.w) X.A (eval (.DictComp kx vx (#[tg,iter,aa,0]::cs) scope pos) X.env) (EP X pins D Q) X.xe s:=by
 rw[arm_eval_DictComp];have u:∀x∈scope.names,x.2=.free->∃c,X.env.cells.lookup x.1=some c:=λx hx e=>I.ok.has x.1 (hfr x hx e);refine SE (use:=none) rfl hs (oA u) hkind hnames ?_;refine cR (hi pins s D H _ I h) λv s1 h1=>cR h1 λal d h2=>?_;have(it,m,tn,J,r,e,S,T,W,f2,z2):=h2;subst e;have ac:∀b∈m,b<d.heap.objs.size:=λb B=>by have(o,e,_):=T.obj 0 _ W b B;exact Na e
 refine NX (wpAny_newFunctionEnv hcell (by intro y hy;simp at hy) (λt l g=>?_) hkind);dsimp only at l g|-;generalize hH2:d.heap.push {cls:=.type "dict",dict:=none,data:=.dict #[]}=G2 at l g|-;have hC:G2.objs.size=d.heap.objs.size+1:=by rw[<-hH2,Oh]
 have G:d.heap.objs.size≠G2.objs.size:=by rw[hC];exact ND (Pp _)
 have M:d.heap.objs.size<=G2.objs.size:=by rw[hC];exact OC _
 have Y:∀b o,d.heap.get? b=some o->t.get? b=some o:=λb o e=>g.extBut b o (by rw[hC];exact ND (Sq (Na e))) (pC _ (hH2▸pC _ e));have ad:t.DictOf (bf X.prog X.w) d.heap.objs.size []:=(hH2▸UQ (knd:=bf X.prog X.w) d.heap:G2.DictOf (bf X.prog X.w) d.heap.objs.size []).at λo e=>g.extBut _ _ G (pC _ e)
 have I3:Inv (bu X scope (own++fr.map λj=>X.N.getD j Nt) m G2.objs.size d r) [] (iU own.length fr D) r {d with heap:=t,toks:=d.toks+([]:List (Str×eF)).length} :=
  sN S hkind hcell hfr hin M f2 ac Y l
 have U:tn 0 t:=T.keep 0 _ _ W λb _ o e=>Y b o e;have ag:d.heap.objs.size∉m:=λhm=>Om _ (ac _ hm);have ae:r d.heap.objs.size=none:=S.hok.fresh (lj _);have sub:∀y c,(dY X.env scope.names []).lookup y=some c->X.env.cells.lookup y=some c:=jL _ _ u (by intro y c e;simp at e)
 have O:∀y c,(dY X.env scope.names []).lookup y=some c->c≠d.heap.objs.size:=λy c e=>by
  have(_,o,ho,_):=S.cell y c (sub y c e);exact ND (Na ho)
 have ak:d.heap.objs.size∉frs X.stack:=λz=>by
  rcases Nc.mp (S.rZ _ z)with e|e
  .exact absurd S.lt (by rw[<-e];exact Om _)
  .exact S.Ef (lj _) e
 have dI:Ia (bu X scope (own++fr.map λj=>X.N.getD j Nt) m G2.objs.size d r) d.heap.objs.size m:=#[λ{H' pl} hn hp b B=>by
  refine#[hn b B,(I3.ok.exf b B).1,I3.ok.exfs b B,.inl B,(I3.ok.exf b B).2,λp ai z=>?_];have ab:p∈pl:=by simpa[bu]using ai
  exact ag (by rw[<-hp p ab,z];exact B),λ{σ' H' s' o pl} J hn e hcl=>J.fu λp hp=>by
  rcases L0.mp hp with hp|hp
  rotate_left
  .exact J.pin p (vv _ hp)
  have e':p=(d.heap.objs.size,o):=by simpa using hp
  subst e';exact#[e,hn,G,ak,hcl],
  λ{σ' H' s' h' t' pl} J k hn hp=>J.turned (it:=d.heap.objs.size) k hn G (.inr (lj _)) O (λp q=>hp p (by simpa[bu]using q)),ag]
 have L:=lp (R:=compPost (Nj X.prog X.w) X.A X.xe none (EP X pins D Q) (.ref d.heap.objs.size) G2.objs.size) T z2 dI I3 U (λb B=>(f2 b B).1) ae ad λ{σ3 H3 s4 pl kvs rs} J4 dn3 dd rv hz q=>by
  have(m4,aj,_):=id J4.loc;exact#[m4,aj,λh' ah=>#[.ref d.heap.objs.size,_,xV S f2 J4 M (lj _) G dn3 dd rv hz ah,rfl,q _ dn3]]
 exact codeAny_compStart_dict L (T.self X.A 0 _ _ _ U L)
theorem CQ (own:List Str)(fr:List Nat)(v:X.calm=true)(hkind:scope.kind=.function)(hcell:∀x∈scope.names,x.2≠.cell)(hnames:∀x∈scope.names,x.2=.local->scope.names.lookup x.1=some .local)(hfr:∀x∈scope.names,x.2=.free->X.env.scope.names.lookup x.1=some .cell\/X.env.scope.names.lookup x.1=some .free)(hin:∀j∈fr,scope.names.lookup (X.N.getD j Nt)=some .free)(hi:PI X tg iter m)(hg:∀e C s H,PG (bu X scope (own++fr.map λj=>X.N.getD j Nt) e C s H) tg g)(ht:∀e C s H,sL (bu X scope (own++fr.map λj=>X.N.getD j Nt) e C s H) l q)(hk:∀e C s H,PE (bu X scope (own++fr.map λj=>X.N.getD j Nt) e C s H) u r)(he:∀e C s H,PE (bu X scope (own++fr.map λj=>X.N.getD j Nt) e C s H) o p)(hs:∀x,NQ iter X.env x=pure x:=by intro _;rfl):PE X (.DictComp u o [#[tg,iter,l,0]] scope pos) (CP own.length fr m g q r p):=by
 intro t s y H Q I h
 exact u7 own fr hkind hcell hnames hfr hin hi hs I h λ{it e tn J s2 s' H2 C R} T ⟨W,⟨m0,w0⟩,turn⟩ d I3 st f2 dn dd fin =>
  Fe v (λ_ _ z=>z) (hg _ _ _ _) (ht _ _ _ _) (hk _ _ _ _) (he _ _ _ _) T d I3 st f2 dn dd w0 turn fin
theorem qL {D t iter tg:Expr}{m:List Expr}{scope:OG}{pos:Pos}{r:TI}{g:TG}{v:TT}{y u:TE}(B:OG)(l own:List Str)(fr:List Nat)(L:X.calm=true)(q:X.env.scope=B)(M:X.N=l)(ok:m6 scope B l fr=true)(hi:PI X tg iter r)(hg:∀d C s H,PG (bu X scope (own++fr.map λj=>l.getD j Nt) d C s H) tg g)(ht:∀d C s H,sL (bu X scope (own++fr.map λj=>l.getD j Nt) d C s H) m v)(hk:∀d C s H,PE (bu X scope (own++fr.map λj=>l.getD j Nt) d C s H) D y)(he:∀d C s H,PE (bu X scope (own++fr.map λj=>l.getD j Nt) d C s H) t u)(hs:∀x,NQ iter X.env x=pure x:=by intro _;rfl):PE X (.DictComp D t [#[tg,iter,m,0]] scope pos) (CP own.length fr r g v y u):=by
 subst q M;unfold m6 at ok;simp only[NO,NS,bne_iff_ne,beq_iff_eq,Qg]at ok;have((I,p),G):=ok;refine CQ own fr L I (λx o=>(p x o).1.1) (λx o e=>?_) (λx o e=>?_) (λj J=>G j J) hi hg ht hk he hs
 .rcases(p x o).1.2 with z|z
  .exact absurd e z
  .exact z
 .rcases(p x o).2 with(z|z)|z
  .exact absurd e z
  .exact .inl z
  .exact .inr z
theorem xW (n:Nat)(l:Nat->St->List (Key×V)->Hp->Prop)(M:l 0 σ0 [] H0)(t:∀i d kvs H,i<=n->l i d kvs H->kvs.length<=i)(hn:n<=mH)(B:∀i d kvs H,i<n->l i d kvs H->J.go i H)(z:∀d kvs H,l n d kvs H->J.stop n H)(hs:∀i d kvs H x u,i<n->l i d kvs H->J.yld i H x u->g x d u λj D=>tt j D λok C=>if ok=true then tk j C λI O=>tv j O λv N=>∃r,I=kV r/\l (i+1) j (putK kvs r v) N else l (i+1) j kvs C)(hd:∀d kvs H,l n d kvs H->∀p,H p=none->Q (.ref p) (upd H p (.dK kvs))):wz J g tt tk tv Q σ0 H0:=by
 refine#[λi m d kvs H=>m=n-i/\i<=n/\l i d kvs H,#[n,by simp,Nu _,M],?_];rintro i m d kvs H ⟨rfl,L,p⟩;have R:=t i d kvs H L p
 by_cases o:i<n
 .exact .inr #[B i d kvs H o p,(),l (i+1),λj G D q=>#[n - (i+1),(),rfl,o,q],λx u y=>hs i d kvs H x u o p y]
 .have e:i=n:=()
  subst e;exact .inl #[z d kvs H p,(),hd d kvs H p]
theorem Bh {K:bN}(j:Nat->St->List (Key×V)->Hp->Prop)(z:j 0 σ0 [] H0)(o:∀i d kvs H,i<=xs.length->j i d kvs H->kvs.length<=i)(hn:xs.length<=mH)(r:∀i d kvs H,i<=xs.length->j i d kvs H->cP K H a xs)(hs:∀i x d kvs H,xs[i]?=some x->j i d kvs H->g x d H λe D=>tt e D λok t=>if ok=true then tk e t λu C=>tv e C λv B=>∃m,u=kV m/\j (i+1) e (putK kvs m v) B else j (i+1) e kvs t)(hd:∀d kvs H,j xs.length d kvs H->∀p,H p=none->Q (.ref p) (upd H p (.dK kvs))):wz (zE K a) g tt tk tv Q σ0 H0:=by
 refine xW xs.length j z o hn (λi d l H q p=>#[xs,xs[i],r i d l H (Ot q) p,by simp[q]]) (λd l H p=>#[xs,r _ d l H (lj _) p,lj _]) (λi d l H x G q p y=>?_) hd;have(rfl,y):=y;exact hs i x d l _ (y xs (r i d l _ (Ot q) p)) p
end L2
namespace L2
open PySem
theorem Rp.t1 (h:Rp K H (.t [x]) v):∃a u,v=.ref a/\cP K H a [u]/\Rp K H x u:=by
 have(a,e,rfl,d,r):=h.aS;have(u,q,rfl,g,r2):=r.inv;obtain rfl:=r2.ji;exact#[a,u,rfl,d,g]
theorem Rp.t2 (h:Rp K H (.t [x,y]) v):∃a e d,v=.ref a/\cP K H a [e,d]/\Rp K H x e/\Rp K H y d:=by
 have(a,m,rfl,j,r):=h.aS;have(u,q,rfl,g,r2):=r.inv;have(d,o,rfl,l,r3):=r2.inv;obtain rfl:=r3.ji;exact#[a,u,d,rfl,j,g,l]
theorem Rp.t3 (h:Rp K H (.t [x,y,z]) v):∃a j e d,v=.ref a/\cP K H a [j,e,d]/\Rp K H x j/\Rp K H y e/\Rp K H z d:=by
 have(a,p,rfl,l,r):=h.aS;have(u,q,rfl,g,r2):=r.inv;have(e,C,rfl,o,r3):=r2.inv;have(d,B,rfl,m,r4):=r3.inv;obtain rfl:=r4.ji;exact#[a,u,e,d,rfl,l,g,o,m]
theorem Rp.t4 (h:Rp K H (.t [x,y,z,l]) v):∃a m j e d,v=.ref a/\cP K H a [m,j,e,d]/\Rp K H x m/\Rp K H y j/\Rp K H z e/\Rp K H l d:=by
 have(a,G,rfl,o,r):=h.aS;have(u,q,rfl,g,r2):=r.inv;have(j,L,rfl,D,r3):=r2.inv;have(e,J,rfl,C,r4):=r3.inv;have(d,I,rfl,B,p):=r4.inv;obtain rfl:=p.ji;exact#[a,u,j,e,d,rfl,o,g,D,C,B]
theorem Rp.t5 (h:Rp K H (.t [x,y,z,o,m]) v):∃a p l j e d,v=.ref a/\cP K H a [p,l,j,e,d]/\Rp K H x p/\Rp K H y l/\Rp K H z j/\Rp K H o e/\Rp K H m d:=by
 have(a,M,rfl,B,r):=h.aS;have(u,q,rfl,g,r2):=r.inv;have(l,R,rfl,L,r3):=r2.inv;have(j,Q,rfl,J,r4):=r3.inv;have(e,O,rfl,I,D):=r4.inv;have(d,N,rfl,G,C):=D.inv;obtain rfl:=C.ji;exact#[a,u,l,j,e,d,rfl,B,g,L,J,I,G]
end L2
namespace L2
open PySem PySem.Spec PyProof.Rows
theorem zU (K:bN)(e:X.K=K)(d:PE X l tl):PI X tg l (Hw K tl):=by subst e;exact cz d
end L2
namespace G14
open PySem L2
set_option genInjectivity true in
inductive Kk|num|kd (x:Str)|op (n:Int)|row (k:Kk)
noncomputable def jI:Kk->T
 |.num=>.s "num"
 |.kd x=>.t [.s "kind",.s x]
 |.op n=>.t [.s "open",.i n]
 |.row k=>.t [.s "row",jI k]
noncomputable def Kk.core:Kk->Kk
 |.row k=>k.core
 |k=>k
noncomputable def Kk.dep:Kk->Nat
 |.row k=>k.dep+1
 |_=>0
def Kk.ok(ns:List Str):Kk->Prop
 |.num=>True
 |.kd x=>x∈ns
 |.op _=>False
 |.row k=>k.ok ns
theorem Kk.rO :∀(k j:Kk),k.core≠.row j
 |.num,_=>nofun
 |.kd x,_=>nofun
 |.op n,_=>nofun
 |.row k,j=>rO k j
noncomputable def wA(p:Str×Kk):T:=.t [.s p.1,jI p.2]
noncomputable def jl(d:Str×List (Str×Kk)×Tm):T:=.t [.s d.1,.t (d.2.1.map wA),enc d.2.2]
noncomputable def cw:Kk->Str
 |.num=>"n"
 |.kd _=>"kind"
 |.op _=>"open"
 |.row _=>"row"
theorem core0 (r:Rp K H (jI c) v)(h:Q (.str (cw c)) H):GH K v (.int 0) H Q:=by
 cases c with
 |num =>
  obtain rfl:=(show Rp K H (.s "num") v from r).aM;exact .inr (.inr #[_,0,110,rfl,rfl,(by decide),(by decide),h])
 |kd y =>
  have(e,l,j,rfl,d,g,m):=(show Rp K H (.t [.s "kind",.s y]) v from r).t2;obtain rfl:=g.aM;exact .inr (.inl #[e,_,0,.str "kind",rfl,rfl,d,rfl,h])
 |op n =>
  have(e,l,j,rfl,d,g,m):=(show Rp K H (.t [.s "open",.i n]) v from r).t2;obtain rfl:=g.aM;exact .inr (.inl #[e,_,0,.str "open",rfl,rfl,d,rfl,h])
 |row k =>
  have(e,l,j,rfl,d,g,m):=(show Rp K H (.t [.s "row",jI k]) v from r).t2;obtain rfl:=g.aM;exact .inr (.inl #[e,_,0,.str "row",rfl,rfl,d,rfl,h])
noncomputable def iC(ah:List Str)(k:Kk):Option Str:=match k.core with
 |.op _=>some "?"
 |.kd x=>if x∈ah then none else some x
 |_=>none
noncomputable def fR{d:Type}(f:d->Option Str):List d->Option Str
 | []=>none
 |x::r=>match f x with
  |some n=>some n
  |none=>fR f r
theorem tL {d:Type}{f:d->Option Str}{xs:List d}{i:Nat}{x:d}(h:xs[i]?=some x):fR f (xs.drop i)=match f x with
  |some n=>some n
  |none=>fR f (xs.drop (i+1)):=by
 have e:=(bH.mp h).1;have g:xs.drop i=x::xs.drop (i+1):=by rw[NJ e,(bH.mp h).2]
 rw[g];rfl
def nA(K:bN):Sp:=λe H Q _=>∃(v:V) (k:Kk),e=[v]/\Rp K H (jI k) v/\∀d,Rp K H (jI k.core) d->Q d H
def GS(K:bN)(j:Addr):Sp:=λg H Q E=>∃(a l:Addr) (e:List V) (ks:List Kk) (d:List Str),g=[.ref a,.ref l]/\cP K H a e/\bO K H (ks.map jI) e/\H l=some (.lst (d.map V.str))/\ks.length<=100/\d.length<=100 /\
 (∀n,fR (iC d) ks=some n->Told E H j "name" (.str n))/\(fR (iC d) ks=none->Q .eN H)
theorem lS :Nm ["kind"] (ak jv):=by decide
theorem wB :Lm ["kind"] (ak jv):=by decide
theorem qf :aZ ["kind"] ["kind"] (ak jv):=by ac_rfl
theorem wC (F:jq K "innermost" "innermost" jv f G):cA P w K mg base gy 1 f G ["kind"] (nA K):=by
 refine F.ok qf (λJ H Q E h=>?_) (λcdv A outer s H J Q E hr h=>?_)
 .have(_,_,rfl,_):=h;rfl
 have(v,B,rfl,L,k):=h;refine#[_,(Z5 (@sy _ _ _ _ _ _ NH (Zh bV (Z8 mT (va lS 0)) aG (bI _)) (Zd (Z4 qf.nd wB 0 (Z8 mT (va lS 0))))) (Zd (cG (va lS 0)))),?_]
 right
 right
 refine#[λm D o=>o=H/\∃(v:V) (l:Kk),D=[some v]/\Rp K H (jI l) v/\l.dep=m/\l.core=B.core,#[B.dep,rfl,v,B,rfl,L,rfl,rfl],?_];rintro m D o ⟨rfl,v,l,rfl,j,N,y⟩
 have g:∀(s:Str),s≠"row"->¬(decide (V.str s=V.str "row")=true):=λs M h=>by
  have e:=of_decide_eq_true h;injection e with e;exact M e
 cases l with
 |num =>
  obtain rfl:=(show Rp K o (.s "num") v from j).aM;refine#[_,rfl,.inr (.inr #[_,0,110,rfl,rfl,(by decide),(by decide),rfl,_,rfl,bW (λc=>absurd c (g _ (by decide))) (λ_=>?_)])];ext;exact k _ (by rw[<-y];exact j)
 |kd x =>
  have(p,l,r,rfl,d,u,C):=(show Rp K o (.t [.s "kind",.s x]) v from j).t2;obtain rfl:=u.aM;refine#[_,rfl,.inr (.inl #[p,_,0,.str "kind",rfl,rfl,d,rfl,rfl,_,rfl,bW (λc=>absurd c (g _ (by decide))) (λ_=>?_)])];ext;exact k _ (by rw[<-y];exact j)
 |op n =>
  have(p,l,r,rfl,d,u,C):=(show Rp K o (.t [.s "open",.i n]) v from j).t2;obtain rfl:=u.aM;refine#[_,rfl,.inr (.inl #[p,_,0,.str "open",rfl,rfl,d,rfl,rfl,_,rfl,bW (λc=>absurd c (g _ (by decide))) (λ_=>?_)])];ext;exact k _ (by rw[<-y];exact j)
 |row r =>
  have(p,S,z,rfl,d,u,C):=(show Rp K o (.t [.s "row",jI r]) v from j).t2;obtain rfl:=u.aM;refine#[_,rfl,.inr (.inl #[p,_,0,.str "row",rfl,rfl,d,rfl,rfl,_,rfl,bW (λ_=>?_) (λc=>absurd (by decide) c)])];refine#[λq I=>I=o/\q=[some z],λq I ⟨R,O⟩=>#[r.dep,by rw[<-N];exact Pp _,R,z,r,O,C,rfl,y],?_];exact#[_,rfl,.inr (.inl #[p,_,1,z,rfl,rfl,d,rfl,rfl,rfl])]
theorem gY :Nm VZ (ak jX):=by decide
theorem qZ :Lm VZ (ak jX):=by decide
theorem nB :aZ VZ ["inner","ahead"] (ak jX):=by ac_rfl
theorem Iv (F:jq K "look_tag" "look_tag" jX f W)(IM:eL P w K mg base "innermost" 1 ["kind"] (nA K) gI ifd)(d:BV P w K mg base "NoName" "name" cN fN dN):cA P w K mg base (xP P w) 3 f W ["inner","ahead"] (GS K cN):=by
 refine F.E7 nB (λZ H Q E h=>?_) (λcdv A outer s H Z Q E hr h=>?_)
 .have(_,_,_,_,_,rfl,_):=h;rfl
 have(a,l,R,ks,g,rfl,sq,r,hl,hk,ha,U,k):=h;refine#[_,(Zd (Zg (iZ rfl rfl rfl) (cz (va gY 0)) (ga nB.nd qZ 2) (Z5 (Z4 nB.nd qZ 3 (Z0 IM (Zc (va gY 2)))) (Z5 (Zb (Zh bV (Z8 mT (va gY 3)) aG (bI _)) (Zd (@gX _ _ _ _ _ rfl (i9 d.k d.ok (hr.mono ()) (by left) d.m d.bd .nil kQ (Zc aG))))) (Zd (Zb (PW.pt (@gz _ _ _ _ _ _ _ (Zh bV (Z8 mT (va gY 3)) aG (bI _)) (@fz _ _ _ _ (Zh lH (Z8 aP (va gY 3)) (va gY 1) (by with_unfolding_all rfl))))) (Zd (@gX _ _ _ _ _ rfl (@i9 _ _ _ _ _ _ _ _ _ _ _ _ _ _ _ _ _ d.k d.ok (hr.mono ()) (by left) d.m d.bd .nil kQ (Z1 (Z8 aP (va gY 3)) aA) (by decide) (by rfl) (by rfl)))))))))),?_]
 right
 try dsimp only[qc,qd]
 have L:=r.length;rw[bM]at L;ext;refine eX (K:=K) (xs:=R) (λi G B=>(∃y z,G=[some (.ref a),some (.ref l),y,z])/\B=H/\fR (iC g) ks=fR (iC g) (ks.drop i)) #[#[_,_,rfl],rfl,rfl] ?_ ?_ ?_
 .rintro i G B hi ⟨_,rfl,_⟩;exact sq
 .rintro i v G B hv ⟨⟨_,_,rfl⟩,rfl,o⟩;have(t,T,rv):=r.get' hv;rw[xn]at T;have(q,hq,rfl):=we.mp T;rw[tL hq]at o;have ne:=q.rO;refine j0 ?_;intro N1 N2 c1 Y;have fl:=iM g;have aa:bQ K B l (g.map V.str):=bQ.of hl;ext v' I;ext;refine core0 (K:=K) I ?_;ext;refine bW (λc=>?_) (λc=>?_)
  .have p:cw q.core="open":=by injection(of_decide_eq_true c)
   have u:iC g q=some "?":=by
    unfold iC
    cases e:q.core with
    |op n=>rfl
    |num=>rw[e]at p;exact absurd p (by decide)
    |kd y=>rw[e]at p;exact absurd p (by show("kind":Str)≠"open";decide)
    |row j=>rw[e]at p;exact absurd p (by show("row":Str)≠"open";decide)
   rw[u]at o;have J:=U _ o;ext;exact gc d.c J
  refine Y _ _ ?_;clear Y;have C:∀n,q.core≠.op n:=λn e=>c (by rw[e];exact decide_eq_true rfl);ext;refine core0 (K:=K) I ?_;ext;refine bW (λO=>?_) (λO=>?_)
  .have p:cw q.core="kind":=by injection(of_decide_eq_true O)
   obtain⟨y,X⟩:∃y,q.core=.kd y:=by
    cases e:q.core with
    |kd y=>exact#[y,rfl]
    |num=>rw[e]at p;exact absurd p (by decide)
    |op n=>exact absurd e (C n)
    |row j=>rw[e]at p;exact absurd p (by show("row":Str)≠"kind";decide)
   rw[X]at I;have(ka,k1,k2,rfl,ab,g1,g2):=(show Rp K B (.t [.s "kind",.s y]) v' from I).t2;obtain rfl:=g1.aM;obtain rfl:=g2.aM;have a1:eK [V.str "kind",.str y] 1=some (.str y):=aH (j:=1) rfl;have S:=jZ (x:=y) (xs:=g);have u:iC g q=if y∈g then none else some y:=by unfold iC;rw[X]
   ext;refine bW (λN=>?_) (λN=>?_)
   .have M:y∉g:=λz=>by
     have D:(!nR (.str y) (g.map V.str))=true:=N;rw[S,decide_eq_true z]at D
     cases D
    rw[u,if_neg M]at o;have J:=U _ o;ext;exact gc d.c J
   .have M:y∈g:=by
     by_cases z:y∈g
     .exact z
     .refine absurd ?_ N;show(!nR (.str y) (g.map V.str))=true;rw[S,decide_eq_false z];rfl
    rw[u,if_pos M]at o;exact#[#[_,_,rfl],rfl,o]
  .have u:iC g q=none:=by
    unfold iC
    cases e:q.core with
    |op n=>exact absurd e (C n)
    |num=>rfl
    |kd y=>exact absurd (by rw[e];exact decide_eq_true rfl) O
    |row j=>rfl
   rw[u]at o;exact#[#[_,_,rfl],rfl,o]
 .rintro G B ⟨_,rfl,o⟩;rw[show R.length=ks.length by omega,NL]at o;exact k o
inductive Er|tw|nn|wr
abbrev Flt:=Er×Str
abbrev Kl:=List (Str×List (Str×List Kk))
noncomputable def kI(t:Str×List Kk):T:=.t [.s t.1,.t (t.2.map jI)]
noncomputable def gZ(k:Str×List (Str×List Kk)):T:=.t [.s k.1,.t (k.2.map kI)]
noncomputable def oj(d e cW:Addr):Er->Addr
 |.tw=>d
 |.nn=>e
 |.wr=>cW
def TF(d e cW:Addr)(E:XK)(H:Hp)(f:Flt):Prop:=Told E H (oj d e cW f.1) "name" (.str f.2)
theorem TF.same (t:TF d e cW E H f)(s:aT H g):TF d e cW E g f:=Told.same t s
noncomputable def gi(ah ta:List Str):List (Str×List Kk)->Option Flt
 | []=>none
 |t::r=>match cH [] (ta++[t.1])with
  |some x=>some (.tw,x)
  |none=>match fR (iC ah) t.2 with
   |some n=>some (.nn,n)
   |none=>gi ah (ta++[t.1]) r
noncomputable def cO(ah ta:List Str):Kl->Option Flt
 | []=>none
 |k::r=>match cH [] (ah++[k.1])with
  |some x=>some (.tw,x)
  |none=>match gi ah ta k.2 with
   |some f=>some f
   |none=>cO (ah++[k.1]) (ta++k.2.map (·.1)) r
def wV(kl:Kl):Prop:=kl.length<=10/\∀k∈kl,k.2.length<=10/\∀t∈k.2,t.2.length<=10
def zV(K:bN)(j l cW:Addr):Sp:=λg H Q E=>∃(v:V) (d:Kl),g=[v]/\Rp K H (.t (d.map gZ)) v/\wV d/\(∀f,cO [] [] d=some f->TF j l cW E H f)/\(cO [] [] d=none->∀e,aT H e->Q .eN e)
theorem u9 {ah ta:List Str}{d:List (Str×List Kk)}{i:Nat}{t:Str×List Kk}(h:d[i]?=some t):gi ah ta (d.drop i)=match cH [] (ta++[t.1])with
  |some x=>some (.tw,x)
  |none=>match fR (iC ah) t.2 with
   |some n=>some (.nn,n)
   |none=>gi ah (ta++[t.1]) (d.drop (i+1)):=by
 have e:=(bH.mp h).1;have g:d.drop i=t::d.drop (i+1):=by rw[NJ e,(bH.mp h).2]
 rw[g];rfl
theorem tM {ah ta:List Str}{kl:Kl}{i:Nat}{k:Str×List (Str×List Kk)}(h:kl[i]?=some k):cO ah ta (kl.drop i)=match cH [] (ah++[k.1])with
  |some x=>some (.tw,x)
  |none=>match gi ah ta k.2 with
   |some f=>some f
   |none=>cO (ah++[k.1]) (ta++k.2.map (·.1)) (kl.drop (i+1)):=by
 have d:=(bH.mp h).1;have e:kl.drop i=k::kl.drop (i+1):=by rw[NJ d,(bH.mp h).2]
 rw[e];rfl
noncomputable def jc(kl:Kl):List Str:=kl.flatMap λk=>k.2.map (·.1)
theorem qg (h:wV kl):(jc kl).length<=100:=by
 have:∀l:Kl,(∀k∈l,k.2.length<=10)->(jc l).length<=l.length*10:=by
  intro l
  induction l with
  |nil=>intro _;exact Nu _
  |cons k r ih =>
   intro d;have m:=d k (.head _);have j:=ih λx e=>d x (.tail _ e);unfold jc at j|-;rw[OY,i4,bM,Nv,S7];omega
 have:=this kl λk g=>(h.2 k g).1;have:=h.1;omega
structure LG(H:Hp) (l1 l2:Addr) (ah ta:List Str) (H2:Hp):Prop where
 s:aT H H2
 h1:H2 l1=some (.lst (ah.map V.str))
 h2:H2 l2=some (.lst (ta.map V.str))
theorem cD :Nm VG (ak iV):=by decide
theorem gr :Lm VG (ak iV):=by decide
theorem fg :aZ VG ["kinds"] (ak iV):=by ac_rfl
theorem CS (F:jq K "look_kinds" "look_kinds" iV f fd)(D:oh P w K mg base "look_once" 3 We (qK K cT) gO ofd)(C:oh P w K mg base "look_tag" 3 ["inner","ahead"] (GS K cN) gG gfd):cA P w K mg base (xP P w) 4 f fd ["kinds"] (zV K cT cN cW):=by
 refine F.E7 fg (λvs H Q E h=>?_) (λcdv A outer s H vs Q E hr h=>?_)
 .have(_,_,rfl,_):=h;rfl
 have(v,l,rfl,r,hB,hE,k):=h;refine#[_,(Z5 (sa fg.nd gr 1 (dB aA)) (Z5 (sa fg.nd gr 2 (dB aA)) (Zd (Zg (iZ rfl rfl rfl) (cz (va cD 0)) (Z9 (2) (Ze (ga fg.nd gr 3) (Zs (ga fg.nd gr 4)))) (Z5 (Zn (@eJ _ _ _ _ _ _ _ _ _ _ _ _ _ _ _ _ D.ok (hr.mono ()) (by left) D.at' D.kp D.bd .nil jy (Z1 (Zm iT (va cD 1) (Zt (Zc (va cD 3)))) aA) (by decide) (by rfl) (by rfl))) (Z5 (Zg (iZ rfl rfl rfl) (cz (va cD 4)) (Z9 (2) (Ze (ga fg.nd gr 5) (Zs (ga fg.nd gr 6)))) (Z5 (Zn (Z6 (va cD 2) (Zc (va cD 5)))) (Z5 (Zn (@eJ _ _ _ _ _ _ _ _ _ _ _ _ _ _ _ _ D.ok (hr.mono ()) (by left) D.at' D.kp D.bd .nil jy (Zc (va cD 2)) (by decide) (by rfl) (by rfl))) (Zd (Zn (@eJ _ _ _ _ _ _ _ _ _ _ _ _ _ _ _ _ C.ok (hr.mono ()) (by left) C.at' C.kp C.bd .nil jy (Z1 (va cD 6) (Zc (va cD 1))) (by decide) (by rfl) (by rfl))))))) (Zd (Zn (Z6 (va cD 1) (Zc (va cD 3))))))))))),?_]
 right
 try dsimp only[qc,qd]
 have(a,us,rfl,sq,rs):=r.aS;have al:=rs.length;rw[bM]at al;have bl:=qg hB;have aw:=hB.1;ext l1 ac;have s1:=ae ac (.lst []);have h1:upd H l1 (.lst []) l1=some (.lst []):=af;generalize upd H l1 (.lst [])=H1 at s1 h1|-;ext l2 J;have s2:=ae J (.lst []);have U:l1≠l2:=ay h1 J;have ad:=s2 _ _ h1;have h2:upd H1 l2 (.lst []) l2=some (.lst []):=af;have ab:H l2=none:=s1.free J;generalize upd H1 l2 (.lst [])=H2 at s2 h2 ad|-;have bh:=sq.same (s1.trans s2);ext;refine eX (K:=K) (xs:=us) (λi u M=>(∃y4 y5 y6 y7,u=[some (.ref a),some (.ref l1),some (.ref l2),y4,y5,y6,y7])/\LG H l1 l2 ((l.take i).map (·.1)) (jc (l.take i)) M/\cO [] [] l=cO ((l.take i).map (·.1)) (jc (l.take i)) (l.drop i)) #[#[_,_,_,_,rfl],#[s1.trans s2,ad,h2],rfl] ?_ ?_ ?_
 .rintro i u M hi ⟨_,o,_⟩;exact sq.same o.s
 .rintro i xv u M hxv ⟨⟨_,_,_,_,rfl⟩,o,p⟩;have(t,Z,rx):=rs.get' hxv;rw[xn]at Z;have(kd,z,rfl):=we.mp Z;have az:=(bH.mp z).1;have L:l.take (i+1)=l.take i++[kd]:=by rw[mu az,(bH.mp z).2]
  have(bv,a0):=hB.2 kd (Nf z);rw[tM z]at p;have(ka,k1,k2,rfl,an,g1,g2):=(show Rp K H (.t [.s kd.1,.t (kd.2.map kI)]) xv from rx).t2;obtain rfl:=g1.aM;have bc:=an.same o.s;have(aj,G,rfl,N,O):=g2.aS;have am:=O.length;rw[bM]at am;generalize hah:(l.take i).map (·.1)=ah at o p;generalize hta:jc (l.take i)=ta at o p;have bp:ah.length<=10:=by rw[<-hah,bM,I0];omega
  have bm:ta.length+kd.2.length<=100:=by
   have e:jc (l.take (i+1))=ta++kd.2.map (·.1):=by rw[L,<-hta];unfold jc;rw[NU];simp
   have hT:wV (l.take (i+1)):=#[Nz (TH _ _) aw,λx Y=>hB.2 x (Oc Y)];have:=qg hT;rw[e,i4,bM]at this;exact this
  have a6:=o.h1;ext p4 ar;have s4:=ae ar (.lst [.str kd.1]);have h4:upd M p4 (.lst [.str kd.1]) p4=some (.lst [.str kd.1]):=af;have a5:=s4 _ _ a6;generalize upd M p4 (.lst [.str kd.1])=H4 at s4 h4 a5|-;have lc:(ah.map V.str).length+([.str kd.1]:List V).length<=mH:=small (by rw[bM];show _+1<=_;omega);ext p5 aq;have ea:ah.map V.str++[.str kd.1]=(ah++[kd.1]).map V.str:=by simp
  rw[ea];have s5:=ae aq (.lst ((ah++[kd.1]).map V.str));have h5:nT K false (upd H4 p5 (.lst ((ah++[kd.1]).map V.str))) p5 ((ah++[kd.1]).map V.str):=bQ.of af;generalize upd H4 p5 (.lst ((ah++[kd.1]).map V.str))=H5 at s5 h5|-;have S:=s4.trans s5;have ak:=o.s.trans S;have l5:(ah++[kd.1]).length<=500:=by rw[i4];show _+1<=_;omega
  have oE:∀x,cH [] (ah++[kd.1])=some x->Told E H5 cT "name" (.str x):=λx Y=>by
   rw[Y]at p;exact(hE _ p).same ak
  ext av H6 s6;rw[av]at p
  have g:cO [] [] l=match gi ah ta kd.2 with
    |some f=>some f
    |none=>cO (ah++[kd.1]) (ta++kd.2.map (·.1)) (l.drop (i+1)):=p
  have I:=S.trans s6;have i6:LG H l1 l2 ah ta H6:=#[o.s.trans I,I _ _ o.h1,I _ _ o.h2];have bb:=N.same i6.s;ext;refine eX (K:=K) (xs:=G) (λj u q=>(∃y6 y7,u=[some (.ref a),some (.ref l1),some (.ref l2),some (.str kd.1),some (.ref aj),y6,y7])/\LG H l1 l2 ah (ta++(kd.2.take j).map (·.1)) q/\gi ah ta kd.2=gi ah (ta++(kd.2.take j).map (·.1)) (kd.2.drop j)) #[#[_,_,rfl],by rw[P5,OX,NF];exact i6,by rw[P5,OX,NF];rfl] ?_ ?_ ?_
  .rintro j u q hj ⟨_,m,_⟩;exact N.same m.s
  .rintro j yv u q hyv ⟨⟨_,_,rfl⟩,m,B⟩;have(t,Z,ry):=O.get' hyv;rw[xn]at Z;have(d,y,rfl):=we.mp Z;have ax:=(bH.mp y).1;have a9:kd.2.take (j+1)=kd.2.take j++[d]:=by rw[mu ax,(bH.mp y).2]
   have bu:=a0 d (Nf y);rw[u9 y]at B;rw[B]at g;have(ga,w1,w2,rfl,a7,q1,q2):=(show Rp K H (.t [.s d.1,.t (d.2.map jI)]) yv from ry).t2;obtain rfl:=q1.aM;have(ia,bt,rfl,ao,ap):=q2.aS;have bg:=a7.same m.s;generalize htj:ta++(kd.2.take j).map (·.1)=tj at m B g;have bk:tj.length<=99:=by rw[<-htj,i4,bM,I0];omega
   have a4:=m.h2;have ll:(tj.map V.str).length<mH:=br (by rw[bM];omega);have et:tj.map V.str++[.str d.1]=(tj++[d.1]).map V.str:=by simp
   have s8:=m.s.n9 ab (.lst (tj.map V.str++[.str d.1]));have h8:upd q l2 (.lst (tj.map V.str++[.str d.1])) l2=some (.lst ((tj++[d.1]).map V.str)):=by rw[af,et]
   have a3:upd q l2 (.lst (tj.map V.str++[.str d.1])) l1=some (.lst (ah.map V.str)):=by rw[au U];exact m.h1
   have k8:Kt q (upd q l2 (.lst (tj.map V.str++[.str d.1]))):=Kt.lst a4 _;have W:=(ao.same m.s).kt k8;have X:=(ap.same m.s).kt k8;have bw:nT K false (upd q l2 (.lst (tj.map V.str++[.str d.1]))) l2 ((tj++[d.1]).map V.str):=bQ.of h8;have l8:(tj++[d.1]).length<=500:=by rw[i4];show _+1<=_;omega
   have bj:∀x,cH [] (tj++[d.1])=some x->Told E (upd q l2 (.lst (tj.map V.str++[.str d.1]))) cT "name" (.str x):=λx Y=>by
    rw[Y]at g;exact(hE _ g).same s8
   ext aa H9 R;rw[aa]at g B;have T:=s8.trans R;have a2:=R _ _ a3;have a1:=R _ _ h8;have be:=W.same R;have bf:=X.same R;have bo:d.2.length<=100:=()
   have bs:ah.length<=100:=()
   have bi:∀n,fR (iC ah) d.2=some n->Told E H9 cN "name" (.str n):=λn hn=>by
    rw[hn]at g;exact(hE _ g).same T
   ext as;rw[as]at B;have a8:ta++(kd.2.take (j+1)).map (·.1)=tj++[d.1]:=by rw[a9,i5,<-Od,htj];rfl
   rw[a8];exact#[#[_,_,rfl],#[T,a2,a1],B]
  .rintro u q ⟨⟨_,_,rfl⟩,m,B⟩;rw[show G.length=kd.2.length by omega,Nr]at m;rw[show G.length=kd.2.length by omega,Nr,NL]at B;have ba:gi ah ta kd.2=none:=B;rw[ba]at g;have bx:=m.h1;have bn:(ah.map V.str).length<mH:=br (by rw[bM];omega);have ai:(l.take (i+1)).map (·.1)=ah++[kd.1]:=by rw[L,i5,hah];rfl
   have ag:jc (l.take (i+1))=ta++kd.2.map (·.1):=by rw[L,<-hta];unfold jc;rw[NU];simp
   ext
   .rw[ai,ag];exact#[m.s.n9 ac _,by rw[af];simp,by rw[au (PR U)];exact m.h2]
   .rw[ai,ag];exact g
 .rintro u M ⟨_,o,p⟩;rw[show us.length=l.length by omega,NL]at p;exact k p _ o.s
end G14
namespace L2
open PySem PySem.Spec PyProof.Rows
theorem CT (l j t1 g t2 e:Expr)(scope:OG)(pos:Pos)(it:eF)(D:Addr)(d:Env):Tu (.DictComp l j [#[t1,g,[],0],#[t2,e,[],0]] scope pos) 0 it (.ref D) d=(do
  SY g.pos
  match←Rr it with
  |none=>pure (.done .next)
  |some v =>
   O4 t1 it v
   RX t1 d v
   let x ←eval e d
   SY e.pos
   let x ←NQ e d x
   let _ ←runOwn (.compStart (.DictComp l j [#[t1,g,[],0],#[t2,e,[],0]] scope pos) 1 (←Sj [x] (Tq x)) (.ref D) d) d
   again (.compLoop (.DictComp l j [#[t1,g,[],0],#[t2,e,[],0]] scope pos) 0 it (.ref D) d)):=by
 rfl
theorem Ff (g e t1 o t2 l:Expr)(scope:OG)(pos:Pos)(it:eF)(D:Addr)(d:Env):Tu (.DictComp g e [#[t1,o,[],0],#[t2,l,[],0]] scope pos) 1 it (.ref D) d=(do
  SY l.pos
  match←Rr it with
  |none=>pure (.done .next)
  |some v =>
   O4 t2 it v
   RX t2 d v
   (do
    let j ←eval g d
    let m ←Sj [j] (eval e d)
    SY {g.pos with endLine:=e.pos.endLine,endCol:=e.pos.endCol}
    Sj [j,m] (dictSet D j m))
   again (.compLoop (.DictComp g e [#[t1,o,[],0],#[t2,l,[],0]] scope pos) 1 it (.ref D) d)):=by
 rfl
theorem Fg (g:∀e s,¬E e s)(I:Nat->fy->Prop)(turn:∀n s,I n s->Nd (Nj prog w) A (Rr it) (λr l=>match r with
   |none=>R (.ok .next) l
   |some v=>Nd (Nj prog w) A (O4 t2 it v) (λ_ C=>Nd (Nj prog w) A (RX t2 d v) (λ_ B =>
     Nd (Nj prog w) A (eval o d) (λx u=>Nd (Nj prog w) A (eval j d) (λy t =>
      Nd (Nj prog w) A (dictSet D x y) (λ_ p=>∃m,m<n/\I m p) E t) E u) E B) E C) E l) E s)(n:Nat)(h:I n s):OW (Nj prog w) A (.compLoop (.DictComp o j [#[t1,H,[],0],#[t2,G,[],0]] scope pos) 1 it (.ref D) d) R s:=by
 refine S8 rfl I (λn s q=>?_) n h;show Nd _ A ((Tu (.DictComp o j [#[t1,H,[],0],#[t2,G,[],0]] scope pos) 1 it (.ref D) d).onRaise _) _ _ s;refine Tv ?_;rw[Ff];refine cB (OM (cB (NG (turn n s q) (λr l q1=>?_) λe s z=>(g e s z).elim)))
 cases r with
 |none=>exact tF q1
 |some v =>
  refine cB (NG q1 (λ_ C O=>cB (NG O (λ_ B N=>?_) λe s z=>(g e s z).elim)) λe s z=>(g e s z).elim);exact cB (cB (NG N (λx u M=>cB (Ov (NG M (λy t L=>cB (OM (Ov (NG L (λ_ p J=>tF #[rfl,J]) λe s z=>(g e s z).elim)))) λe s z=>(g e s z).elim))) λe s z=>(g e s z).elim))
theorem CU (t:∀e s,¬E e s)(r:OW (Nj prog w) A (.compLoop (.DictComp o m [#[t1,p,[],0],#[t2,l,[],0]] scope pos) 1 it g d) R s)(h:Nd (Nj prog w) A (Tq it) (λj s'=>OW (Nj prog w) A (.compLoop (.DictComp o m [#[t1,p,[],0],#[t2,l,[],0]] scope pos) 1 j g d) R s') E s):
  OW (Nj prog w) A (.compStart (.DictComp o m [#[t1,p,[],0],#[t2,l,[],0]] scope pos) 1 it g d) R s:=by
 refine codeAny_of_tree ?_;show Nd _ A ((compStart (.DictComp o m [#[t1,p,[],0],#[t2,l,[],0]] scope pos) 1 it g d).onRaise _) _ _ s;refine wpAny_notedAt ?_;unfold compStart;show Nd _ A (ask>>=_) _ _ s;refine cB (wpAny_askSetting (wpAny_ite ?_))
 split
 .first
   |exact tF #[rfl,r]
   |exact cB (tF (tF #[rfl,r]))
 .refine cB (RZ ?_);show Nd _ _ (SY l.pos>>=_) _ _ s;exact cB (OM (cB (NG h (λj s' q=>tF #[rfl,q]) λe s z=>(t e s z).elim)))
theorem CV (l:∀e s,¬E e s)(I:Nat->fy->Prop)(hs:∀x,NQ j d x=pure x)(turn:∀n s,I n s->Nd (Nj prog w) A (Rr it) (λr p=>match r with
   |none=>R (.ok .next) p
   |some v=>Nd (Nj prog w) A (O4 t1 it v) (λ_ H=>Nd (Nj prog w) A (RX t1 d v) (λ_ G =>
     Nd (Nj prog w) A (eval j d) (λx C=>Nd (Nj prog w) A (Tq x) (λg B =>
      OW (Nj prog w) A (.compStart (.DictComp t o [#[t1,u,[],0],#[t2,j,[],0]] scope pos) 1 g (.ref D) d) (λr y=>match r with|.ok _=>∃m,m<n/\I m y|.error _=>False) B) E C) E G) E H) E p) E s)(n:Nat)(h:I n s):OW (Nj prog w) A (.compLoop (.DictComp t o [#[t1,u,[],0],#[t2,j,[],0]] scope pos) 0 it (.ref D) d) R s:=by
 refine S8 rfl I (λn s q=>?_) n h;show Nd _ A ((Tu (.DictComp t o [#[t1,u,[],0],#[t2,j,[],0]] scope pos) 0 it (.ref D) d).onRaise _) _ _ s;refine Tv ?_;rw[CT];refine cB (OM (cB (NG (turn n s q) (λr p q1=>?_) λe s z=>(l e s z).elim)))
 cases r with
 |none=>exact tF q1
 |some v =>
  refine cB (NG q1 (λ_ H O=>cB (NG O (λ_ G N=>?_) λe s z=>(l e s z).elim)) λe s z=>(l e s z).elim);refine cB (NG N (λx C M=>cB (OM ?_)) λe s z=>(l e s z).elim);rw[hs x];refine cB (tF (cB (Ov (NG M (λg B L=>?_) λe s z=>(l e s z).elim))));refine cB (wpAny_runOwn (Qt L λr y J=>?_))
  cases r with
  |ok f=>exact tF #[rfl,J]
  |error e=>exact J.elim
def zW(J:It)(g:TG)(M:TI)(Z:TG)(X U:TE)(Q:VK)(L:St)(H0:Hp):Prop:=∃W:Nat->Nat->St->List (Key×V)->Hp->Prop,(∃m,W 0 m L [] H0)/\∀i m r o H,W i m r o H ->
 (J.stop i H/\o.length<=mH/\∀p,H p=none->Q (.ref p) (upd H p (.dK o))) \/
 (J.go i H/\∃N:St->List (Key×V)->Hp->Prop,(∀l u I,N l u I->∃z,z < m/\W (i+1) z l u I)/\∀x T,J.yld i H x T->g x r T λl I=>M l I λR H3 =>
  ∃O:Nat->Nat->St->List (Key×V)->Hp->Prop,(∃G,O 0 G l o H3)/\∀j G q d D,O j G q d D ->
   (R.stop j D/\N q d D) \/
   (R.go j D/\d.length<mH/\∃S:St->List (Key×V)->Hp->Prop,(∀e t C,S e t C->∃z,z < G/\O (j+1) z e t C)/\∀y C,R.yld j D y C->Z y q C λe H6 =>
    X e H6 λY H7=>U e H7 λv H8=>∃B,Y=kV B/\S e (putK d B v) H8))
def zX(own:Nat)(fr:List Nat)(j:TI)(g:TG)(d:TI)(o:TG)(m l:TE):TE:=λe H Q=>j e H λJ p=>zW J g d o m l Q (iU own fr e) p
theorem Kg {W2:Nat->Nat->St->List (Key×V)->Hp->Prop}{N:St->List (Key×V)->Hp->Prop}(hc:Y.calm=true)(hx:∀e s,¬Y.xe e s)(hg:PG Y aa g2)(hk:PE Y kx tk)(he:PE Y vx tv)(T:Turn Y.prog Y.w Y.K aa J2 fp it tn)(d:Ia Y D fo)(hp:∀p∈pl,p.1≠D)(hD:D∉fp)(stat:∀{H:Hp}{o:Obj},(∀b∈fp,H b=none)->∀b∈fp,pB Y ([(D,o)]++pl) H b)(I:Inv Y pl σ H s)(st:tn 0 s.heap)(fn:∀b∈fp,H b=none)(dn:H D=none)(dd:s.heap.DictOf (bf Y.prog Y.w) D C)(rv:KV kvs C)(w0:W2 0 m σ kvs H)(turn:∀j m2 X g H4,W2 j m2 X g H4 ->
   (J2.stop j H4/\N X g H4) \/
   (J2.go j H4/\g.length<mH/\∃N2:St->List (Key×V)->Hp->Prop,(∀l ag H5,N2 l ag H5->∃m',m' < m2/\W2 (j+1) m' l ag H5)/\∀y H5,J2.yld j H4 y H5->g2 y X H5 λl H6 =>
    tk l H6 λkv H7=>tv l H7 λv H8=>∃q,kv=kV q/\N2 l (putK g q v) H8))(fin:∀{σ:St}{H:Hp}{s:fy}{kvs:List (Key×V)}{C:List (Key×eF)},Inv Y pl σ H s->H D=none->s.heap.DictOf (bf Y.prog Y.w) D C->KV kvs C->N σ kvs H->R (.ok .next) s):
  OW (Nj Y.prog Y.w) Y.A (.compLoop (.DictComp kx vx [#[tg,iter,[],0],#[aa,iter2,[],0]] scope pos) 1 (.ref it) (.ref D) Y.env) R s:=by
 refine Fg hx (λn s'=>∃j ae H' kvs C,Inv Y pl ae H' s'/\tn j s'.heap/\(∀b∈fp,H' b=none)/\H' D=none/\s'.heap.DictOf (bf Y.prog Y.w) D C/\KV kvs C/\W2 j n ae kvs H')
  ?_ m #[0,σ,H,kvs,C,I,st,fn,dn,dd,rv,w0]
 rintro n2 t3 ⟨j,B,G3,g,ac,K3,ah,aj,ak,av,ab,v3⟩;have(G,Q,S,ai,O,t,M,J,L):=id av;have al:=d.pin K3 ak ai λv z=>by rw[t]at z;cases z
 rcases turn j n2 B g G3 v3 with⟨stop2,q2⟩|⟨go2,hz2,N2,hN2,step2⟩
 .refine cR (T.done Y rfl rfl rfl hc j _ t3 B G3 Y.xe al (stat aj) ah stop2) λr t4 ⟨hr,K4⟩=>?_;subst hr;exact fin (K4.fu λp hp=>K4.pin p (vv _ (vv _ hp))) ak #[G,Q,S,(K4.pin (D,G) (vv _ (NK _ (by simp)))).1,O,t,M,J,L] ab q2
 .refine cR (T.item Y rfl rfl rfl hc j _ t3 B G3 Y.xe al (stat aj) ah go2) λr t4 ⟨u2,hr,g4⟩=>?_;subst hr;refine cR g4 λ_ t5 ⟨y,G5,K5,ao,am,Z,as⟩=>?_;have aw:=K5.pinned (stat as) (T.obj _ _ Z);refine cR (hg _ t5 B G5 y u2 _ aw ao (step2 y G5 am)) λ_ t6 ⟨W,G6,K6,p6⟩=>?_;refine cR (hk _ t6 W G6 _ K6 p6) λx an ⟨a0,ay,ax,ap,aq⟩=>?_;refine cR (he _ an W ay _ ax aq) λy s8 ⟨v8,H8,J8,r8,n8⟩=>?_;have(q,rfl,n8):=n8;have(m',hm,w8):=hN2 _ _ _ n8;have pD:=J8.pin (D,G) (vv _ (NK _ (NK _ (by simp))))
  have pF:∀b∈fp,H8 b=none:=λb U=>by
   have(o,e,d):=T.obj _ _ Z b U;exact(J8.pin (b,o) (vv _ (vv _ (fb U e)))).2.1
  have pT:tn (j+1) s8.heap:=T.keep _ _ _ Z λb U o e=>(J8.pin (b,o) (vv _ (vv _ (fb U e)))).1;have ar:ac.length<=mH:=by have:=KV.length ab;omega
  refine wpAny_dictSet_pairs (qT ap) (#[G,Q,S,pD.1,O,t,M,J,L]:s8.heap.DictOf (bf Y.prog Y.w) D ac) (λaz ad u=>?_) ar
  exact#[m',hm,j+1,W,H8,putK g q v8,stored ac q y,d.put (J8.fu λp hp=>J8.pin p (vv _ (NK _ (vv _ hp)))) (λb o U e=>by rw[u.2 b U];exact e) pD.2.1 hp,
   T.keep _ _ _ pT λb U o e=>(u.2 b (λz=>hD (z▸U))).trans e,pF,pD.2.1,ad,ab.put q r8,w8]
theorem Iw {ae:TI}{W:Nat->Nat->St->List (Key×V)->Hp->Prop}{Q:List (Key×V)->Hp->Prop}(hc:Y.calm=true)(hx:∀e s,¬Y.xe e s)(hg:PG Y tg g)(hi2:PI Y ab iter2 ae)(hg2:PG Y ab g2)(hk:PE Y kx tk)(he:PE Y vx tv)(hs2:∀x,NQ iter2 Y.env x=pure x)(T:Turn Y.prog Y.w Y.K tg J fp it tn)(d:Ia Y D fp)(I:Inv Y [] σ H s)(st:tn 0 s.heap)(fn:∀b∈fp,H b=none)(dn:H D=none)(dd:s.heap.DictOf (bf Y.prog Y.w) D [])(w0:W 0 m σ [] H)(turn:∀i m σ' kvs H,W i m σ' kvs H ->
 (J.stop i H/\kvs.length<=mH/\Q kvs H) \/
 (J.go i H/\∃N:St->List (Key×V)->Hp->Prop,(∀L ah H2,N L ah H2->∃m',m' < m/\W (i+1) m' L ah H2)/\∀x G,J.yld i H x G->g x σ' G λL H2=>ae L H2 λJ2 H3 =>
  ∃W2:Nat->Nat->St->List (Key×V)->Hp->Prop,(∃m2,W2 0 m2 L kvs H3)/\∀j m2 l B H4,W2 j m2 l B H4 ->
   (J2.stop j H4/\N l B H4) \/
   (J2.go j H4/\B.length<mH/\∃N2:St->List (Key×V)->Hp->Prop,(∀C ag Z,N2 C ag Z->∃m',m' < m2/\W2 (j+1) m' C ag Z)/\∀y Z,J2.yld j H4 y Z->g2 y l Z λC H6 =>
    tk C H6 λkv H7=>tv C H7 λv H8=>∃aq,kv=kV aq/\N2 C (putK B aq v) H8)))(fin:∀{σ:St}{H:Hp}{s:fy}{pl:List (Addr×Obj)}{kvs:List (Key×V)}{S:List (Key×eF)},Inv Y pl σ H s->H D=none->s.heap.DictOf (bf Y.prog Y.w) D S->KV kvs S->kvs.length<=mH->Q kvs H->R (.ok .next) s):
  OW (Nj Y.prog Y.w) Y.A (.compLoop (.DictComp kx vx [#[tg,iter,[],0],#[ab,iter2,[],0]] scope pos) 0 (.ref it) (.ref D) Y.env) R s:=by
 refine CV hx (λn s'=>∃i σ' G kvs S,Inv Y [] σ' G s'/\tn i s'.heap/\(∀b∈fp,G b=none)/\G D=none/\s'.heap.DictOf (bf Y.prog Y.w) D S/\KV kvs S/\W i n σ' kvs G)
  hs2 ?_ m #[0,σ,H,[],[],I,st,fn,dn,dd,.nil,w0]
 rintro n s3 ⟨i,l,H3,kvs,S,J3,aj,ar,as,a1,rv,w3⟩;have(U,ao,ap,ay,an,ad,am,ak,al):=id a1;have av:Inv Y [(D,U)] l H3 s3:=d.pin (pl:=[]) J3 as ay λv z=>by rw[ad]at z;cases z
 have t:∀p∈[(D,U)],p.1=D:=λp hp=>by
  have e':p=(D,U):=by simpa using hp
  rw[e']
 rcases turn i n l kvs H3 w3 with⟨stop,hz,q⟩|⟨go,N,hN,step⟩
 .refine cR (T.done Y rfl rfl rfl hc i _ s3 l H3 Y.xe av (d.stat ar t) aj stop) λr s4 ⟨hr,J4⟩=>?_;subst hr;exact fin J4 as #[U,ao,ap,(J4.pin (D,U) (vv _ (by simp))).1,an,ad,am,ak,al] rv hz q
 .refine cR (T.item Y rfl rfl rfl hc i _ s3 l H3 Y.xe av (d.stat ar t) aj go) λr s4 ⟨u,hr,h4⟩=>?_;subst hr;refine cR h4 λ_ s5 ⟨x,Z,J5,r5,y5,ac,az⟩=>?_;have a2:=J5.pinned (d.stat az t) (T.obj _ _ ac);refine cR (hg _ s5 l Z x u _ a2 r5 (step x Z y5)) λ_ s6 ⟨aw,H6,J6,q6⟩=>?_;refine cR (hi2 _ s6 aw H6 _ J6 q6) λv7 s7 h7=>cR h7 λa3 s8 h8=>?_;have(a6,a0,a4,J2,H8,e8,I8,T2,ai,f8,W2,(a5,ax),aa):=h8;subst e8;have z:=I8.pin (D,U) (vv _ (NK _ (by simp)));have X:D∉a0:=λhm=>(f8 _ hm).2.2.2.2.2 (D,U) (vv _ (NK _ (by simp))) rfl
  have M:=Kg (R:=λr s6=>match r with|.ok _=>∃m,m<n/\∃i σ' G kvs S,Inv Y [] σ' G s6/\tn i s6.heap/\(∀b∈fp,G b=none)/\G D=none/\s6.heap.DictOf (bf Y.prog Y.w) D S/\KV kvs S/\W i m σ' kvs G|.error _=>False) (pl:=oN fp s5.heap) (tg:=tg) (iter:=iter) (iter2:=iter2) (scope:=scope) (pos:=pos)
   hc hx hg2 hk he T2 d (λp hp z=>d.out (by have:=(uI hp).1;rw[z]at this;exact this)) X (λ{G o'} hn b O=>by
    have(z0,z1,z2,z3,z4,z5):=f8 b O;refine#[hn b O,z1,z2,z3,z4,λp hp=>?_];rcases L0.mp hp with hp|hp
    .exact z5 p (NK _ hp)
    .rcases L0.mp hp with hp|hp
     .have e':p=(D,o'):=by simpa using hp
      rw[e'];exact λz=>X ((show D=b from z)▸O)
     .exact z5 p (vv _ (vv _ hp)))
   (I8.fu λp hp=>I8.pin p (vv _ (vv _ hp))) ai (λb O=>(f8 b O).1) z.2.1 #[U,ao,ap,z.1,an,ad,am,ak,al] rv ax aa λ{σ9 H9 s9 kvs9 rs9} J9 dn9 dd9 rv9 q9=>by
    have(m',hm,w7):=hN _ _ _ q9;refine#[m',hm,i+1,σ9,H9,kvs9,rs9,J9.fu (λp hp=>absurd hp (by simp)),T.keep _ _ _ ac λb O o e=>(J9.pin (b,o) (vv _ (fb O e))).1,λb O=>?_,dn9,dd9,rv9,w7];have(o,e,d):=T.obj _ _ ac b O;exact(J9.pin (b,o) (vv _ (fb O e))).2.1
  exact CU hx M (T2.self Y.A 0 _ _ _ ai M)
theorem Bj (own:List Str)(fr:List Nat)(B:X.calm=true)(hkind:scope.kind=.function)(hcell:∀x∈scope.names,x.2≠.cell)(hnames:∀x∈scope.names,x.2=.local->scope.names.lookup x.1=some .local)(hfr:∀x∈scope.names,x.2=.free->X.env.scope.names.lookup x.1=some .cell\/X.env.scope.names.lookup x.1=some .free)(hin:∀j∈fr,scope.names.lookup (X.N.getD j Nt)=some .free)(hi:PI X tg iter p)(hg:∀e C s H,PG (bu X scope (own++fr.map λj=>X.N.getD j Nt) e C s H) tg g)(hi2:∀e C s H,PI (bu X scope (own++fr.map λj=>X.N.getD j Nt) e C s H) l iter2 m)(hg2:∀e C s H,PG (bu X scope (own++fr.map λj=>X.N.getD j Nt) e C s H) l y)(hk:∀e C s H,PE (bu X scope (own++fr.map λj=>X.N.getD j Nt) e C s H) v t)(he:∀e C s H,PE (bu X scope (own++fr.map λj=>X.N.getD j Nt) e C s H) q r)(hs:∀x,NQ iter X.env x=pure x:=by intro _;rfl)(hs2:∀o x,NQ iter2 o x=pure x:=by intro _ _;rfl):PE X (.DictComp v q [#[tg,iter,[],0],#[l,iter2,[],0]] scope pos) (zX own.length fr p g m y t r):=by
 intro u s D H Q I h
 exact u7 own fr hkind hcell hnames hfr hin hi hs I h λ{it e tn J s2 s' H2 C R} T ⟨W,⟨m0,w0⟩,turn⟩ d I3 st f2 dn dd fin =>
  Iw B (λ_ _ z=>z) (hg _ _ _ _) (hi2 _ _ _ _) (hg2 _ _ _ _) (hk _ _ _ _) (he _ _ _ _) (hs2 _) T d I3 st f2 dn dd w0 turn fin
theorem ze (D:OG)(m own:List Str)(fr:List Nat)(O:X.calm=true)(r:X.env.scope=D)(Q:X.N=m)(ok:m6 scope D m fr=true)(hi:PI X tg iter u)(hg:∀d C s H,PG (bu X scope (own++fr.map λj=>m.getD j Nt) d C s H) tg g)(hi2:∀d C s H,PI (bu X scope (own++fr.map λj=>m.getD j Nt) d C s H) l iter2 o)(hg2:∀d C s H,PG (bu X scope (own++fr.map λj=>m.getD j Nt) d C s H) l I)(hk:∀d C s H,PE (bu X scope (own++fr.map λj=>m.getD j Nt) d C s H) G B)(he:∀d C s H,PE (bu X scope (own++fr.map λj=>m.getD j Nt) d C s H) v y)(hs:∀x,NQ iter X.env x=pure x:=by intro _;rfl)(hs2:∀t x,NQ iter2 t x=pure x:=by intro _ _;rfl):PE X (.DictComp G v [#[tg,iter,[],0],#[l,iter2,[],0]] scope pos) (zX own.length fr u g o I B y):=by
 subst r Q;unfold m6 at ok;simp only[NO,NS,bne_iff_ne,beq_iff_eq,Qg]at ok;have((L,q),J):=ok;refine Bj own fr O L (λx p=>(q x p).1.1) (λx p e=>?_) (λx p e=>?_) (λj M=>J j M) hi hg hi2 hg2 hk he hs hs2
 .rcases(q x p).1.2 with z|z
  .exact absurd e z
  .exact z
 .rcases(q x p).2 with(z|z)|z
  .exact absurd e z
  .exact .inl z
  .exact .inr z
def LH(d:Obj)(e:Array PL)(ep:Nat)(h:Heap)(l:Addr):Prop:=h.get? l=some d/\d.ExactDict/\d.data=.dict e ep/\(l == OV)=false
def LI(d:Array PL)(ep:Nat)(h:Heap)(i l:Addr)(k:Nat):Prop:=h.IsKeyIter i l k d.size ep
theorem LH.at (x:LH ob es ep h l)(k:∀o,h.get? l=some o->h'.get? l=some o):LH ob es ep h' l:=#[k _ x.1,x.2]
theorem LI.at (x:LI es ep h i l n)(k:∀o,h.get? i=some o->h'.get? i=some o):LI es ep h' i l n:=by
 have(o,e,r):=x;exact#[o,k o e,r]
theorem Inv.nC (I:Inv X d l H s)(j:H p=some (.dK kvs))(y:s.heap.get? p=some t):Inv X d l (upd H p (.nC t (.dK kvs))) s:=by
 have g:∀{b u},H b=some u->u≠.dK kvs->b≠p:=λe n z=>by subst z;rw[j]at e;exact n (Nk e).symm
 refine I.step (g':=s.gens) (d':=s.drawn) (t':=s.toks) (h':=s.heap) (ch:=[]) (λ_ z=>nomatch z) (λb o _ _ _ e _=>e) (λb o _ _ _ e _=>#[o.slots,e]) (λb o _ _ n=>?_) (λb o _ e=>#[o,e]) (λb r e=>?_) (λb o u e=>?_) (λb B e=>#[#[],?_]) (λm h=>h) (λb u e=>?_) I.bare
 .rw[au (λz=>by subst z;rw[j]at n;cases n)];exact n
 .rw[au (g e nofun)];exact e
 .rw[au (g e nofun)];exact e
 .rw[au (g e nofun)];simpa using e
 .by_cases v:b=p
  .subst v;rw[af]at e
   cases e
   refine#[y,(I.hok b _ j).stay (λ_ _ _ q=>q) (λc q=>?_) λc r q=>?_]
   .rw[au (g q nofun)];exact q
   .rw[au (g q nofun)];exact q
  .rw[au v]at e;refine(I.hok b u e).stay (λ_ _ _ q=>q) (λc q=>?_) λc r q=>?_
   .rw[au (g q nofun)];exact q
   .rw[au (g q nofun)];exact q
theorem zY (h:(bf P w).is k v=true):RelV (kV k) v:=by
 rcases er (show rX k v=true from h)with⟨i,t,rfl,rfl⟩|⟨x,t,rfl,rfl⟩
 .exact#[t,rfl]
 .exact#[t,rfl]
theorem Bk :entryFor table "dict_itemiterator.__iter__"=some QZ.«dict_keyiterator.__iter__» :=
 entryFor_alias (id':="dict_keyiterator.__iter__") (by kernel_rfl) rfl (by decide) (by kernel_rfl)
noncomputable def Itm (d : Obj) (kvs : List (Key × V)) (l : Addr) : It :=
  #[λi H => H l = some (.nC d (.dK kvs)) ∧ i < kvs.length,
   λi H v g => ∃ p e, H p = none ∧ v = .ref p ∧ g = upd H p (.tup [kV e.1, e.2]) ∧ kvs[i]? = some e,
   λi H => H l = some (.nC d (.dK kvs)) ∧ kvs.length ≤ i]
theorem KV.get (r:KV kvs vs):∀{i:Nat}{e:Key×V},kvs[i]?=some e->∃u,vs[i]?=some (e.1,u)/\RelV e.2 u:=by
 induction r with
 |nil=>intro i e h;simp at h
 |@cons a b l1 l2 q t ih =>
  intro i e h
  cases i with
  |zero =>
   simp only[QU,Q9]at h;subst h;refine#[b.2,?_,q.2];simp only[QU,Q9];exact Prod.ext q.1.symm rfl
  |succ n=>exact ih (by simpa using h)
theorem zf {K:bN}(he:m.ExactDict)(hd:m.data=.dict N ep)(D:KeysOf (bf P w) N)(B:Pairs (bf P w) N.toList vs)(C:(vs.map (·.1)).Nodup)(r:KV kvs vs)(it l:Addr)(ac:l≠it):
  Turn P w K (.Tuple O x1 pos) (Itm m kvs l) [it] it (λi h=>∃ok j,IsItemIter h it l i vs.length ep ok j) where
 mem:=by simp
 obj:=λi h g c e=>by
  have(ok,j,d):=g;obtain rfl:c=it:=by simpa using e
  exact#[_,d,λv z=>by cases z]
 keep:=λi h h' g k=>by
  have(ok,j,d):=g;exact#[ok,j,k it (by simp) _ d]
 item:=by
  intro X hP S hK e i t s σ H E I Q g Z;subst hP S hK;have(T,hi):=Z;have(ok,j,d):=g;have p:s.heap.DictAt (bf X.prog X.w) l vs ep:=#[m,N,(show eM X.prog X.w H s.heap l (.nC m (.dK kvs))from I.hok l _ T).1,he,hd,D,B,C];have hx:kvs[i]?=some kvs[i]:=by simp[hi]
  have(u,hu,ru):=r.get hx;refine wpAny_pyNext_items_item d p hu λR h' Y ho L ab U=>?_;refine#[.ref s.heap.objs.size,rfl,wpAny_letOwnedTupleGo_items (s:={s with heap:=h'}) ho λM aa y=>?_]
  have ne:it≠s.heap.objs.size:=λz=>by
   have:=Na d;rw[z]at this;exact Om _ this
  have kk:∀c o,c∉[it]->s.heap.get? c=some o->M.get? c=some o:=λc o e q=>by
   have G:c≠it:=by simpa using e
   exact(y.2 c G).trans (U c o G q)
  have J:M.get? s.heap.objs.size=some {cls:=.type "tuple",data:=.seq #[R,u,]}:=(y.2 _ ne.symm).trans L
  refine#[.ref s.heap.objs.size,upd H s.heap.objs.size (.tup [kV kvs[i].1,kvs[i].2]),I.vZ (t':=s.toks) Q kk (lj _) #[(by show 2<=mH;decide),_,.cons (zY Y) (.cons ru .nil),#[_,J,rfl,_,rfl],_,J,rfl],rfl,
   #[_,kvs[i],I.hok.fresh (lj _),rfl,rfl,hx],#[_,_,aa],λc e=>?_]
  obtain rfl:c=it:=by simpa using e
  rw[au ne];exact(Q c e).1
 done:=by
  intro X hP S hK e i t s σ H E I Q g Z;subst hP S hK;have(T,hi):=Z;have(ok,j,d):=g;have p:s.heap.DictAt (bf X.prog X.w) l vs ep:=#[m,N,(show eM X.prog X.w H s.heap l (.nC m (.dK kvs))from I.hok l _ T).1,he,hd,D,B,C]
  have hn:vs[i]?=none:=by
   have:=r.length;simp;omega
  refine wpAny_pyNext_items_end (I.ok.hd e) d p hn λh' Y=>#[rfl,I.vY (t':=s.toks) Q λc o e q=>Y c o (by simpa using e) q]
 self:=λ_ _ _ _ _ g h=>by
  have(ok,j,d):=g
  rename_i s0 _ _
  have L:s0.TypeIs (.ref it) "dict_itemiterator":=#[_,d,rfl];refine wpAny_pyIter_slot L RE (O7 RE L Bk ?_ (F.args_dict_itemiterator_iter_1 _));show Nd _ _ (ret (.ref it)) _ _ s0;exact tF #[_,rfl,"dict_itemiterator",_,L,F.slot_dict_itemiterator_next.lookup,h]
def Iz(l:TE):TI:=λj H R=>l j H λv g=>∃p d,v=.ref p/\g p=some (.dK d)/\∀e,R (Itm e d p) (upd g p (.nC e (.dK d)))
theorem xX {V:TE}(B:PE X o V)(hbase:QD o "items" X.env (eval o X.env)=eval o X.env:=by rfl)(hline:(r.endLine == l.line)=true:=by rfl):PI X (.Tuple L x1 pos) (.Call (.Attribute o "items" r) [] [] l) (Iz V):=by
 intro m s U H R I h;refine SO hbase hline (cR (B m s U H _ I h) λv g ⟨x,H1,Z,r1,p,kvs,e,W,q1⟩=>?_);subst e;obtain rfl:v=Value.ref p:=r1;have(ab,Q,C,N,D,Y,ep,B,j,z,y,t,u):=sG Z.hok (.inl W);have M:g.heap.DictOf (bf X.prog X.w) p C:=#[D,Y,ep,B,j,z,y,t,u];refine#["dict","dict.items",F.plainAttrs_dict,F.slot_dict_items,F.type_dict_items,M.typeIs,M.mapOf.noDict,?_];show Nd _ _ (callWith l (.builtin "dict.items") [.ref p] [] []) _ _ g;refine method_meetsIn F.slot_dict_items F.entry_dict_items rfl (TX #[rfl,M.typeIs,F.args_dict_items_1 _,_,meets_dict_items (bf X.prog X.w) p Q,#[C,M],?_]);have aa:@LT.lt Nat _ p g.heap.objs.size:=Na B;have S:g.heap.DictAt (bf X.prog X.w) p C ep:=#[D,Y,B,j,z,y,t,u];have O:(g.heap.push {cls:=.type "dict_items",data:=.fields #[.ref p]}).objs.size=g.heap.objs.size+1:=Oh ..;show Nd _ _ (Tq (.ref g.heap.objs.size)) _ _ _;refine wpAny_pyIter_items (knd:=bf X.prog X.w) (d:=p) (kvs:=C) (ep:=ep) #[_,Nh _ rfl,rfl,rfl] (S.push _) ?_;have T:Inv X m U (upd H1 p (.nC D (.dK kvs))) g:=Z.nC W B;dsimp only;have G:=Nh (g.heap.push {cls:=.type "dict_items",data:=.fields #[.ref p]}) (o:={cls:=.type "dict_itemiterator",data:=.fields #[.none,.bool false,.ref p,.int 0 0,.int C.length 0,.int ep 0,.none,.none,]}) rfl;rw[O]at G|-;refine#[g.heap.objs.size+1,[g.heap.objs.size+1],_,_,upd H1 p (.nC D (.dK kvs)),rfl,T.kept (t':=g.toks) (λc o q=>pC _ (pC _ q)),zf j z y t u N _ p (by show @Ne Nat _ _;omega),#[_,_,G],λb hb=>?_,q1 D]
 have J:g.heap.objs.size<=b:=by
  obtain rfl:b=g.heap.objs.size+1:=by simpa using hb
  exact Pr _ 1
 exact T.AN J (T.hok.fresh J)
theorem rg (l:Nat->St->List (Key×V)->Hp->Prop)(I:l 0 σ0 [] H0)(q:∀i d kvs H,i<=xs.length->l i d kvs H->kvs.length<=i)(hn:xs.length<=mH)(u:∀i d kvs H,i<=xs.length->l i d kvs H->H a=some (.nC t (.dK xs)))(hs:∀i x d kvs H p,xs[i]?=some x->l i d kvs H->H p=none->g (.ref p) d (upd H p (.tup [kV x.1,x.2])) λj M=>tt j M λok z=>if ok=true then tk j z λC L=>tv j L λv J=>∃o,C=kV o/\l (i+1) j (putK kvs o v) J else l (i+1) j kvs z)(hd:∀d kvs H,l xs.length d kvs H->∀p,H p=none->Q (.ref p) (upd H p (.dK kvs))):wz (Itm t xs a) g tt tk tv Q σ0 H0:=by
 refine xW xs.length l I q hn (λi d m H r p=>#[u i d m H (Ot r) p,r]) (λd m H p=>#[u _ d m H (lj _) p,lj _]) (λi d m H x N r p y=>?_) hd;have(B,e,G,rfl,rfl,D):=y;exact hs i e d m H B D p G
def L3(u:It)(H:TG)(D C:TE)(N:St->List (Key×V)->Hp->Prop)(r:St)(kvs:List (Key×V))(M:Hp):Prop :=
 ∃t:Nat->Nat->St->List (Key×V)->Hp->Prop,(∃q,t 0 q r kvs M)/\∀j q g d p,t j q g d p ->
   (u.stop j p/\N g d p) \/
   (u.go j p/\d.length<mH/\∃B:St->List (Key×V)->Hp->Prop,(∀e l o,B e l o->∃z,z < q/\t (j+1) z e l o)/\∀y o,u.yld j p y o->H y g o λe L =>
    D e L λG J=>C e J λv I=>∃m,G=kV m/\B e (putK d m v) I)
theorem zg {K:bN}(j:Nat->St->List (Key×V)->Hp->Prop)(z:j 0 σ0 [] H0)(u:∀i d kvs H,i<=xs.length->j i d kvs H->cP K H a xs)(hs:∀i x d kvs H,xs[i]?=some x->j i d kvs H->g x d H λl r=>wi2 l r λB C=>L3 B g2 tk tv (j (i+1)) l kvs C)(hz:∀d kvs H,j xs.length d kvs H->kvs.length<=mH)(hd:∀d kvs H,j xs.length d kvs H->∀p,H p=none->Q (.ref p) (upd H p (.dK kvs))):zW (zE K a) g wi2 g2 tk tv Q σ0 H0:=by
 refine#[λi m d kvs H=>m=xs.length-i/\i<=xs.length/\j i d kvs H,#[xs.length,by simp,Nu _,z],?_];rintro i m d kvs H ⟨rfl,v,p⟩;have q1:=u i d kvs H v p
 by_cases o:i<xs.length
 .refine .inr #[#[xs,xs[i],q1,by simp[o]],j (i+1),λl t r q=>#[xs.length - (i+1),(),rfl,o,q],λx D y=>?_];have(rfl,y):=y;exact hs i x d kvs _ (y xs q1) p
 .have e:i=xs.length:=()
  subst e;exact .inl #[#[xs,q1,lj _],hz d kvs H p,hd d kvs H p]
theorem Fi {K:bN}(l:Nat->St->List (Key×V)->Hp->Prop)(G:l 0 σ0 kvs H0)(C:∀j d kvs H,j<=ys.length->l j d kvs H->cP K H b ys)(hn:∀j d kvs H,j<ys.length->l j d kvs H->kvs.length<mH)(hs:∀j y d kvs H,ys[j]?=some y->l j d kvs H->g2 y d H λo L=>tk o L λB J=>tv o J λv I=>∃t,B=kV t/\l (j+1) o (putK kvs t v) I)(hd:∀d kvs H,l ys.length d kvs H->N d kvs H):L3 (zE K b) g2 tk tv N σ0 kvs H0:=by
 refine#[λj m d kvs H=>m=ys.length-j/\j<=ys.length/\l j d kvs H,#[ys.length,by simp,Nu _,G],?_];rintro j m d kvs H ⟨rfl,D,p⟩;have q1:=C j d kvs H D p
 by_cases r:j<ys.length
 .refine .inr #[#[ys,ys[j],q1,by simp[r]],hn j d kvs H r p,l (j+1),λu z M q=>#[ys.length - (j+1),(),rfl,r,q],λx O y=>?_];have(rfl,y):=y;exact hs j x d kvs _ (y ys q1) p
 .have e:j=ys.length:=()
  subst e;exact .inl #[#[ys,q1,lj _],hd d kvs H p]
theorem Paired.xY {F:α->β->Prop}{l1:List α}{l2:List β}(r:Paired F l1 l2){a:α}{b:β}(h:F a b):Paired F (l1++[a]) (l2++[b]):=by
 induction r with
 |nil=>exact .cons h .nil
 |cons q t ih=>exact .cons q ih
theorem Paired.getL {F:α->β->Prop}{l1:List α}{l2:List β}(r:Paired F l1 l2):∀{i:Nat}{b:β},l2[i]?=some b->∃a,l1[i]?=some a/\F a b:=by
 induction r with
 |nil=>intro i b h;simp at h
 |@cons a b l1 l2 q t ih =>
  intro i c h
  cases i with
  |zero =>
   simp only[QU,Q9]at h;subst h;exact#[a,by simp,q]
  |succ n =>
   have(x,d,f):=ih (by simpa using h);exact#[x,by simpa using d,f]
theorem lT {d:List (Key×V)}(h:∀e∈d,e.1≠k):putK d k v=d++[(k,v)]:=by
 unfold putK
 have:(d.any λe=>decide (e.1=k))=false:=by
  rw[Q0];intro e g
  simpa using h e g
 rw[this];rfl
end L2
namespace G14
open PySem L2
noncomputable def tl(kl:Kl):List (Str×Str×List Kk):=kl.flatMap λk=>k.2.map λt=>(t.1,k.1,t.2)
def Fj(K:bN)(H:Hp)(x:Str×Str×List Kk)(e:Key×V):Prop:=∃q d,e=(Sum.inr x.1,V.ref q)/\H q=some (.tup [.str x.2.1,d])/\Rp K H (.t (x.2.2.map jI)) d
theorem Fj.same (t:Fj K H x e)(s:aT H d):Fj K d x e:=by
 have(q,g,e,h,r):=t;exact#[q,g,e,s _ _ h,r.same s]
theorem oW (kl:Kl):(tl kl).map (·.1)=jc kl:=by
 unfold tl jc;rw[List.map_flatMap]
 congr 1
 funext k
 rw[Oa];rfl
theorem rP (l:Kl)(k:Str×List (Str×List Kk)):tl (l++[k])=tl l++k.2.map λt=>(t.1,k.1,t.2):=by
 unfold tl;rw[NU];simp
def xZ(K:bN):Sp:=λj H Q _=>∃(v:V) (e:Kl) (l:T),j=[v]/\Rp K H (.t [.t (e.map gZ),l]) v/\wV e/\(jc e).Nodup /\
 ∀(p:Addr) (g:Hp) (d:List (Key×V)),aT H g->H p=none->g p=some (.dK d)->Paired (Fj K g) (tl e) d->Q (.ref p) g
structure L4(K:bN) (H:Hp) (xs:List (Str×Str×List Kk)) (H2:Hp) (kvs:List (Key×V)):Prop where
 s:aT H H2
 p:Paired (Fj K H2) xs kvs
theorem tN :Nm VU (ak jQ):=by decide
theorem tO :Lm VU (ak jQ):=by decide
theorem oX :aZ VU Wb (ak jQ):=by ac_rfl
theorem zh (F:jq K "tags_of" "tags_of" jQ f fd):cA P w K mg base gy 1 f fd Wb (xZ K):=by
 refine F.ok oX (λvs H Q E h=>?_) (λcdv A outer s H vs Q E hr h=>?_)
 .have(_,_,_,rfl,_):=h;rfl
 have(v,g,dt,rfl,r,hB,ag,k):=h;refine#[_,(Z5 (Zp (va tN 0) (Z9 (2) (Ze (ga oX.nd tO 1) (Zs (ga oX.nd tO 2))))) (Zd (Zu (ze (ak jQ) VU Vt [] rfl rfl rfl (by decide) (cz (va tN 1)) (λ_ _ _ _=>(Z9 (2) (Ze (Z3 (i:=0) (show(Vt:List Str).Nodup by decide)) (Zs (Z3 (i:=1) (show(Vt:List Str).Nodup by decide)))))) (λ_ _ _ _=>(zU K rfl (va (show Nm Vt _ by left) 1))) (λ_ _ _ _=>(Z9 (2) (Ze (Z3 (i:=2) (show(Vt:List Str).Nodup by decide)) (Zs (Z3 (i:=3) (show(Vt:List Str).Nodup by decide)))))) (λ_ _ _ _=>(va (show Nm Vt _ by left) 2)) (λ_ _ _ _=>(Zl (Z1 (va (show Nm Vt _ by left) 0) (Zc (va (show Nm Vt _ by left) 3))))))))),?_]
 right
 right
 have(pa,u1,u2,rfl,aq,g1,g2):=r.t2;have(a,W,rfl,sq,rs):=g1.aS;have Y:=rs.length;rw[bM]at Y;have aa:=qg hB;rw[<-oW,bM]at aa;ext;refine zg (K:=K) (xs:=W) (λi o d R=>(∃y1 y2 V U,o=[y1,y2,V,U])/\L4 K H (tl (g.take i)) R d) #[#[_,_,_,_,rfl],aT.refl _,.nil] ?_ ?_ ?_ ?_
 .rintro i o d R hi ⟨_,l⟩;exact sq.same l.s
 .rintro i xv o d R hxv ⟨⟨_,_,_,_,rfl⟩,l⟩;have(t,L,rx):=rs.get' hxv;rw[xn]at L;have(kd,N,rfl):=we.mp L;have aj:=(bH.mp N).1;have y:g.take (i+1)=g.take i++[kd]:=by rw[mu aj,(bH.mp N).2]
  have(ka,k1,k2,rfl,ab,q1,q2):=(show Rp K H (.t [.s kd.1,.t (kd.2.map kI)]) xv from rx).t2;obtain rfl:=q1.aM;have ao:=ab.same l.s;have(X,D,rfl,G,I):=q2.aS;have Z:=I.length;rw[bM]at Z;have an:=G.same l.s;ext
  have M:∀j,j<=kd.2.length->((tl (g.take i)++(kd.2.take j).map λt=>(t.1,kd.1,t.2)).map (·.1)).Nodup:=λj hj=>by
   refine ag.sublist ?_;rw[<-oW];refine Qw _ ?_;refine UA.trans (l₂:=tl (g.take (i+1))) ?_ ?_
   .rw[y,rP];exact UA.append (UA.refl _) (Qw _ (Ql _ _))
   .conv=>rhs;rw[<-Rn (i+1) g]
    unfold tl;rw[NU];exact List.sublist_append_left _ _
  have ac:∀j,(tl (g.take i)++(kd.2.take j).map λt=>(t.1,kd.1,t.2)).length<=100:=λj=>by
   have e:(tl (g.take (i+1))).length<=(tl g).length:=by
    conv=>rhs;rw[<-Rn (i+1) g]
    unfold tl;rw[NU,i4];omega
   rw[y,rP,i4,bM]at e;rw[i4,bM,I0];omega
  refine Fi (K:=K) (ys:=D) (λj o d B=>(∃V U,o=[some (.str kd.1),some (.ref X),V,U])/\L4 K H (tl (g.take i)++(kd.2.take j).map λt=>(t.1,kd.1,t.2)) B d) #[#[_,_,rfl],by rw[P5,OX,NF];exact l] ?_ ?_ ?_ ?_
  .rintro j o d B hj ⟨_,m⟩;exact G.same m.s
  .rintro j o d B hj ⟨_,m⟩;have e1:=m.p.length;have e2:=ac j;exact br ()
  .rintro j yv o d B hyv ⟨⟨_,_,rfl⟩,m⟩;have(t,L,ry):=I.get' hyv;rw[xn]at L;have(u,J,rfl):=we.mp L;have O:=(bH.mp J).1;have am:kd.2.take (j+1)=kd.2.take j++[u]:=by rw[mu O,(bH.mp J).2]
   have(ga,w1,C,rfl,al,p1,p2):=(show Rp K H (.t [.s u.1,.t (u.2.map jI)]) yv from ry).t2;obtain rfl:=p1.aM;have ap:=al.same m.s;have r3:=p2.same m.s;have hn:=M (j+1) O;have en:(tl (g.take i)++(kd.2.take (j+1)).map λt=>(t.1,kd.1,t.2))=(tl (g.take i)++(kd.2.take j).map λt=>(t.1,kd.1,t.2))++[(u.1,kd.1,u.2)]:=by rw[am,i5,Od];rfl
   rw[en,i5]at hn
   have nw:∀kv∈d,kv.1≠Sum.inr u.1:=λkv ai z=>by
    have(n,ah):=NV ai;have(x,hx,q,iv,e,_):=Paired.getL m.p ah;rw[e]at z;have z':x.1=u.1:=Ow z;have:=(OH.mp hn).2.2 x.1 (NY (Nf hx)) u.1 (by simp);exact this z'
   ext T ad;have S:=ae ad (.tup [.str kd.1,C]);have h4:upd B T (.tup [.str kd.1,C]) T=some (.tup [.str kd.1,C]):=af;generalize upd B T (.tup [.str kd.1,C])=H4 at S h4|-;refine#[Sum.inr u.1,rfl,#[_,_,rfl],?_];rw[lT nw,en];exact#[m.s.trans S,Paired.xY (Paired.imp' (λx e h=>Fj.same h S) m.p) #[T,C,rfl,h4,r3.same S]]
  .rintro o d B ⟨⟨_,_,rfl⟩,m⟩;rw[show D.length=kd.2.length by omega,Nr]at m;rw[y,rP];exact#[#[_,_,_,_,rfl],m]
 .rintro o d R ⟨_,l⟩;rw[show W.length=g.length by omega,Nr]at l;have:=l.p.length;exact small ()
 .rintro o d R ⟨_,l⟩ p hp;rw[show W.length=g.length by omega,Nr]at l;have s3:=ae hp (.dK d);ext;exact k p _ d (l.s.trans s3) (l.s.free hp) af (Paired.imp' (λx e h=>Fj.same h s3) l.p)
noncomputable def K0(s:Stmt)(i:Nat):Stmt:=match s with
 |.ClassDef _ _ _ b _ _ _ _ _ _ _=>b.getD i (.Pass #[0,0,0,0])
 |_=>.Pass #[0,0,0,0]
noncomputable abbrev fS:Stmt:=K0 EV 0
structure qh where
 dx:Addr
 dK:Addr
 dT:Addr
 dM:Addr
 dD:Addr
 lG:Addr
 lO:Addr
 kv:List (Key×V)
noncomputable def GU(a:qh):List (Str×V):=[("kinds",.ref a.dK),("kind_of_tag",.ref a.dT),("many_of_tag",.ref a.dM),("many_of_def",.ref a.dD),("gaps",.ref a.lG),("opens",.ref a.lO)]
def So(o:Addr)(H d:Hp):Prop:=∀b u,b≠o->H b=some u->d b=some u
theorem So.refl (o:Addr)(H:Hp):So o H H:=λ_ _ _ e=>e
theorem So.same (a:So o H g)(s:aT g d):So o H d:=λb u n e=>s _ _ (a b u n e)
theorem So.upd (a:So o H d)(x:HO):So o H (L2.upd d o x):=λb u n e=>by rw[au n];exact a b u n e
theorem So.trans (a:So o H g)(b:So o g d):So o H d:=λc u n e=>b c u n (a c u n e)
theorem So.free (a:So o H d)(n:b≠o)(e:d b=none):H b=none:=by
 cases q:H b with
 |none=>rfl
 |some u=>rw[a b u n q]at e;cases e
theorem So.kt (a:So o H g)(e:H o=some (.ins C j fs)):Kt H g:=by
 intro b l d;rcases d with d|⟨z,d⟩
 .exact .inl (a b _ (λq=>by rw[q,e]at d;cases d) d)
 .exact .inr #[z,a b _ (λq=>by rw[q,e]at d;cases d) d]
def K1(a:qh)(H:Hp)(k:Str×List (Str×List Kk))(e:Key×V):Prop:=∃l,e=(Sum.inr k.1,V.ref l)/\H l=some (.lst (k.2.map λt=>.str t.1))/\l≠a.lG/\l≠a.lO
structure hU(C:Addr) (H0:Hp) (o:Addr) (a:qh) (kl:Kl) (ds:List (Str×Nat)) (gs os:List Int) (H:Hp):Prop where
 sm:aT H0 H
 d0:H0 a.dD=none
 g0:H0 a.lG=none
 o0:H0 a.lO=none
 go:a.lG≠a.lO
 kd:a.dK≠a.dD
 td:a.dT≠a.dD
 md:a.dM≠a.dD
 ins:H o=some (.ins C a.dx (GU a))
 kk:H a.dK=some (.dK a.kv)
 ke:Paired (K1 a H) kl a.kv
 kt:H a.dT=some (.dK ((tl kl).map λx=>(Sum.inr x.1,.str x.2.1)))
 km:H a.dM=some (.dK ((tl kl).map λx=>(Sum.inr x.1,.int x.2.2.length)))
 dd:H a.dD=some (.dK (ds.map λd=>(Sum.inr d.1,.int d.2)))
 gg:H a.lG=some (.lst (gs.map V.int))
 oo:H a.lO=some (.lst (os.map V.int))
theorem hU.step {os:List Int}(h:hU C H0 o a kl ds gs os H)(s:∀b u,b≠a.dD->b≠a.lG->b≠a.lO->H b=some u->H' b=some u)(dd:H' a.dD=some (.dK (m.map λd=>(Sum.inr d.1,.int d.2))))(gg:H' a.lG=some (.lst (j.map V.int)))(oo:H' a.lO=some (.lst (g.map V.int))):hU C H0 o a kl m j g H':=by
 have y:=h.kk;have v:=h.ke;have dict:∀{b:Addr}{p:List (Key×V)},b≠a.dD->H b=some (.dK p)->H' b=some (.dK p):=λ{b p} n e=>s b _ n (λz=>by rw[z,h.gg]at e;cases e) (λz=>by rw[z,h.oo]at e;cases e) e;refine#[λb u e=>?_,h.d0,h.g0,h.o0,h.go,h.kd,h.td,h.md,?_,dict h.kd y,?_,dict h.td h.kt,dict h.md h.km,dd,gg,oo]
 .exact s b u (ay e h.d0) (ay e h.g0) (ay e h.o0) (h.sm b u e)
 .exact s o _ (λz=>by have:=h.ins;rw[z,h.dd]at this;cases this) (λz=>by have:=h.ins;rw[z,h.gg]at this;cases this) (λz=>by have:=h.ins;rw[z,h.oo]at this;cases this) h.ins
 .exact Paired.imp' (λk e ⟨l,B,q,t,r⟩=>#[l,B,s l _ (λz=>by rw[z,h.dd]at q;cases q) t r q,t,r]) v
def j4(a:qh)(H H':Hp):Prop:=∀b u,b≠a.dD->b≠a.lG->b≠a.lO->H b=some u->H' b=some u
theorem j4.refl (a:qh)(H:Hp):j4 a H H:=λ_ _ _ _ _ e=>e
theorem j4.same (x:j4 a H g)(s:aT g d):j4 a H d:=λb u m l j e=>s _ _ (x b u m l j e)
theorem j4.of (s:aT H d):j4 a H d:=λb u _ _ _ e=>s _ _ e
theorem j4.trans (x:j4 a H m)(y:j4 a m l):j4 a H l:=λb u j g d e=>y _ _ j g d (x b u j g d e)
theorem j4.Cz (x:j4 a H d)(e:H b=none)(o:HO):j4 a H (upd d b o):=λc u l j g h=>by rw[au (ay h e)];exact x c u l j g h
theorem hU.uz {os:List Int}(h:hU C H0 o a kl ds gs os H)(x:j4 a H H'):Kt H H':=by
 intro b e d;rcases d with d|⟨z,d⟩
 .exact .inl (x b _ (λq=>by rw[q,h.dd]at d;cases d) (λq=>by rw[q,h.gg]at d;cases d) (λq=>by rw[q,h.oo]at d;cases d) d)
 .exact .inr #[z,x b _ (λq=>by rw[q,h.dd]at d;cases d) (λq=>by rw[q,h.gg]at d;cases d) (λq=>by rw[q,h.oo]at d;cases d) d]
theorem Paired.both {F G:e->d->Prop}:∀{l1:List e}{l2:List d},Paired F l1 l2->Paired G l1 l2->Paired (λx y=>F x y/\G x y) l1 l2
 |_,_,.nil,_=>.nil
 |_,_,.cons f t,.cons g u=>.cons #[f,g] (Paired.both t u)
theorem hU.other {os:List Int}(h:hU C H0 o a kl ds gs os H)(d:hU C H0 o a kl r j g t)(e:t b=none)(x:HO):hU C H0 o a kl ds gs os (upd H b x):=by
 have n:∀{c:Addr}{u:HO},t c=some u->c≠b:=λq=>ay q e;refine#[h.sm.n9 (d.sm.free e) x,h.d0,h.g0,h.o0,h.go,h.kd,h.td,h.md,?_,?_,?_,?_,?_,?_,?_,?_]
 .rw[au (n d.ins)];exact h.ins
 .rw[au (n d.kk)];exact h.kk
 .refine Paired.imp' (λk y ⟨⟨l,G,D,z,v⟩,B,p,m,_,_⟩=>?_) (Paired.both h.ke d.ke);subst G;obtain rfl:l=B:=V.ref.inj (Su p).2;exact#[l,rfl,by rw[au (n m)];exact D,z,v]
 .rw[au (n d.kt)];exact h.kt
 .rw[au (n d.km)];exact h.km
 .rw[au (n d.dd)];exact h.dd
 .rw[au (n d.gg)];exact h.gg
 .rw[au (n d.oo)];exact h.oo
theorem j4.setG (x:j4 a H e)(y:HO):j4 a H (upd e a.lG y):=λc u j d g h=>by rw[au d];exact x c u j d g h
theorem j4.CW (x:j4 a H e)(y:HO):j4 a H (upd e a.lO y):=λc u j g d h=>by rw[au d];exact x c u j g d h
theorem hU.ext {os:List Int}(h:hU C H0 o a kl ds gs os H)(s:aT H H'):hU C H0 o a kl ds gs os H':=h.step (λb u _ _ _ e=>s b u e) (s _ _ h.dd) (s _ _ h.gg) (s _ _ h.oo)
theorem hU.dG {os:List Int}(h:hU C H0 o a kl ds gs os H):a.dD≠a.lG:=λz=>by have:=h.dd;rw[z,h.gg]at this;cases this
theorem hU.dO {os:List Int}(h:hU C H0 o a kl ds gs os H):a.dD≠a.lO:=λz=>by have:=h.dd;rw[z,h.oo]at this;cases this
theorem hU.setG {os:List Int}(h:hU C H0 o a kl ds gs os H)(d:List Int):hU C H0 o a kl ds d os (upd H a.lG (.lst (d.map V.int))) :=
 h.step (λb u _ n _ e=>by rw[au n];exact e) (by rw[au h.dG];exact h.dd) af (by rw[au h.go.symm];exact h.oo)
theorem hU.CW {os:List Int}(h:hU C H0 o a kl ds gs os H)(d:List Int):hU C H0 o a kl ds gs d (upd H a.lO (.lst (d.map V.int))) :=
 h.step (λb u _ _ n e=>by rw[au n];exact e) (by rw[au h.dO];exact h.dd) (by rw[au h.go];exact h.gg) af
theorem hU.uA {os:List Int}(h:hU C H0 o a kl ds gs os H)(g:List (Str×Nat)):hU C H0 o a kl g gs os (upd H a.dD (.dK (g.map λd=>(Sum.inr d.1,.int d.2)))) :=
 h.step (λb u n _ _ e=>by rw[au n];exact e) af (by rw[au h.dG.symm];exact h.gg) (by rw[au h.dO.symm];exact h.oo)
theorem tP (a:qh):(GU a).lookup ("kinds":Str)=some (V.ref a.dK):=by kernel_rfl
theorem CY (a:qh):(GU a).lookup ("kind_of_tag":Str)=some (V.ref a.dT):=by kernel_rfl
theorem vc (a:qh):(GU a).lookup ("many_of_tag":Str)=some (V.ref a.dM):=by kernel_rfl
theorem yb (a:qh):(GU a).lookup ("many_of_def":Str)=some (V.ref a.dD):=by kernel_rfl
theorem Bl (a:qh):(GU a).lookup ("gaps":Str)=some (V.ref a.lG):=by kernel_rfl
theorem zj (a:qh):(GU a).lookup ("opens":Str)=some (V.ref a.lO):=by kernel_rfl
structure Jr(K:bN) (C:Addr):Prop where
 c:GF K C
 kinds:jD K C "kinds"
 ktag:jD K C "kind_of_tag"
 mtag:jD K C "many_of_tag"
 mdef:jD K C "many_of_def"
 gaps:jD K C "gaps"
 opens:jD K C "opens"
theorem CZ (a:qh):aX "opens" (.ref a.lO) (aX "gaps" (.ref a.lG) (aX "many_of_def" (.ref a.dD) (aX "many_of_tag" (.ref a.dM) (aX "kind_of_tag" (.ref a.dT) (aX "kinds" (.ref a.dK) [])))))=GU a:=by kernel_rfl
def zZ(K:bN)(C:Addr):Sp:=λj H Q _=>∃(e:Hp) (o l:Addr) (v:V) (d:Kl) (m:T),j=[.ref o,v]/\aT e H/\e o=none/\H o=some (.ins C l [])/\Rp K H (.t [.t (d.map gZ),m]) v/\wV d/\(jc d).Nodup/\(d.map (·.1)).Nodup /\
 ∀(g:Hp) (a:qh),hU C e o a d [] [] [] g->Q .eN g
theorem tQ :∀(l a:List Str) (x:Str),cH a (l++[x])=match cH a l with
  |some y=>some y
  |none=>if x∈a++l then some x else none
 | [],a,x=>by
  show(if x∈a then some x else cH (a++[x]) [])=_;rw[NF];rfl
 |y::r,a,x=>by
  show(if y∈a then some y else cH (a++[y]) (r++[x]))=_;have d:=tQ r (a++[y]) x
  by_cases h:y∈a
  .have e:cH a (y::r)=some y:=by show(if y∈a then some y else _)=_;rw[if_pos h]
   rw[if_pos h,e]
  .have e:cH a (y::r)=cH (a++[y]) r:=by show(if y∈a then some y else _)=_;rw[if_neg h]
   rw[if_neg h,e,d,Od];rfl
theorem kX (h:cH [] l=none):cH [] (l++[x])=if x∈l then some x else none:=by
 rw[tQ,h];rfl
theorem qM :∀(l a:List Str),cH a l=none->l.Nodup/\∀x∈l,x∉a
 | [],a,_=>#[TJ,λ_ h=>nomatch h]
 |y::r,a,h=>by
  have d:(if y∈a then some y else cH (a++[y]) r)=none:=h
  by_cases c:y∈a
  .rw[if_pos c]at d;cases d
  .rw[if_neg c]at d;have(g,e):=qM r _ d;refine#[O5.mpr #[λz=>e y z (by simp),g],λx hx=>?_];rcases Nc.mp hx with rfl|hx
   .exact c
   .exact λz=>e x hx (by simp[z])
theorem yc :∀(d:List (Str×List Kk)) (ta:List Str),gi ah ta d=none->cH [] ta=none->cH [] (ta++d.map (·.1))=none
 | [],ta,_,h=>by rw[OX,NF];exact h
 |t::r,ta,h,hd=>by
  unfold gi at h
  cases e:cH [] (ta++[t.1])with
  |some x=>rw[e]at h;cases h
  |none =>
   rw[e]at h
   cases e2:fR (iC ah) t.2 with
   |some n=>rw[e2]at h;cases h
   |none =>
    rw[e2]at h;have:=yc r _ h e
    rwa [Od]at this
theorem vd :∀(kl:Kl) (ah ta:List Str),cO ah ta kl=none->cH [] ah=none->cH [] ta=none->cH [] (ah++kl.map (·.1))=none/\cH [] (ta++jc kl)=none
 | [],ah,ta,_,h1,h2=>by
  show cH [] (ah++[])=none/\cH [] (ta++[])=none;rw[NF,NF];exact#[h1,h2]
 |k::r,ah,ta,h,h1,h2=>by
  unfold cO at h
  cases e:cH [] (ah++[k.1])with
  |some x=>rw[e]at h;cases h
  |none =>
   rw[e]at h
   cases e2:gi ah ta k.2 with
   |some n=>rw[e2]at h;cases h
   |none =>
    rw[e2]at h;have(a,b):=vd r _ _ h e (yc _ _ e2 h2);rw[Od]at a b;exact#[a,b]
theorem rj (h:cO [] [] kl=none):(kl.map (·.1)).Nodup/\(jc kl).Nodup:=by
 have(a,b):=vd kl [] [] h rfl rfl;exact#[(qM _ _ a).1,(qM _ _ b).1]
noncomputable def fM(e:List Str)(d:List Int)(k:Kk):Except Flt (List Int):=match k.core with
 |.kd x=>if x∈e then .ok d else .error (.nn,x)
 |.op n=>if n∈d then .error (.tw,"?")else .ok (d++[n])
 |_=>.ok d
noncomputable def cX(d:List Str):List Str->List Int->List (Str×Kk)->Except Flt (List Int)
 |_,os,[]=>.ok os
 |ah,os,p::r=>if p.1∈ah then .error (.tw,p.1)else match fM d os p.2 with
  |.error f=>.error f
  |.ok os'=>cX d (ah++[p.1]) os' r
theorem rA {d ah:List Str}{g:List Int}{ps:List (Str×Kk)}{i:Nat}{p:Str×Kk}(h:ps[i]?=some p):cX d ah g (ps.drop i)=if p.1∈ah then .error (.tw,p.1)else match fM d g p.2 with
  |.error f=>.error f
  |.ok os'=>cX d (ah++[p.1]) os' (ps.drop (i+1)):=by
 have e:=(bH.mp h).1;have j:ps.drop i=p::ps.drop (i+1):=by rw[NJ e,(bH.mp h).2]
 rw[j];rfl
noncomputable def jJ(kl:Kl)(t:Str):Option (Str×Str×List Kk):=(tl kl).find? λx=>decide (x.1=t)
noncomputable def Aa(kl:Kl)(n:Str):Option (Str×List (Str×List Kk)):=kl.find? λk=>decide (k.1=n)
theorem qi {e:Type}(d:e->Str)(f:e->V)(t:Str):∀l:List e,cV (l.map λx=>((Sum.inr (d x):Key),f x)) (Sum.inr t)=(l.find? λx=>decide (d x=t)).map f
 | []=>rfl
 |x::r=>by
  rw[Ny]
  by_cases h:d x=t
  .rw[fJ (show(Sum.inr (d x):Key)=Sum.inr t by rw[h]),List.find?_cons_of_pos (by simpa using h)];rfl
  .rw[fK (λz=>h (Ow z)),List.find?_cons_of_neg (by simpa using h)];exact qi d f t r
noncomputable def jz(kl:Kl)(a:Str×List Str):Option Flt:=match jJ kl a.1 with
 |none=>some (.nn,a.1)
 |some y=>if a.2.length=y.2.2.length then(cH [] a.2).map λx=>(.tw,x)else some (.wr,a.1)
noncomputable def gx(kl:Kl)(arms:List (Str×List Str)):Option Flt:=match arms with
 | []=>some (.nn,"match")
 |a::r=>match(a::r).find? (λb=>decide ((jJ kl b.1).isSome=false))with
  |some b=>some (.nn,b.1)
  |none=>if((a::r).map (·.1)).isPerm ((((jJ kl a.1).bind λy=>Aa kl y.2.1).map λk=>k.2.map (·.1)).getD [])=true then(a::r).findSome? (jz kl)else some (.wr,"match")
noncomputable def eO(kl:Kl)(ds:List (Str×Nat))(gs:List Int)(ns:List Str):Hd->Nat->Except Flt (List Int)
 |.name x,_=>if x∈ns then .ok gs else .error (.nn,x)
 |.tag t,n=>match jJ kl t with
  |none=>.error (.nn,t)
  |some y=>if n=y.2.2.length then .ok gs else .error (.wr,t)
 |.call f,n=>match ds.find? (λd=>decide (d.1=f))with
  |none=>.error (.nn,f)
  |some d=>if n=d.2 then .ok gs else .error (.wr,f)
 |.mat arms,_=>match gx kl arms with
  |some f=>.error f
  |none=>.ok gs
 |.fold x y,_=>if x=y then .error (.tw,x)else .ok gs
 |.gap n,_=>if n∈gs then .error (.tw,"?")else .ok (gs++[n])
 |_,_=>.ok gs
noncomputable def iN(kl:Kl)(ds:List (Str×Nat)):List Int->List (List Str×Tm)->Except Flt (List Int)
 |gs,[]=>.ok gs
 |gs,p::r=>match eO kl ds gs p.1 p.2.hd p.2.ks.length with
  |.error f=>.error f
  |.ok gs'=>iN kl ds gs' r
structure mC where
 d:Addr
 dk:Addr
 dt:Addr
 lo:Addr
 lg:Addr
 dd:Addr
 kv:List (Key×V)
noncomputable def ky(x:Str):Key:=Sum.inr x
noncomputable def Ea(S:mC):List (Key×V):=[(ky "kinds",.ref S.dk),(ky "tags",.ref S.dt),(ky "opens",.ref S.lo),(ky "gaps",.ref S.lg),(ky "defs",.ref S.dd)]
def K2(S:mC)(H:Hp)(k:Str×List (Str×List Kk))(e:Key×V):Prop:=∃l,e=(Sum.inr k.1,V.ref l)/\H l=some (.lst (k.2.map λt=>.str t.1))/\l≠S.lg/\l≠S.lo
def IA(H:Hp)(x:Str×Str×Nat)(e:Key×V):Prop:=∃q,e=(Sum.inr x.1,V.ref q)/\H q=some (.tup [.str x.2.1,.int x.2.2])
def K7(H:Hp)(x:Str×Nat)(e:Key×V):Prop:=∃q,e=(Sum.inr x.1,V.ref q)/\H q=some (.tup [.str x.1,.int x.2])
structure L5(H0:Hp) (S:mC):Prop where
 d0:H0 S.d=none
 k0:H0 S.dk=none
 t0:H0 S.dt=none
 o0:H0 S.lo=none
 g0:H0 S.lg=none
 f0:H0 S.dd=none
 kt:S.dk≠S.dt
 kd:S.dk≠S.dd
 td:S.dt≠S.dd
 dk:S.d≠S.dk
 dt:S.d≠S.dt
 dd:S.d≠S.dd
 og:S.lo≠S.lg
structure eG(H0:Hp) (S:mC) (kn:Kl) (tg:List (Str×Str×Nat)) (ds:List (Str×Nat)) (gs os:List Int) (H:Hp):Prop where
 n:L5 H0 S
 sm:aT H0 H
 sd:H S.d=some (.dK (Ea S))
 hk:H S.dk=some (.dK S.kv)
 ke:Paired (K2 S H) kn S.kv
 ht:∃tv,H S.dt=some (.dK tv)/\Paired (IA H) tg tv
 hd:∃dv,H S.dd=some (.dK dv)/\Paired (K7 H) ds dv
 hg:H S.lg=some (.lst (gs.map V.int))
 ho:H S.lo=some (.lst (os.map V.int))
structure rQ(H0:Hp) (S:mC) (m:Nat) (H:Hp):Prop where
 n:L5 H0 S
 sm:aT H0 H
 sd:H S.d=some (.dK (Ea S))
 hd:∃dv,H S.dd=some (.dK dv)/\dv.length<=m
def iA(S:mC)(H d:Hp):Prop:=∀b u,b≠S.dk->b≠S.dt->b≠S.dd->b≠S.lo->b≠S.lg->H b=some u->d b=some u
theorem iA.refl (S:mC)(H:Hp):iA S H H:=λ_ _ _ _ _ _ _ e=>e
theorem iA.of (s:aT H d):iA S H d:=λb u _ _ _ _ _ e=>s _ _ e
theorem iA.trans (x:iA S H p)(y:iA S p o):iA S H o:=λb u m l j g d e=>y _ _ m l j g d (x b u m l j g d e)
theorem iA.same (x:iA S H e)(y:aT e d):iA S H d:=x.trans (iA.of y)
theorem eG.w {os:List Int}(h:eG H0 S kn tg ds gs os H){n:Nat}(hn:ds.length<=n):rQ H0 S n H:=by
 have(g,e,d):=h.hd;exact#[h.n,h.sm,h.sd,g,e,by rw[<-d.length];exact hn]
theorem eG.ext {os:List Int}(h:eG H0 S kn tg ds gs os H)(s:aT H H'):eG H0 S kn tg ds gs os H':=by
 have(j,t1,t2):=h.ht;have(m,p,o):=h.hd;exact#[h.n,h.sm.trans s,s _ _ h.sd,s _ _ h.hk,Paired.imp' (λk e ⟨l,g,d,n⟩=>#[l,g,s _ _ d,n]) h.ke,#[j,s _ _ t1,Paired.imp' (λk e ⟨l,g,d⟩=>#[l,g,s _ _ d]) t2],#[m,s _ _ p,Paired.imp' (λk e ⟨l,g,d⟩=>#[l,g,s _ _ d]) o],s _ _ h.hg,s _ _ h.ho]
theorem rQ.ext {n:Nat}(h:rQ H0 S n H)(s:aT H H'):rQ H0 S n H':=by
 have(d,g,e):=h.hd;exact#[h.n,h.sm.trans s,s _ _ h.sd,d,s _ _ g,e]
theorem rQ.le {n:Nat}(h:rQ H0 S n H)(e:n<=m):rQ H0 S m H:=by
 have(d,j,g):=h.hd;exact#[h.n,h.sm,h.sd,d,j,Nz g e]
theorem eG.uz {os:List Int}(h:eG H0 S kn tg ds gs os H)(x:iA S H H'):Kt H H':=by
 have(m,t1,_):=h.ht;have(o,p,_):=h.hd
 have d:∀b u,H b=some u->(∀k,u≠.dK k)->(∀k,u≠.lst k)->H' b=some u:=λb u e j l =>
  x b u (λq=>j S.kv (by rw[q,h.hk]at e;exact(Nk e).symm)) (λq=>j m (by rw[q,t1]at e;exact(Nk e).symm)) (λq=>j o (by rw[q,p]at e;exact(Nk e).symm))
   (λq=>l _ (by rw[q,h.ho]at e;exact(Nk e).symm)) (λq=>l _ (by rw[q,h.hg]at e;exact(Nk e).symm)) e
 intro b r g;rcases g with g|⟨z,g⟩
 .exact .inl (d b _ g (λ_ z=>nomatch z) (λ_ z=>nomatch z))
 .exact .inr #[z,d b _ g (λ_ z=>nomatch z) (λ_ z=>nomatch z)]
theorem eG.setG {os:List Int}(h:eG H0 S kn tg ds gs os H)(j:List Int):eG H0 S kn tg ds j os (upd H S.lg (.lst (j.map V.int))):=by
 have(r,t1,t2):=h.ht;have(v,p,y):=h.hd;have g:∀{b:Addr}{u:HO},H b=some u->(∀k,u≠.lst k)->b≠S.lg:=λ{b u} e n q=>n _ (by rw[q,h.hg]at e;exact(Nk e).symm);refine#[h.n,h.sm.n9 h.n.g0 _,?_,?_,?_,#[r,?_,?_],#[v,?_,?_],af,?_]
 .rw[au (g h.sd (λ_ z=>nomatch z))];exact h.sd
 .rw[au (g h.hk (λ_ z=>nomatch z))];exact h.hk
 .exact Paired.imp' (λk e ⟨l,m,d,o,t⟩=>#[l,m,by rw[au o];exact d,o,t]) h.ke
 .rw[au (g t1 (λ_ z=>nomatch z))];exact t1
 .exact Paired.imp' (λk e ⟨l,m,d⟩=>#[l,m,by rw[au (g d (λ_ z=>nomatch z))];exact d]) t2
 .rw[au (g p (λ_ z=>nomatch z))];exact p
 .exact Paired.imp' (λk e ⟨l,m,d⟩=>#[l,m,by rw[au (g d (λ_ z=>nomatch z))];exact d]) y
 .rw[au h.n.og];exact h.ho
theorem eG.CW {os:List Int}(h:eG H0 S kn tg ds gs os H)(j:List Int):eG H0 S kn tg ds gs j (upd H S.lo (.lst (j.map V.int))):=by
 have(r,t1,t2):=h.ht;have(v,p,y):=h.hd;have g:∀{b:Addr}{u:HO},H b=some u->(∀k,u≠.lst k)->b≠S.lo:=λ{b u} e n q=>n _ (by rw[q,h.ho]at e;exact(Nk e).symm);refine#[h.n,h.sm.n9 h.n.o0 _,?_,?_,?_,#[r,?_,?_],#[v,?_,?_],?_,af]
 .rw[au (g h.sd (λ_ z=>nomatch z))];exact h.sd
 .rw[au (g h.hk (λ_ z=>nomatch z))];exact h.hk
 .exact Paired.imp' (λk e ⟨l,m,d,t,o⟩=>#[l,m,by rw[au o];exact d,t,o]) h.ke
 .rw[au (g t1 (λ_ z=>nomatch z))];exact t1
 .exact Paired.imp' (λk e ⟨l,m,d⟩=>#[l,m,by rw[au (g d (λ_ z=>nomatch z))];exact d]) t2
 .rw[au (g p (λ_ z=>nomatch z))];exact p
 .exact Paired.imp' (λk e ⟨l,m,d⟩=>#[l,m,by rw[au (g d (λ_ z=>nomatch z))];exact d]) y
 .rw[au h.n.og.symm];exact h.hg
theorem eG.LJ {os:List Int}(h:eG H0 S kn tg ds gs os H)(t1:H S.dt=some (.dK m))(t2:Paired (IA H) tg m)(o:H q=some (.tup [.str x.2.1,.int x.2.2])):eG H0 S kn (tg++[x]) ds gs os (upd H S.dt (.dK (m++[(Sum.inr x.1,.ref q)]))):=by
 have(t,y,v):=h.hd;have g:∀{b:Addr}{u:HO},H b=some u->(∀k,u≠.dK k)->b≠S.dt:=λ{b u} e n q=>n _ (by rw[q,t1]at e;exact(Nk e).symm);refine#[h.n,h.sm.n9 h.n.t0 _,?_,?_,?_,#[_,af,?_],#[t,?_,?_],?_,?_]
 .rw[au h.n.dt];exact h.sd
 .rw[au h.n.kt];exact h.hk
 .exact Paired.imp' (λk e ⟨l,j,d,r,p⟩=>#[l,j,by rw[au (g d (λ_ z=>nomatch z))];exact d,r,p]) h.ke
 .exact Paired.xY (Paired.imp' (λk e ⟨l,j,d⟩=>#[l,j,by rw[au (g d (λ_ z=>nomatch z))];exact d]) t2) #[q,rfl,by rw[au (g o (λ_ z=>nomatch z))];exact o]
 .rw[au h.n.td.symm];exact y
 .exact Paired.imp' (λk e ⟨l,j,d⟩=>#[l,j,by rw[au (g d (λ_ z=>nomatch z))];exact d]) v
 .rw[au (g h.hg (λ_ z=>nomatch z))];exact h.hg
 .rw[au (g h.ho (λ_ z=>nomatch z))];exact h.ho
theorem eG.LK {os:List Int}(h:eG H0 S kn tg ds gs os H)(r:H l=some (.lst (k.2.map λt=>.str t.1)))(p:l≠S.lg)(o:l≠S.lo):eG H0 {S with kv:=S.kv++[(Sum.inr k.1,.ref l)]} (kn++[k]) tg ds gs os (upd H S.dk (.dK (S.kv++[(Sum.inr k.1,.ref l)]))):=by
 have(v,t1,t2):=h.ht;have(y,C,B):=h.hd;have j:∀{b:Addr}{u:HO},H b=some u->(∀k,u≠.dK k)->b≠S.dk:=λ{b u} e n q=>n _ (by rw[q,h.hk]at e;exact(Nk e).symm);refine#[#[h.n.d0,h.n.k0,h.n.t0,h.n.o0,h.n.g0,h.n.f0,h.n.kt,h.n.kd,h.n.td,h.n.dk,h.n.dt,h.n.dd,h.n.og],h.sm.n9 h.n.k0 _,?_,af,?_,#[v,?_,?_],#[y,?_,?_],?_,?_]
 .show upd H S.dk _ S.d=_;rw[au h.n.dk];exact h.sd
 .exact Paired.xY (Paired.imp' (λk e ⟨l,m,g,p,o⟩=>#[l,m,by rw[au (j g (λ_ z=>nomatch z))];exact g,p,o]) h.ke) #[l,rfl,by rw[au (j r (λ_ z=>nomatch z))];exact r,p,o]
 .show upd H S.dk _ S.dt=_;rw[au h.n.kt.symm];exact t1
 .exact Paired.imp' (λk e ⟨l,m,g⟩=>#[l,m,by rw[au (j g (λ_ z=>nomatch z))];exact g]) t2
 .show upd H S.dk _ S.dd=_;rw[au h.n.kd.symm];exact C
 .exact Paired.imp' (λk e ⟨l,m,g⟩=>#[l,m,by rw[au (j g (λ_ z=>nomatch z))];exact g]) B
 .show upd H S.dk _ S.lg=_;rw[au (j h.hg (λ_ z=>nomatch z))];exact h.hg
 .show upd H S.dk _ S.lo=_;rw[au (j h.ho (λ_ z=>nomatch z))];exact h.ho
theorem eG.uA {os:List Int}(h:eG H0 S kn tg ds gs os H)(y:H S.dd=some (.dK m))(v:Paired (K7 H) ds m)(o:H q=some (.tup [.str x.1,.int x.2])):eG H0 S kn tg (ds++[x]) gs os (upd H S.dd (.dK (m++[(Sum.inr x.1,.ref q)]))):=by
 have(p,t1,t2):=h.ht;have g:∀{b:Addr}{u:HO},H b=some u->(∀k,u≠.dK k)->b≠S.dd:=λ{b u} e n q=>n _ (by rw[q,y]at e;exact(Nk e).symm);refine#[h.n,h.sm.n9 h.n.f0 _,?_,?_,?_,#[p,?_,?_],#[_,af,?_],?_,?_]
 .rw[au h.n.dd];exact h.sd
 .rw[au h.n.kd];exact h.hk
 .exact Paired.imp' (λk e ⟨l,j,d,t,r⟩=>#[l,j,by rw[au (g d (λ_ z=>nomatch z))];exact d,t,r]) h.ke
 .rw[au h.n.td];exact t1
 .exact Paired.imp' (λk e ⟨l,j,d⟩=>#[l,j,by rw[au (g d (λ_ z=>nomatch z))];exact d]) t2
 .exact Paired.xY (Paired.imp' (λk e ⟨l,j,d⟩=>#[l,j,by rw[au (g d (λ_ z=>nomatch z))];exact d]) v) #[q,rfl,by rw[au (g o (λ_ z=>nomatch z))];exact o]
 .rw[au (g h.hg (λ_ z=>nomatch z))];exact h.hg
 .rw[au (g h.ho (λ_ z=>nomatch z))];exact h.ho
theorem rQ.uA {n:Nat}(h:rQ H0 S n H)(e:d.length<=n):rQ H0 S n (upd H S.dd (.dK d)) :=
 #[h.n,h.sm.n9 h.n.f0 _,by rw[au h.n.dd];exact h.sd,d,af,e]
theorem eG.other {os:List Int}(h:eG H0 S kn tg ds gs os H)(m:eG H0 S kn o B r p C)(e:C b=none)(M:H b=some (.lst xs))(ys:List V):eG H0 S kn tg ds gs os (upd H b (.lst ys)):=by
 have(G,t1,t2):=h.ht;have(N,D,O):=h.hd;have n:∀{c:Addr}{u:HO},C c=some u->c≠b:=λq=>ay q e;have g:∀{c:Addr}{u:HO},H c=some u->(∀k,u≠.lst k)->c≠b:=λ{c u} q n z=>n _ (by rw[z,M]at q;exact(Nk q).symm);refine#[h.n,h.sm.n9 (m.sm.free e) _,?_,?_,?_,#[G,?_,?_],#[N,?_,?_],?_,?_]
 .rw[au (g h.sd (λ_ z=>nomatch z))];exact h.sd
 .rw[au (g h.hk (λ_ z=>nomatch z))];exact h.hk
 .refine Paired.imp' (λk y ⟨⟨l,j,d,J,I⟩,L,v,t,_,_⟩=>?_) (Paired.both h.ke m.ke);subst j;obtain rfl:l=L:=V.ref.inj (Su v).2;exact#[l,rfl,by rw[au (n t)];exact d,J,I]
 .rw[au (g t1 (λ_ z=>nomatch z))];exact t1
 .exact Paired.imp' (λk e ⟨l,j,d⟩=>#[l,j,by rw[au (g d (λ_ z=>nomatch z))];exact d]) t2
 .rw[au (g D (λ_ z=>nomatch z))];exact D
 .exact Paired.imp' (λk e ⟨l,j,d⟩=>#[l,j,by rw[au (g d (λ_ z=>nomatch z))];exact d]) O
 .rw[au (n m.hg)];exact h.hg
 .rw[au (n m.ho)];exact h.ho
theorem fh (e:H S.d=some (.dK (Ea S)))(q:cV (Ea S) (ky y)=some v):cu H S.d (.str y) (some v):=by
 have:=cu.k (k:=ky y) e;rw[q]at this;exact this
theorem nF (S:mC):cV (Ea S) (ky "kinds")=some (.ref S.dk):=by kernel_rfl
theorem lU (S:mC):cV (Ea S) (ky "tags")=some (.ref S.dt):=by kernel_rfl
theorem C0 (S:mC):cV (Ea S) (ky "opens")=some (.ref S.lo):=by kernel_rfl
theorem Fo (S:mC):cV (Ea S) (ky "gaps")=some (.ref S.lg):=by kernel_rfl
theorem lV (S:mC):cV (Ea S) (ky "defs")=some (.ref S.dd):=by kernel_rfl
noncomputable def IB:Er->Str
 |.tw=>"twice"
 |.nn=>"noname"
 |.wr=>"wrong"
def mK(H:Hp):Option Flt->V->Prop
 |none,v=>v=.eN
 |some f,v=>∃p,v=.ref p/\H p=some (.lst [.str (IB f.1),.str f.2])
theorem mK.same (h:mK H f v)(s:aT H d):mK d f v:=by
 cases f with
 |none=>exact h
 |some f =>
  have(p,e,q):=h;exact#[p,e,s _ _ q]
end G14
namespace L2
open PySem PySem.Spec PyProof.Rows
theorem Ab :∀{xs:List V}{us:List eF},xs.length=us.length->(∀(i:Nat) (x:V) (u:eF),xs[i]?=some x->us[i]?=some u->RelV x u)->Vals xs us
 | [],[],_,_=>.nil
 |x::r,u::t,hl,h=>.cons (h 0 x u rfl rfl) (Ab (by simpa using hl) λi y v d e=>h (i+1) y v (by simpa using d) (by simpa using e))
theorem IC {kvs:List (Key×V)}(r:KV kvs vs){i:Nat}(h:kvs[i]?=some e):∃u,vs[i]?=some (e.1,u)/\RelV e.2 u:=KV.get r h
theorem tR :iQ X (.builtin "sorted") (λxs H Q=>∃(p:Addr) (m:List Str),xs=[.ref p]/\bQ X.K H p (m.map V.str)/\m.length<64 /\
  ∀(d:List Str) (l:Addr),d.Perm m->sortedS d=true->H l=none->Q (.ref l) (upd H l (.lst (d.map V.str)))):=by
 intro D s S H xs T Q I r h;have(p,m,rfl,O,W,q):=h;have(u,rfl,L):=vals1 r
 cases L
 have(v,C,M,U):=I.list O;have j:=C.length;rw[bM]at j;refine sorted_strs M.isList (vR C) () λg d B z G=>?_;have(e,J):=sortedAll_at s.heap v g
 have N:Vals (d.map V.str) g.toList:=by
  generalize g.toList=l at B;clear z G J q
  induction B with
  |nil=>exact .nil
  |cons x t _ ih=>exact .cons #[t,rfl] ih
 have y:(d.map V.str).length<=mH:=by rw[bM,z.length_eq];have:=Qo;omega
 have R:H (s.heap.objs.size+1)=none:=I.hok.fresh (OC _);exact#[.ref (s.heap.objs.size+1),_,I.laid (t':=s.toks) (a:=s.heap.objs.size+1) (o:=.lst (d.map V.str)) (λb o q=>sortedAll_old q) (OC _) (show eM X.prog X.w _ _ _ (.lst (d.map V.str))from#[y,g.toList,e,N,J]),rfl,q d _ z G R]
theorem uB (K:bN)(d:X.K=K):iQ X (.type "list") (λxs H Q=>∃p ys,xs=[.ref p]/\(bQ K H p ys\/cP K H p ys)/\∀l,H l=none->Q (.ref l) (upd H l (.lst ys))):=by
 subst d;exact iS
theorem zk (hc:X.calm=true):iQ X (.type "list") (λxs H Q=>∃(p:Addr) (kvs:List (Key×V)),xs=[.ref p]/\H p=some (.dK kvs)/\∀l,H l=none->Q (.ref l) (upd H l (.lst (kvs.map λe=>kV e.1)))):=by
 intro O s σ H xs us Q I r h;have(p,kvs,rfl,hq,q):=h;have(u,rfl,T):=vals1 r
 cases T
 have(B,C,v,j,U,es,ep,ho,t,M,J,D,G):=sG I.hok (.inl hq);have N:s.heap.DictAt (bf X.prog X.w) p v ep:=#[U,es,ho,t,M,J,D,G];have hl:=j.length;refine PySem.W.kdl_call (PySem.W.kdl_dict (knd:=bf X.prog X.w) (kvs:=v) (ep:=ep) C) (I.ok.hd hc) N () λh' S d c' hk hD g=>?_
 have Z:Vals (kvs.map λe=>kV e.1) d.toList:=by
  have ha:d.toList.length=v.length:=(O3 (xs:=d)).trans g.1;refine Ab (by rw[bM,ha,hl]) λi x u R hu=>?_;rw[xn]at R;have(e,he,rfl):=we.mp R;have(k,y,m,L):=g.2 i u (by rw[<-Tj];exact hu);have(z,Y,_):=IC j he;rw[Y]at m;have(rfl,rfl):=Su (Nk m);exact zY L
 exact#[.ref s.heap.objs.size,_,I.laid (t':=S) (a:=s.heap.objs.size) (o:=.lst (kvs.map λe=>kV e.1)) hk (lj _) (show eM X.prog X.w _ _ _ (.lst (kvs.map λe=>kV e.1))from#[by rw[bM];exact B,d.toList,c',Z,hD]),rfl,q _ (I.hok.fresh (lj _))]
theorem Bm {a b c:Str}(j:ltCps b.cps.toList a.cps.toList=false)(g:ltCps c.cps.toList b.cps.toList=false):ltCps c.cps.toList a.cps.toList=false:=by
 rw[ltCps_eq]at *;have e:a.cps.toList<=b.cps.toList:=by simpa using j
 have d:b.cps.toList<=c.cps.toList:=by simpa using g
 have:=List.le_trans e d
 simpa using this
theorem tS :∀(l:List Str) (p:Str),risingS p l=true->(p::l).Pairwise λa b=>ltCps b.cps.toList a.cps.toList=false
 | [],p,_=>QT _ _
 |x::r,p,h=>by
  have d:(!ltCps x.cps.toList p.cps.toList&&risingS x r)=true:=h;rw[NO]at d;have e:=tS r x d.2;have g:ltCps x.cps.toList p.cps.toList=false:=by simpa using d.1
  refine Uk.mpr #[λb hb=>?_,e];rcases Nc.mp hb with rfl|hb
  .exact g
  .exact Bm g ((Uk.mp e).1 b hb)
theorem tT :∀{l:List Str},sortedS l=true->l.Pairwise λa b=>ltCps b.cps.toList a.cps.toList=false
 | [],_=>List.Pairwise.nil
 |x::r,h=>tS r x h
theorem yd (p:a.Perm b)(o:sortedS a=true)(m:sortedS b=true):a=b:=by
 refine List.Perm.eq_of_pairwise ?_ (tT o) (tT m) p;intro x y _ _ l j;rw[ltCps_eq]at l j;have g:x.cps.toList<=y.cps.toList:=by simpa using l
 have d:y.cps.toList<=x.cps.toList:=by simpa using j
 have e:=List.le_antisymm g d
 cases x
 cases y
 simp only at e
 congr
 exact Array.toList_inj.mp e
theorem zl (l:X.A.units+1<Ri):mG X (OB .In) (λy x H Q=>∃a o,x=.ref a/\cu H a y o/\Q (.bl o.isSome) H):=by
 intro d s p H y x t u Q I e j h;have(a,o,rfl,g,q):=h;obtain rfl:u=Value.ref a:=j;exact Ls l I g e λr m=>#[.bl o.isSome,H,m,rfl,q]
theorem jS (l:X.A.units+1<Ri):mG X (OB .NotIn) (λy x H Q=>∃a o,x=.ref a/\cu H a y o/\Q (.bl (!o.isSome)) H):=by
 intro d s p H y x t u Q I e j h;have(a,o,rfl,g,q):=h;obtain rfl:u=Value.ref a:=j;exact Ez l I g e λr m=>#[.bl (!o.isSome),H,m,rfl,q]
theorem Bo (K:bN)(y:X.K=K):iQ X (.builtin "isinstance") (λxs H Q=>∃x,xs=[x,.ty "tuple"]/\((∃p ys,x=.ref p/\cP K H p ys/\Q (.bl true) H)\/(∃z,x=.str z/\Q (.bl false) H)\/∃z,x=.int z/\Q (.bl false) H)):=by
 subst y;intro e s B H xs C Q I r h;have(x,rfl,h):=h;have(u,g,rfl,d,r2):=vals2 r;obtain rfl:g=Value.type "tuple":=r2;rcases h with⟨p,ys,rfl,hq,q⟩|⟨z,rfl,q⟩|⟨z,rfl,q⟩
 .obtain rfl:u=Value.ref p:=d;have(l,D,j,G):=I.tuple hq;have(o,m,v,n,hd):=j;exact IsiPair.tuple_tuple m v #[.bl true,H,I,rfl,q]
 .have(t,rfl):=d;exact IsiPair.str_tuple #[.bl false,H,I.tok _,rfl,q]
 .have(t,rfl):=d;exact IsiPair.int_tuple #[.bl false,H,I.tok _,rfl,q]
end L2
namespace G14
open PySem L2
def Ac(K:bN):Sp:=λe H Q _=>∃(v:V) (k:Kk),e=[v]/\Rp K H (jI k) v/\∀d,Rp K H (jI k.core) d->Q d H
def qj(K:bN):Sp:=λy H Q _=>∃(u:Hp) (S:mC) (l:Kl) (q:List (Str×Str×Nat)) (t:List (Str×Nat)) (r m:List Int) (v:V) (k:Kk) (o:Bool) (d:Addr),y=[.ref d,v,.bl o]/\eG u S l q t r m H/\S.d=d/\Rp K H (jI k) v/\m.length<=100 /\
 (o=true->∀g e,aT H e->mK e ((iC (l.map (·.1)) k).map λn=>(.nn,n)) g->Q g e) /\
 (o=false->(∀f,fM (l.map (·.1)) m k=.error f->∀g e,aT H e->mK e (some f) g->(∀p,g=.ref p->H p=none)->Q g e)/\(∀j,fM (l.map (·.1)) m k=.ok j->∀e,eG u S l q t r j e->iA S H e->Q .eN e))
theorem Ad :∀{kl:Kl}{kvs:List (Key×V)},Paired (K2 S H) kl kvs->(cV kvs (Sum.inr x)).isSome=decide (x∈kl.map (·.1)):=by
 intro kl kvs p
 induction p with
 |nil=>rfl
 |@cons k _ r _ he t ih =>
  have(l,e,_):=he;subst e
  by_cases h:k.1=x
  .rw[fJ (show(Sum.inr k.1:Key)=Sum.inr x by rw[h]),Ny,decide_eq_true (by rw[h];exact OL)];rfl
  .rw[fK (λz=>h (Ow z)),ih,Ny];have:(x∈k.1::r.map (·.1))↔x∈r.map (·.1):=by rw[Nc];exact or_iff_right (λz=>h z.symm)
   exact(decide_eq_decide.mpr this).symm
theorem je :Nm V7 (ak iw):=by decide
theorem tU :Lm V7 (ak iw):=by decide
theorem nH :aZ V7 V7 (ak iw):=by ac_rfl
theorem C1 (F:jq K "_law_leaf_kind" "_law_leaf_kind" iw f G)(e:mg "tuple"=none)(d:mg "isinstance"=none):cA P w K mg base gy 1 f G V7 (Ac K):=by
 refine F.ok nH (λJ H Q E h=>?_) (λcdv A outer s H J Q E hr h=>?_)
 .have(_,_,rfl,_):=h;rfl
 have(v,y,rfl,L,k):=h;refine#[_,(Z5 (@sy _ _ _ _ _ _ NH (PW.pt (@gz _ _ _ _ _ _ _ (@sr _ _ _ (Z2 (Bo K rfl) d OA (Z1 (va je 0) (Zc (zD (v:=.ty "tuple") (by left) e (by decide) rfl)))) (by intro _;rfl)) (@fz _ _ _ _ (Zh bV (Z8 aP (va je 0)) aG (bI _))))) (Zd (Z4 nH.nd tU 0 (Z8 aP (va je 0))))) (Zd (cG (va je 0)))),?_]
 right
 right
 refine#[λm B o=>o=H/\∃(v:V) (l:Kk),B=[some v]/\Rp K H (jI l) v/\l.dep=m/\l.core=y.core,#[y.dep,rfl,v,y,rfl,L,rfl,rfl],?_];rintro m B o ⟨rfl,v,l,rfl,j,M,u⟩
 cases l with
 |num =>
  obtain rfl:=(show Rp K o (.s "num") v from j).aM;have fin:=k _ (by rw[<-u];exact j);ext;refine .inr (.inl #[_,rfl,?_]);ext;exact fin
 |kd x =>
  have fin:=k _ (by rw[<-u];exact j);have(D,l,q,rfl,g,r,z):=(show Rp K o (.t [.s "kind",.s x]) v from j).t2;obtain rfl:=r.aM;ext;refine .inl #[_,_,rfl,g,?_];ext;exact fin
 |op n =>
  have fin:=k _ (by rw[<-u];exact j);have(D,l,q,rfl,g,r,z):=(show Rp K o (.t [.s "open",.i n]) v from j).t2;obtain rfl:=r.aM;ext;refine .inl #[_,_,rfl,g,?_];ext;exact fin
 |row q =>
  have(D,R,C,rfl,g,r,z):=(show Rp K o (.t [.s "row",jI q]) v from j).t2;obtain rfl:=r.aM;ext;refine .inl #[_,_,rfl,g,?_];ext;refine bW (λ_=>?_) (λc=>absurd (by decide) c);refine#[λp I=>I=o/\p=[some C],λp I ⟨O,N⟩=>#[q.dep,by rw[<-M];exact Pp _,O,C,q,N,z,rfl,u],?_];ext;rfl
theorem bT :Nm VL (ak gQ):=by decide
theorem rH :Lm VL (ak gQ):=by decide
theorem mE :aZ VL Vv (ak gQ):=by ac_rfl
theorem C2 (F:jq K "_law_kind_fault" "_law_kind_fault" gQ f Z)(T:eL P w K mg base "_law_leaf_kind" 1 V7 (Ac K) gL lfd):cA P w K mg base gy 2 f Z Vv (qj K):=by
 refine F.ok mE (λvs H Q E h=>?_) (λcdv A outer s H vs Q E hr h=>?_)
 .have(_,_,_,_,_,_,_,_,_,_,_,rfl,_):=h;rfl
 have(H0,S,D,tg,ds,gs,g,v,q,J,d,rfl,m,rfl,r,lo,L,I):=h;refine#[_,(Z5 (Z4 mE.nd rH 3 (Z0 T (Zc (va bT 1)))) (Z5 (Zb (PW.pt (@gz _ _ _ _ _ _ _ (Zh bV (Z8 mT (va bT 3)) aG (bI _)) (@fz _ _ _ _ (Zh (jS (gE hr)) (Z8 aP (va bT 3)) (Zj (va bT 0)) (by with_unfolding_all rfl))))) (Zd (Zu (Zt (Z1 aG (Z1 (Z8 aP (va bT 3)) aA)))))) (Z5 (Zb (Zh pI (Z8 mT (va bT 3)) aG (bI _)) (b9 (cG gv))) (Z5 (Zb (sr (va bT 2)) (Zd (Zu (Zt (c8 aG (Zc aG)))))) (Z5 (Zb (Zh gq (Z8 aP (va bT 3)) (Zj (va bT 0)) (by with_unfolding_all rfl)) (Zd (Zu (Zt (c8 aG (Zc aG)))))) (Z5 (Zn (Z6 (Zj (va bT 0)) (Z1 (Z8 aP (va bT 3)) aA))) (b9 (cG gv)))))))),?_]
 right
 right
 ext l y;have gk:=fh m.sd (nF S);have go:=fh m.sd (C0 S);have ho:=m.ho;have aa:bQ K H S.lo (g.map V.int):=bQ.of m.ho
 have same:∀f,fM (D.map (·.1)) g q=.error f->(J=true->iC (D.map (·.1)) q=some f.2/\f.1=.nn)->∀l G,aT H G->mK G (some f) l->(∀p,l=.ref p->H p=none)->Q l G:=λf he hf l G W Y fp=>by
  cases J with
  |false=>exact(I rfl).1 f he l G W Y fp
  |true =>
   have(h1,h2):=hf rfl;refine L rfl l G W ?_;rw[h1];have(f1,f2):=f
   cases h2
   exact Y
 cases ec:q.core with
 |row j=>exact absurd ec (q.rO j)
 |num =>
  rw[ec]at y;have B:∀{Q:VK},Q (.str "n") H->GH K l (.int 0) H Q:=λh=>core0 y h
  have fin:Q .eN H:=by
   cases J with
   |false=>exact(I rfl).2 g (by unfold fM;rw[ec]) H m (iA.refl _ _)
   |true=>exact L rfl _ H (aT.refl _) (by unfold iC;rw[ec];rfl)
  ext;refine B ?_;ext;refine B ?_;ext;exact fin
 |kd x =>
  rw[ec]at y;have B:∀{Q:VK},Q (.str "kind") H->GH K l (.int 0) H Q:=λh=>core0 y h;have(ka,w1,w2,rfl,N,R,O):=(show Rp K H (.t [.s "kind",.s x]) l from y).t2;obtain rfl:=R.aM;obtain rfl:=O.aM;have a1:eK [V.str "kind",.str x] 1=some (.str x):=aH (j:=1) rfl;have dg:cu H S.dk (.str x) (cV S.kv (Sum.inr x)):=cu.k (k:=Sum.inr x) m.hk;have U:(cV S.kv (Sum.inr x)).isSome=decide (x∈D.map (·.1)):=Ad m.ke;ext;refine B ?_;ext;refine bW (λM=>?_) (λM=>?_)
  .have o:x∉D.map (·.1):=λz=>by
    rw[U,decide_eq_true z]at M
    cases M
   ext p C;exact same (.nn,x) (by unfold fM;rw[ec];dsimp only;rw[if_neg o]) (λ_=>#[by unfold iC;rw[ec];dsimp only;rw[if_neg o],rfl]) _ _ (ae C _) #[p,rfl,af] (λ_ z=>V.ref.inj z▸C)
  .have o:x∈D.map (·.1):=by
    by_cases z:x∈D.map (·.1)
    .exact z
    .exact absurd (by rw[U,decide_eq_false z];rfl) M
   have fin:Q .eN H:=by
    cases J with
    |false=>exact(I rfl).2 g (by unfold fM;rw[ec];dsimp only;rw[if_pos o]) H m (iA.refl _ _)
    |true=>exact L rfl _ H (aT.refl _) (by unfold iC;rw[ec];dsimp only;rw[if_pos o];rfl)
   ext;refine B ?_;ext;exact fin
 |op n =>
  rw[ec]at y;have B:∀{Q:VK},Q (.str "open") H->GH K l (.int 0) H Q:=λh=>core0 y h;have(ka,w1,w2,rfl,N,R,O):=(show Rp K H (.t [.s "open",.i n]) l from y).t2;obtain rfl:=R.aM;obtain rfl:=O.jH;have a1:eK [V.str "open",.int n] 1=some (.int n):=aH (j:=1) rfl;have fl:=qI g;have X:=sY (n:=n) (ns:=g);have ll:(g.map V.int).length<mH:=br (by rw[bM];omega);ext;refine B ?_;ext;refine B ?_;ext
  cases J with
  |true =>
   ext p C;exact L rfl _ _ (ae C _) (by unfold iC;rw[ec];exact#[p,rfl,af])
  |false =>
   ext;refine bW (λc=>?_) (λc=>?_)
   .have o:n∈g:=by
     have c':nR (.int n) (g.map V.int)=true:=c;rw[X]at c';exact of_decide_eq_true c'
    ext p C;exact(I rfl).1 (.tw,"?") (by unfold fM;rw[ec];dsimp only;rw[if_pos o]) _ _ (ae C _) #[p,rfl,af] (λ_ z=>V.ref.inj z▸C)
   .have o:n∉g:=λz=>c (by show nR (.int n) (g.map V.int)=true;rw[X];exact decide_eq_true z);have fin:=(I rfl).2 (g++[n]) (by unfold fM;rw[ec];dsimp only;rw[if_neg o]) _ (m.CW (g++[n])) (λb u n1 n2 n3 n4 n5 e=>by rw[au n4];exact e);rw[i5]at fin;ext;exact fin
noncomputable def rB(kl:Kl):List (Str×Str×Nat):=(tl kl).map λx=>(x.1,x.2.1,x.2.2.length)
theorem jN (kl:Kl):(rB kl).map (·.1)=jc kl:=by
 unfold rB;rw[Oa,<-oW];rfl
theorem C4 (l:Kl)(k:Str×List (Str×List Kk)):rB (l++[k])=rB l++k.2.map λt=>(t.1,k.1,t.2.length):=by
 unfold rB;rw[rP,i5,Oa];rfl
theorem wD :∀{l:List (Str×Str×Nat)}{kvs:List (Key×V)},Paired (IA H) l kvs->(cV kvs (Sum.inr x)).isSome=decide (x∈l.map (·.1))
 |_,_,.nil=>rfl
 |k::r,_,.cons ⟨l,e,_⟩ t=>by
  subst e
  by_cases h:k.1=x
  .rw[fJ (show(Sum.inr k.1:Key)=Sum.inr x by rw[h]),Ny,decide_eq_true (by rw[h];exact OL)];rfl
  .rw[fK (λz=>h (Ow z)),wD t,Ny];have:(x∈k.1::r.map (·.1))↔x∈r.map (·.1):=by rw[Nc];exact or_iff_right (λz=>h z.symm)
   exact(decide_eq_decide.mpr this).symm
theorem ID (p:Paired (IA H) l kvs)(h:x∉l.map (·.1)):∀g∈kvs,g.1≠Sum.inr x:=λg d z=>by
 have(n,m):=NV d;have(y,j,q,e,_):=Paired.getL p m;rw[e]at z;exact h (by rw[<-Ow z];exact NY (Nf j))
theorem IE (p:Paired (K2 S H) l kvs)(h:x∉l.map (·.1)):∀g∈kvs,g.1≠Sum.inr x:=λg d z=>by
 have(n,m):=NV d;have(y,j,q,e,_):=Paired.getL p m;rw[e]at z;exact h (by rw[<-Ow z];exact NY (Nf j))
def ye(K:bN):Sp:=λm H Q _=>∃(j:Hp) (S:mC) (v:V) (g:Kl) (d:Addr),m=[.ref d,v]/\eG j S [] [] [] [] [] H/\S.d=d/\Rp K H (.t (g.map gZ)) v/\wV g /\
 (∀f,cO [] [] g=some f->∀l e,rQ j S 0 e->iA S H e->mK e (some f) l->Q l e) /\
 (cO [] [] g=none->∀kv e,eG j {S with kv:=kv} g (rB g) [] [] [] e->iA S H e->Q .eN e)
structure L6(H0:Hp) (S:mC) (kl:Kl) (i:Nat) (H:Hp) (kv:List (Key×V)) (H2:Hp):Prop where
 k:eG H0 {S with kv:=kv} (kl.take i) (rB (kl.take i)) [] [] [] H2
 t:iA S H H2
 e:cO [] [] kl=cO ((kl.take i).map (·.1)) (jc (kl.take i)) (kl.drop i)
 d1:cH [] ((kl.take i).map (·.1))=none
 d2:cH [] (jc (kl.take i))=none
structure MZ(H0:Hp) (S:mC) (kn:Kl) (tg:List (Str×Str×Nat)) (kd:Str×List (Str×List Kk)) (j:Nat) (H:Hp) (H2:Hp):Prop where
 k:eG H0 S kn (tg++(kd.2.take j).map λt=>(t.1,kd.1,t.2.length)) [] [] [] H2
 t:iA S H H2
 e:gi (kn.map (·.1)) (tg.map (·.1)) kd.2=gi (kn.map (·.1)) (tg.map (·.1)++(kd.2.take j).map (·.1)) (kd.2.drop j)
 d:cH [] (tg.map (·.1)++(kd.2.take j).map (·.1))=none
theorem aU :Nm Vk (ak eR):=by decide
theorem ez :Lm Vk (ak eR):=by decide
theorem dc :aZ Vk V4 (ak eR):=by ac_rfl
theorem Bp (F:jq K "_law_kinds_fault" "_law_kinds_fault" eR f fd)(bn:eL P w K mg base "_law_kind_fault" 2 Vv (qj K) gF ffd)(ag:mg "len"=none):cA P w K mg base gy 3 f fd V4 (ye K):=by
 refine F.ok dc (λvs H Q E h=>?_) (λcdv A outer s H vs Q E hr h=>?_)
 .have(_,_,_,_,_,rfl,_):=h;rfl
 have(H0,S,v,kl,d,rfl,sc,rfl,r,hB,kf,ko):=h;refine#[_,(Z5 (Zg NH (cz (va aU 1)) (Z9 (2) (Ze (ga dc.nd ez 2) (Zs (ga dc.nd ez 3)))) (Z5 (Zb (Zh (zl (gE hr)) (va aU 2) (Zj (va aU 0)) (by with_unfolding_all rfl)) (Zd (Zu (Zt (Z1 aG (Zc (va aU 2))))))) (Z5 (Zg NH (cz (va aU 3)) (Z9 (2) (Ze (ga dc.nd ez 4) (Zs (ga dc.nd ez 5)))) (Z5 (Zb (Zh (zl (gE hr)) (va aU 4) (Zj (va aU 0)) (by with_unfolding_all rfl)) (Zd (Zu (Zt (Z1 aG (Zc (va aU 4))))))) (Z5 (@pR _ _ _ _ _ _ _ _ _ (gE hr) (Zj (va aU 0)) (va aU 4) (Zl (Z1 (va aU 2) (Z1 (Z2 aJ ag Nl (Zc (va aU 5))) aA))) (by rfl)) (Zd (Zg NH (cz (va aU 5)) (ga dc.nd ez 6) (Z5 (Z4 dc.nd ez 7 (Z0 bn (Z1 (va aU 0) (c8 (va aU 6) (Zc mQ))))) (Zd (Zb (Zo rL (va aU 7) gv) (Zd (cG (va aU 7))))))))))) (Zd (@pR _ _ _ _ _ _ _ _ _ (gE hr) (Zj (va aU 0)) (va aU 2) (Zf (ak eR) Vk Vz [] (cz (va aU 3)) (λ_ _ _ _=>(Z9 (2) (Ze (Z3 (i:=0) (show(Vz:List Str).Nodup by decide)) (Zs (Z3 (i:=1) (show(Vz:List Str).Nodup by decide)))))) (λ_ _ _ _=>(va (show Nm Vz _ by left) 0))) (by rfl)))))) (b9 (cG gv))),?_]
 right
 right
 have(a,us,rfl,sq,rs):=r.aS;have ba:=rs.length;rw[bM]at ba;ext;refine eX (K:=K) (xs:=us) (λi B H2=>(∃y2 y3 y4 y5 y6 y7,B=[some (.ref S.d),some (.ref a),y2,y3,y4,y5,y6,y7])/\∃kv,L6 H0 S kl i H kv H2) #[#[_,_,_,_,_,_,rfl],S.kv,sc,iA.refl _ _,rfl,rfl,rfl] ?_ ?_ ?_
 .rintro i B H2 hi ⟨_,kv,o⟩;exact sq.kt (sc.uz o.t)
 .rintro i xv B H2 hxv ⟨⟨_,_,_,_,_,_,rfl⟩,kv,o⟩;have(t,R,rx):=rs.get' hxv;rw[xn]at R;have(kd,ac,rfl):=we.mp R;have bj:=(bH.mp ac).1;have W:kl.take (i+1)=kl.take i++[kd]:=by rw[mu bj,(bH.mp ac).2]
  have(bu,bk):=hB.2 kd (Nf ac);have Y:=o.e;rw[tM ac,kX o.d1]at Y;have ab:=sc.uz o.t;have(ka,k1,k2,rfl,bf,q1,q2):=(show Rp K H (.t [.s kd.1,.t (kd.2.map kI)]) xv from rx).t2;obtain rfl:=q1.aM;have bo:=bf.kt ab;have(aw,J,rfl,av,al):=q2.aS;have bc:=al.length;rw[bM]at bc;have b0:cu H2 S.d (.str "kinds") (some (.ref S.dk)):=fh o.k.sd (nF _);have b2:cu H2 S.dk (.str kd.1) (cV kv (Sum.inr kd.1)):=cu.k (k:=Sum.inr kd.1) o.k.hk;have aj:(cV kv (Sum.inr kd.1)).isSome=decide (kd.1∈(kl.take i).map (·.1)):=Ad o.k.ke;generalize hah:(kl.take i).map (·.1)=ah at Y aj;ext;refine bW (λc=>?_) (λc=>?_)
  .have hm:kd.1∈ah:=by rw[aj]at c;exact of_decide_eq_true c
   rw[if_pos hm]at Y;ext p hp;have s3:=ae hp (.lst [.str "twice",.str kd.1]);exact kf _ Y _ _ (rQ.ext #[sc.n,o.k.sm,o.k.sd,(o.k.w (n:=0) (lj _)).hd] s3) (o.t.same s3) #[p,rfl,af]
  have hm:kd.1∉ah:=λz=>c (by rw[aj];exact decide_eq_true z);rw[if_neg hm]at Y
  have O:cO [] [] kl=match gi ah (jc (kl.take i)) kd.2 with
    |some f=>some f
    |none=>cO (ah++[kd.1]) (jc (kl.take i)++kd.2.map (·.1)) (kl.drop (i+1)):=Y
  have as:=av.kt ab;ext;refine eX (K:=K) (xs:=J) (λj B I=>(∃y4 y5 y6 y7,B=[some (.ref S.d),some (.ref a),some (.str kd.1),some (.ref aw),y4,y5,y6,y7])/\MZ H0 {S with kv:=kv} (kl.take i) (rB (kl.take i)) kd j H2 I) #[#[_,_,_,_,rfl],?_,iA.refl _ _,?_,?_] ?_ ?_ ?_
  .rw[P5,OX,NF];exact o.k
  .rw[P5,OX,NF];rfl
  .rw[P5,OX,NF,jN];exact o.d2
  .rintro j B I hj ⟨_,y⟩;exact as.kt (o.k.uz y.t)
  .rintro j yv B I hyv ⟨⟨_,_,_,_,rfl⟩,y⟩;have(t,R,ry):=al.get' hyv;rw[xn]at R;have(g,D,rfl):=we.mp R;have an:=(bH.mp D).1;have X:kd.2.take (j+1)=kd.2.take j++[g]:=by rw[mu an,(bH.mp D).2]
   have bt:=bk g (Nf D);have e3:=y.e;rw[u9 D,kX y.d]at e3;have L:=ab.trans (o.k.uz y.t);have(ga,w1,w2,rfl,ao,p1,p2):=(show Rp K H (.t [.s g.1,.t (g.2.map jI)]) yv from ry).t2;obtain rfl:=p1.aM;have(ia,M,rfl,bg,a2):=p2.aS;have az:=a2.length;rw[bM]at az;have a4:=ao.kt L;have a0:=bg.kt L;have bw:cu I S.d (.str "tags") (some (.ref S.dt)):=fh y.k.sd (lU _);have(Z,am,aa):=y.k.ht;have bp:I S.dt=some (.dK Z):=am;have b1:cu I S.dt (.str g.1) (cV Z (Sum.inr g.1)):=cu.k (k:=Sum.inr g.1) am;have aq:(rB (kl.take i)++(kd.2.take j).map λt=>(t.1,kd.1,t.2.length)).map (·.1)=(rB (kl.take i)).map (·.1)++(kd.2.take j).map (·.1):=by rw[i5,Oa];rfl
   have ai:(cV Z (Sum.inr g.1)).isSome=decide (g.1∈(rB (kl.take i)).map (·.1)++(kd.2.take j).map (·.1)):=by rw[wD aa,aq]
   have w3:∀{C:Hp},aT I C->rQ H0 S 0 C:=λ{C} G=>rQ.ext #[sc.n,y.k.sm,y.k.sd,(y.k.w (n:=0) (lj _)).hd] G;have ax:iA S H I:=o.t.trans y.t;rw[jN]at e3 ai aq;rw[hah]at e3;ext;refine bW (λc=>?_) (λc=>?_)
   .have T:g.1∈jc (kl.take i)++(kd.2.take j).map (·.1):=by rw[ai]at c;exact of_decide_eq_true c
    rw[if_pos T]at e3;rw[e3]at O;ext p hp;have G:=ae hp (.lst [.str "twice",.str g.1]);exact kf _ O _ _ (w3 G) (ax.same G) #[p,rfl,af]
   have T:g.1∉jc (kl.take i)++(kd.2.take j).map (·.1):=λz=>c (by rw[ai];exact decide_eq_true z);rw[if_neg T]at e3
   have N:gi ah (jc (kl.take i)) kd.2=match fR (iC ah) g.2 with
    |some n=>some (.nn,n)
    |none=>gi ah (jc (kl.take i)++(kd.2.take j).map (·.1)++[g.1]) (kd.2.drop (j+1)):=e3
   ext p4 bi;have G:=ae bi (.tup [.str kd.1,.int M.length]);have h4:upd I p4 (.tup [.str kd.1,.int M.length]) p4=some (.tup [.str kd.1,.int M.length]):=af;generalize upd I p4 (.tup [.str kd.1,.int M.length])=C at G h4|-;rw[az]at h4;have k4:=y.k.ext G;have a5:Paired (IA C) (rB (kl.take i)++(kd.2.take j).map λt=>(t.1,kd.1,t.2.length)) Z:=Paired.imp' (λk e ⟨l,e1,Y⟩=>#[l,e1,G _ _ Y]) aa;have a3:C S.dt=some (.dK Z):=G _ _ am;have a7:∀kv∈Z,kv.1≠Sum.inr g.1:=ID aa (by rw[aq];exact T);have bv:cu C S.d (.str "tags") (some (.ref S.dt)):=fh k4.sd (lU _)
   have bb:Z.length<mH:=by
    have e1:=aa.length;have e5:=qg (kl:=kl.take i) #[Nz (TH _ _) hB.1,λx hx=>hB.2 x (Oc hx)];rw[i4,bM,I0,<-bM (f:=(·.1)),jN]at e1;exact br ()
   have dp:nZ C S.dt (.str g.1) (.ref p4) (upd C S.dt (.dK (Z++[(Sum.inr g.1,.ref p4)]))):=by
    have:=nZ.k (k:=Sum.inr g.1) (v:=.ref p4) a3 bb;rw[lT a7]at this;exact this
   have k5:=k4.LJ (x:=(g.1,kd.1,g.2.length)) a3 a5 h4;have t5:iA S I (upd C S.dt (.dK (Z++[(Sum.inr g.1,.ref p4)]))):=λb u n1 n2 n3 n4 n5 e=>by rw[au n2];exact G _ _ e
   have ad:=a0.kt (y.k.uz t5);ext;generalize upd C S.dt (.dK (Z++[(Sum.inr g.1,.ref p4)]))=H5 at k5 t5 ad|-;have a1:=(a2.kt L).kt (y.k.uz t5);refine eX (K:=K) (xs:=M) (λm B H6=>(∃y6 y7,B=[some (.ref S.d),some (.ref a),some (.str kd.1),some (.ref aw),some (.str g.1),some (.ref ia),y6,y7])/\aT H5 H6/\fR (iC ah) g.2=fR (iC ah) (g.2.drop m)) #[#[_,_,rfl],aT.refl _,rfl] ?_ ?_ ?_
   .rintro m B H6 hm6 ⟨_,s6,_⟩;exact ad.same s6
   .rintro m zv B H6 hzv ⟨⟨_,_,rfl⟩,s6,e6⟩;have(t,R,rz):=a1.get' hzv;rw[xn]at R;have(q,hq,rfl):=we.mp R;rw[tL hq]at e6;have k6:=k5.ext s6;have bs:=rz.same s6;have l0:([]:List Int).length<=100:=Nu _;ext
    rotate_left
    .exact λz=>nomatch z
    intro _ v7 H7 s7 U;rw[hah]at U
    cases ek:iC ah q with
    |none =>
     rw[ek]at U e6;obtain rfl:v7=.eN:=U;ext
     .exact s6.trans s7
     .exact e6
    |some n =>
     rw[ek]at U e6;have(p7,rfl,bh):=U;rw[e6]at N;rw[N]at O;have k7:=k6.ext s7;have fin:=kf _ O (.ref p7) H7 #[sc.n,k7.sm,k7.sd,(k7.w (n:=0) (lj _)).hd] ((ax.trans t5).same (s6.trans s7)) #[p7,rfl,bh];ext;exact fin
   .rintro B H6 ⟨⟨_,_,rfl⟩,s6,e6⟩;rw[show M.length=g.2.length by omega,NL]at e6;rw[e6]at N;have bl:gi ah (jc (kl.take i)) kd.2=gi ah (jc (kl.take i)++(kd.2.take j).map (·.1)++[g.1]) (kd.2.drop (j+1)):=N;refine#[#[_,_,_,_,rfl],?_,y.t.trans (iA.same t5 s6),?_,?_]
    .rw[X,i5,<-Od];exact k5.ext s6
    .rw[X,i5,jN,hah,<-Od];exact bl
    .rw[X,i5,jN,<-Od];have:=kX (x:=g.1) y.d;rw[jN,if_neg T]at this;exact this
  .rintro B I ⟨⟨_,_,_,_,rfl⟩,y⟩;have e3:=y.e;rw[show J.length=kd.2.length by omega,Nr,NL,jN,hah]at e3;have N:gi ah (jc (kl.take i)) kd.2=none:=e3;rw[N]at O;have d3:=y.d;rw[show J.length=kd.2.length by omega,Nr,jN]at d3;have k3:=y.k;rw[show J.length=kd.2.length by omega,Nr]at k3;have L:=ab.trans (o.k.uz y.t);have ar:=av.kt L;have bz:cu I S.d (.str "kinds") (some (.ref S.dk)):=fh k3.sd (nF _);ext;refine gb (K:=K) (xs:=J) (λj B vs C=>(∃y1 y2,B=[y1,y2])/\C=I/\vs=(kd.2.take j).map λt=>V.str t.1) #[#[_,_,rfl],rfl,rfl] ?_ (small ()) ?_ ?_ ?_
   .rintro j B vs C hj ⟨_,_,rfl⟩;rw[bM,I0];omega
   .rintro j B vs C hj ⟨_,rfl,_⟩;exact ar
   .rintro j yv B vs C hyv ⟨⟨_,_,rfl⟩,rfl,rfl⟩;have(t,R,ry):=al.get' hyv;rw[xn]at R;have(g,D,rfl):=we.mp R;have an:=(bH.mp D).1;have X:kd.2.take (j+1)=kd.2.take j++[g]:=by rw[mu an,(bH.mp D).2]
    have(ga,w1,w2,rfl,ao,p1,p2):=(show Rp K H (.t [.s g.1,.t (g.2.map jI)]) yv from ry).t2;obtain rfl:=p1.aM;have a4:=ao.kt L;ext;rw[X,i5];rfl
   .rintro B vs C ⟨_,rfl,rfl⟩ l hl;rw[show J.length=kd.2.length by omega,Nr];have G:=ae hl (.lst (kd.2.map λt=>V.str t.1));have h4:upd C l (.lst (kd.2.map λt=>V.str t.1)) l=some (.lst (kd.2.map λt=>V.str t.1)):=af;have a9:l≠S.lg:=(ay k3.hg hl).symm;have a8:l≠S.lo:=(ay k3.ho hl).symm;generalize upd C l (.lst (kd.2.map λt=>V.str t.1))=H5 at G h4|-;have k5:=k3.ext G;have bx:cu H5 S.d (.str "kinds") (some (.ref S.dk)):=fh k5.sd (nF _);have a6:∀e∈kv,e.1≠Sum.inr kd.1:=IE o.k.ke (by rw[hah];exact hm)
    have be:kv.length<mH:=by
     have e1:=o.k.ke.length;have bm:(kl.take i).length=kv.length:=e1;rw[I0]at bm;have:=hB.1;exact br ()
    have dp:nZ H5 S.dk (.str kd.1) (.ref l) (upd H5 S.dk (.dK (kv++[(Sum.inr kd.1,.ref l)]))):=by
     have:=nZ.k (k:=Sum.inr kd.1) (v:=.ref l) k5.hk be;rw[lT a6]at this;exact this
    have k6:=k5.LK (k:=kd) h4 a9 a8
    have fin:L6 H0 S kl (i+1) H (kv++[(Sum.inr kd.1,.ref l)]) (upd H5 S.dk (.dK (kv++[(Sum.inr kd.1,.ref l)]))):=by
     refine#[?_,λb u n1 n2 n3 n4 n5 e=>?_,?_,?_,?_]
     .rw[W,C4];exact k6
     .rw[au n1];exact G _ _ (y.t b u n1 n2 n3 n4 n5 (o.t b u n1 n2 n3 n4 n5 e))
     .have ap:jc (kl.take (i+1))=jc (kl.take i)++kd.2.map (·.1):=by rw[W];unfold jc;rw[NU];simp
      rw[ap,W,i5,hah];exact O
     .rw[W,i5,hah];have:=kX (x:=kd.1) o.d1;rw[hah,if_neg hm]at this;exact this
     .have ap:jc (kl.take (i+1))=jc (kl.take i)++kd.2.map (·.1):=by rw[W];unfold jc;rw[NU];simp
      rw[ap];exact d3
    ext;exact fin
 .rintro B H2 ⟨_,kv,o⟩;have Y:=o.e;rw[show us.length=kl.length by omega,NL]at Y;have k2:=o.k;rw[show us.length=kl.length by omega,Nr]at k2;have fin:=ko Y kv H2 k2 o.t;ext;exact fin
def yf(K:bN)(C u y cW:Addr):Sp:=λr H Q E=>∃(l:Hp) (v:V) (o:Addr) (a:qh) (j:Kl) (q:List (Str×Nat)) (p g:List Int) (e:List (Str×Kk)),r=[v,.ref o]/\Rp K H (.t (e.map wA)) v/\hU C l o a j q p g H/\e.length<=20/\g.length+e.length<=90 /\
 (∀f,cX (j.map (·.1)) [] g e=.error f->TF u y cW E l f)/\(∀d,cX (j.map (·.1)) [] g e=.ok d->∀m,hU C l o a j q p d m->j4 a H m->d.length<=g.length+e.length->Q .eN m)
structure L7(C:Addr) (H0:Hp) (o:Addr) (a:qh) (kl:Kl) (ds:List (Str×Nat)) (gs os os':List Int) (ps:List (Str×Kk)) (i:Nat) (l1:Addr) (H H2:Hp):Prop where
 k:hU C H0 o a kl ds gs os' H2
 t:j4 a H H2
 h:H2 l1=some (.lst ((ps.take i).map λp=>V.str p.1))
 e:cX (kl.map (·.1)) [] os ps=cX (kl.map (·.1)) ((ps.take i).map (·.1)) os' (ps.drop i)
 d:cH [] ((ps.take i).map (·.1))=none
 l:os'.length<=os.length+i
theorem Fp :∀{kl:Kl}{kvs:List (Key×V)},Paired (K1 a H) kl kvs->(cV kvs (Sum.inr x)).isSome=decide (x∈kl.map (·.1)):=by
 intro kl kvs p
 induction p with
 |nil=>rfl
 |@cons k _ r _ he t ih =>
  have(l,e,_):=he;subst e
  by_cases h:k.1=x
  .rw[fJ (show(Sum.inr k.1:Key)=Sum.inr x by rw[h]),Ny,decide_eq_true (by rw[h];exact OL)];rfl
  .rw[fK (λz=>h (Ow z)),ih,Ny];have:(x∈k.1::r.map (·.1))↔x∈r.map (·.1):=by rw[Nc];exact or_iff_right (λz=>h z.symm)
   exact(decide_eq_decide.mpr this).symm
theorem bU :Nm VN (ak iu):=by decide
theorem jf :Lm VN (ak iu):=by decide
theorem ic :aZ VN ["params","known"] (ak iu):=by ac_rfl
theorem Bq (F:jq K "look_params" "look_params" iu f fd)(N:Jr K C)(LO:oh P w K mg base "look_once" 3 We (qK K cT) gO ofd)(M:oh P w K mg base "look_gap" 3 V6 (CO cT) gG gfd)(IM:eL P w K mg base "innermost" 1 ["kind"] (nA K) gI ifd)(g:BV P w K mg base "NoName" "name" cN fN dN):cA P w K mg base (xP P w) 4 f fd ["params","known"] (yf K C cT cN cW):=by
 refine F.E7 ic (λvs H Q E h=>?_) (λcdv A outer s H vs Q E hr h=>?_)
 .have(_,_,_,_,_,_,_,_,_,rfl,_):=h;rfl
 have(H0,v,o,a,R,ds,gs,os,G,rfl,r,X,hp,ar,hE,k):=h;refine#[_,(Z5 (sa ic.nd jf 2 (dB aA)) (Zd (Zg (iZ rfl rfl rfl) (cz (va bU 0)) (Z9 (2) (Ze (ga ic.nd jf 3) (Zs (ga ic.nd jf 4)))) (Z5 (Zn (Z6 (va bU 2) (Zc (va bU 3)))) (Z5 (Zn (@eJ _ _ _ _ _ _ _ _ _ _ _ _ _ _ _ _ LO.ok (hr.mono ()) (by left) LO.at' LO.kp LO.bd .nil jy (Zc (va bU 2)) (by decide) (by rfl) (by rfl))) (Z5 (Z4 ic.nd jf 5 (Z0 IM (Zc (va bU 4)))) (Z5 (Zb (PW.pt (@gz _ _ _ _ _ _ _ (Zh bV (Z8 mT (va bU 5)) aG (bI _)) (@fz _ _ _ _ (Zh (jS (gE hr)) (Z8 aP (va bU 5)) (jU (va bU 1) rfl) (by with_unfolding_all rfl))))) (Zd (@gX _ _ _ _ _ rfl (@i9 _ _ _ _ _ _ _ _ _ _ _ _ _ _ _ _ _ g.k g.ok (hr.mono ()) (by left) g.m g.bd .nil kQ (Z1 (Z8 aP (va bU 5)) aA) (by decide) (by rfl) (by rfl))))) (Zd (Zb (Zh bV (Z8 mT (va bU 5)) aG (bI _)) (Zd (Zn (@eJ _ _ _ _ _ _ _ _ _ _ _ _ _ _ _ _ M.ok (hr.mono ()) (by left) M.at' M.kp M.bd .nil jy (Z1 (Z8 aP (va bU 5)) (Z1 (jU (va bU 1) rfl) aA)) (by decide) (by rfl) (by rfl))))))))))))),?_]
 right
 try dsimp only[qc,qd]
 have hc:=N.c;have n1:=N.kinds;have n6:=N.opens;have(pa,us,rfl,sq,rs):=r.aS;have ah:=rs.length;rw[bM]at ah;ext l1 L;have s1:=ae L (.lst []);have h1:upd H l1 (.lst []) l1=some (.lst []):=af;generalize upd H l1 (.lst [])=H1 at s1 h1|-;have an:=sq.same s1;ext;refine eX (K:=K) (xs:=us) (λi σ I=>(∃y3 y4 y5,σ=[some (.ref pa),some (.ref o),some (.ref l1),y3,y4,y5])/\∃q,L7 C H0 o a R ds gs os q G i l1 H I) #[#[_,_,_,rfl],os,X.ext s1,j4.of s1,h1,rfl,rfl,lj _] ?_ ?_ ?_
 .rintro i σ I hi ⟨_,q,u⟩;exact sq.kt (X.uz u.t)
 .rintro i xv σ I hxv ⟨⟨_,_,_,rfl⟩,q,u⟩;have(t,ht,rx):=rs.get' hxv;rw[xn]at ht;have(p,T,rfl):=we.mp ht;have ak:=(bH.mp T).1;have aa:G.take (i+1)=G.take i++[p]:=by rw[mu ak,(bH.mp T).2]
  have B:=u.e;rw[rA T]at B;have d2:=kX (x:=p.1) u.d;have k2:=X.uz u.t;have(qa,v1,v2,rfl,ag,q1,q2):=(show Rp K H (.t [.s p.1,jI p.2]) xv from rx).t2;obtain rfl:=q1.aM;have am:=ag.kt k2;have h2:=u.h;have ai:((G.take i).map λp=>V.str p.1).length<mH:=br (by rw[bM,I0];omega);generalize hnm:(G.take i).map (·.1)=nm at B d2;have ac:((G.take i).map λp=>V.str p.1)=nm.map V.str:=by rw[<-hnm,Oa];rfl
  rw[ac]at h2 ai;have aq:nm.length<=20:=by rw[<-hnm,bM,I0];omega
  have k3:=u.k.other X L (.lst (nm.map V.str++[.str p.1]));have t3:j4 a H (upd I l1 (.lst (nm.map V.str++[.str p.1]))):=u.t.Cz L _;have h3:upd I l1 (.lst (nm.map V.str++[.str p.1])) l1=some (.lst ((nm++[p.1]).map V.str)):=by rw[af];simp
  have ad:nT K false (upd I l1 (.lst (nm.map V.str++[.str p.1]))) l1 ((nm++[p.1]).map V.str):=bQ.of h3;have l3:(nm++[p.1]).length<=500:=by rw[i4];show _+1<=_;omega
  have oE:∀x,cH [] (nm++[p.1])=some x->Told E (upd I l1 (.lst (nm.map V.str++[.str p.1]))) cT "name" (.str x):=λx Z=>by
   rw[d2]at Z
   by_cases c:p.1∈nm
   .rw[if_pos c]at Z B
    cases Z
    exact(hE _ B).same k3.sm
   .rw[if_neg c]at Z;cases Z
  ext;generalize upd I l1 (.lst (nm.map V.str++[.str p.1]))=H3 at k3 t3 h3 ad oE|-;intro U y s4;have c:p.1∉nm:=λc=>by rw[d2,if_pos c]at U;cases U
  rw[if_neg c]at B;have J:=k3.ext s4;have t4:=t3.same s4;have h4:=s4 _ _ h3;have r4:=q2.kt (X.uz t4);ext Y O;have al:((G.take (i+1)).map λp=>V.str p.1)=(nm++[p.1]).map V.str:=by rw[aa,i5,ac,i5];rfl
  have ab:(G.take (i+1)).map (·.1)=nm++[p.1]:=by rw[aa,i5,hnm];rfl
  have fin:∀D H5,fM (R.map (·.1)) q p.2=.ok D->D.length<=q.length+1->hU C H0 o a R ds gs D H5->j4 a y H5->H5 l1=some (.lst ((nm++[p.1]).map V.str))->L7 C H0 o a R ds gs os D G (i+1) l1 H H5:=λD H5 eo lo k5 t5 h5=>by
   refine#[k5,t4.trans t5,by rw[al];exact h5,?_,by rw[ab];exact U,by have:=u.l;omega];rw[eo]at B;rw[ab];exact B
  have as:=J.ins;have gk:=tP a;have go:=zj a
  cases ec:p.2.core with
  |row j=>exact absurd ec (p.2.rO j)
  |num =>
   rw[ec]at O;have f5:=fin q y (by unfold fM;rw[ec]) (OC _) J (j4.refl _ _) h4;have S:∀{Q:VK},Q (.str "n") y->GH K Y (.int 0) y Q:=λh=>core0 O h;ext;refine S ?_;ext;refine S ?_;ext;exact f5
  |kd x =>
   rw[ec]at O;have S:∀{Q:VK},Q (.str "kind") y->GH K Y (.int 0) y Q:=λh=>core0 O h;have(ka,w1,w2,rfl,aj,g1,g2):=(show Rp K y (.t [.s "kind",.s x]) Y from O).t2;obtain rfl:=g1.aM;obtain rfl:=g2.aM;have a1:eK [V.str "kind",.str x] 1=some (.str x):=aH (j:=1) rfl;have dg:cu y a.dK (.str x) (cV a.kv (Sum.inr x)):=cu.k (k:=Sum.inr x) J.kk;have vk:(cV a.kv (Sum.inr x)).isSome=decide (x∈R.map (·.1)):=Fp J.ke;ext;refine S ?_;ext;refine bW (λc3=>?_) (λc3=>?_)
   .have W:x∉R.map (·.1):=λz=>by
     rw[vk,decide_eq_true z]at c3
     cases c3
    have tt:=(hE (.nn,x) (by rw[B];unfold fM;rw[ec];dsimp only;rw[if_neg W])).same J.sm;ext;exact gc g.c tt
   .have W:x∈R.map (·.1):=by
     by_cases z:x∈R.map (·.1)
     .exact z
     .exact absurd (by rw[vk,decide_eq_false z];rfl) c3
    have f5:=fin q y (by unfold fM;rw[ec];dsimp only;rw[if_pos W]) (OC _) J (j4.refl _ _) h4;ext;refine S ?_;ext;exact f5
  |op n =>
   rw[ec]at O;have S:∀{Q:VK},Q (.str "open") y->GH K Y (.int 0) y Q:=λh=>core0 O h;have(ka,w1,w2,rfl,aj,g1,g2):=(show Rp K y (.t [.s "open",.i n]) Y from O).t2;obtain rfl:=g1.aM;obtain rfl:=g2.jH;have a1:eK [V.str "open",.int n] 1=some (.int n):=aH (j:=1) rfl;have ao:=J.oo;have ap:q.length<=900:=by have:=u.l;omega
   have tw:n∈q->Told E y cT "name" (.str "?"):=λW=>(hE (.tw,"?") (by rw[B];unfold fM;rw[ec];dsimp only;rw[if_pos W])).same J.sm;ext;refine S ?_;ext;refine S ?_;ext W;have f5:=fin (q++[n]) _ (by unfold fM;rw[ec];dsimp only;rw[if_neg W]) (by rw[i4];exact lj _) (J.CW (q++[n])) ((j4.refl a y).CW _) (by rw[au (ay X.oo L).symm];exact h4);exact#[#[_,_,_,rfl],_,f5]
 .rintro σ I ⟨_,q,u⟩;have B:=u.e;rw[show us.length=G.length by omega,NL]at B;exact k q B I u.k u.t (by have:=u.l;omega)
def wF(K:bN)(j cW:Addr):Sp:=λg H Q E=>∃(t:Str) (b d:Addr) (e:List V) (c:Option Nat),g=[.str t,.ref b,.ref d]/\cP K H b e/\cu H d (.str t) (c.map λ(n:Nat)=>V.int (n:Int)) /\
 (c=none->Told E H j "name" (.str t))/\(∀n,c=some n->e.length≠n->Told E H cW "name" (.str t))/\(∀n,c=some n->e.length=n->Q .eN H)
theorem fj :Nm VJ (ak jM):=by decide
theorem uC :aZ VJ VJ (ak jM):=by ac_rfl
theorem C5 (F:jq K "look_count" "look_count" jM f u)(j:BV P w K mg base "NoName" "name" cN fN dN)(g:BV P w K mg base "WrongCount" "name" cW fW dW)(l:mg "len"=none):cA P w K mg base (xP P w) 3 f u VJ (wF K cN cW):=by
 refine F.E7 uC (λy H Q E h=>?_) (λcdv A outer s H y Q E hr h=>?_)
 .have(_,_,_,_,_,rfl,_):=h;rfl
 have(t,b,d,r,c,rfl,G,v,D,B,k):=h;refine#[_,(Z5 (Zb (nQ (jS (gE hr)) (va fj 0) (va fj 2) (by with_unfolding_all rfl)) (Zd (@gX _ _ _ _ _ rfl (@i9 _ _ _ _ _ _ _ _ _ _ _ _ _ _ _ _ _ j.k j.ok (hr.mono ()) (by left) j.m j.bd .nil kQ (Zc (va fj 0)) (by decide) (by rfl) (by rfl))))) (Zd (Zb (Zh pI (Z2 aJ l Nl (Zc (va fj 1))) (jK (gE hr) (va fj 2) (va fj 0) (λ_ _=>rfl)) (bI _)) (Zd (@gX _ _ _ _ _ rfl (@i9 _ _ _ _ _ _ _ _ _ _ _ _ _ _ _ _ _ g.k g.ok (hr.mono ()) (by left) g.m g.bd .nil kQ (Zc (va fj 0)) (by decide) (by rfl) (by rfl))))))),?_]
 right
 try dsimp only[qc,qd]
 cases c with
 |none =>
  have o:=D rfl;have p:cu H d (.str t) none:=v;ext;exact gc j.c o
 |some n =>
  have p:cu H d (.str t) (some (.int n)):=v;ext;refine bW (λc=>?_) (λc=>?_)
  .have o:=B n rfl (λz=>by rw[z]at c;simp at c);ext;exact gc g.c o
  .have e:r.length=n:=by
    by_cases z:r.length=n
    .exact z
    .exact absurd (by simpa using λq=>z (by exact_mod_cast q)) c
   ext;exact k n rfl e
def Ae(K:bN)(C t u cW:Addr):Sp:=λm H Q E=>∃(j:Hp) (b o:Addr) (a:qh) (e:Kl) (r:List (Str×Nat)) (q p:List Int) (d:List (Str×List Str)) (ks:List T) (g:List V),m=[.ref b,.ref o]/\cP K H b g/\bO K H (Oj oS d ks) g/\d.length=ks.length/\d.length<=20/\(∀x∈d,x.2.length<=20) /\
 hU C j o a e r q p H/\wV e/\(jc e).Nodup/\(∀f,gx e d=some f->TF t u cW E j f)/\(gx e d=none->∀l,aT H l->Q .eN l)
theorem Fq (h:∀x∈a,x.dep<=d):T.mX a<=d:=by
 induction a with
 |nil=>exact Nu _
 |cons x r ih =>
  have j:=h x (.head _);have g:=ih λy e=>h y (.tail _ e);unfold T.mX;omega
theorem Br (xs:List Str):T.mX (xs.map T.s)<=149:=Fq λx d=>by
 have(y,_,rfl):=NI.mp d;exact LZ
theorem ve {d:Type}{p:d->Bool}{l:List d}{x:d}(h:l[i]?=some x):(l.drop i).find? p=if p x=true then some x else(l.drop (i+1)).find? p:=by
 have e:=(bH.mp h).1;have g:l.drop i=x::l.drop (i+1):=by rw[NJ e,(bH.mp h).2]
 rw[g,Oe]
 cases p x<;>rfl
theorem tV {d g:Type}{p:d->Option g}{l:List d}{i:Nat}{x:d}(h:l[i]?=some x):(l.drop i).findSome? p=match p x with
  |some y=>some y
  |none=>(l.drop (i+1)).findSome? p:=by
 have e:=(bH.mp h).1;have j:l.drop i=x::l.drop (i+1):=by rw[NJ e,(bH.mp h).2]
 rw[j,List.findSome?_cons]
 cases p x<;>rfl
theorem jO {i:Nat}(h:(Oj oS arms ks)[i]?=some t):∃x k,arms[i]?=some x/\t=.t [.s x.1,.t (x.2.map .s),k]:=by
 rw[Rl]at h
 cases e1:arms[i]? with
 |none=>rw[e1]at h;cases h
 |some x =>
  cases e2:ks[i]? with
  |none=>rw[e1,e2]at h;cases h
  |some k =>
   rw[e1,e2]at h;exact#[x,k,rfl,(Nk h).symm]
theorem C6 :∀{kl:Kl}{kvs:List (Key×V)}{kd:Str×List (Str×List Kk)},Paired (K1 a H) kl kvs->Aa kl n=some kd->∃l,cV kvs (Sum.inr n)=some (.ref l)/\H l=some (.lst (kd.2.map λt=>.str t.1))
 |_,_,_,.nil,h=>nomatch h
 |k::r,_,kd,.cons ⟨l,e,hl,_⟩ t,h=>by
  subst e;unfold Aa at h;rw[Oe]at h
  by_cases c:k.1=n
  .rw[decide_eq_true c]at h
   cases h
   exact#[l,fJ (show(Sum.inr k.1:Key)=Sum.inr n by rw[c]),hl]
  .rw[decide_eq_false c]at h;have(l2,g,d):=C6 t h;exact#[l2,by rw[fK (λz=>c (Ow z))];exact g,d]
theorem GV (h:jJ kl t=some y):∃kd,Aa kl y.2.1=some kd/\kd∈kl/\y.1=t:=by
 have d:=PJ h;have l:y.1=t:=by simpa using List.find?_some h
 unfold tl at d;have(k,j,g):=Px.mp d;have(z,_,rfl):=NI.mp g
 cases e:Aa kl k.1 with
 |none =>
  have:=PF.mp e k j;simp at this
 |some kd=>exact#[kd,rfl,PJ e,l]
theorem bR :Nm VD (ak iJ):=by decide
theorem fU :Lm VD (ak iJ):=by decide
theorem eZ :aZ VD ["arms","known"] (ak iJ):=by ac_rfl
theorem Ft (F:jq K "look_arms" "look_arms" iJ f fd)(N:Jr K C)(LO:oh P w K mg base "look_once" 3 We (qK K cT) gO ofd)(S:oh P w K mg base "look_count" 3 VJ (wF K cN cW) gC cfd)(e:BV P w K mg base "NoName" "name" cN fN dN)(g:BV P w K mg base "WrongCount" "name" cW fW dW)(r:mg "sorted"=none):cA P w K mg base (xP P w) 4 f fd ["arms","known"] (Ae K C cT cN cW):=by
 refine F.E7 eZ (λZ H Q E h=>?_) (λcdv A outer s H Z Q E hr h=>?_)
 .have(_,_,_,_,_,_,_,_,_,_,_,rfl,_):=h;rfl
 have(H0,b,o,a,l,ds,gs,os,d,ks,L,rfl,sq,rs,hl,la,ln,J,hB,bn,hE,k):=h;refine#[_,(Z5 (Zb (@yE _ _ _ _ (xh (va bR 0) (λ_=>rfl))) (Zd (@gX _ _ _ _ _ rfl (i9 e.k e.ok (hr.mono ()) (by left) e.m e.bd .nil kQ (Zc aG))))) (Z5 (Zg (iZ rfl rfl rfl) (cz (va bR 0)) (Z9 (3) (Ze (ga eZ.nd fU 2) (Ze (ga eZ.nd fU 3) (Zs (ga eZ.nd fU 4))))) (Zd (Zb (Zh (jS (gE hr)) (va bR 2) (jU (va bR 1) rfl) (by with_unfolding_all rfl)) (Zd (@gX _ _ _ _ _ rfl (@i9 _ _ _ _ _ _ _ _ _ _ _ _ _ _ _ _ _ e.k e.ok (hr.mono ()) (by left) e.m e.bd .nil kQ (Zc (va bR 2)) (by decide) (by rfl) (by rfl))))))) (Z5 (Z4 eZ.nd fU 5 (@jK _ _ _ _ _ _ (gE hr) (jU (va bR 1) rfl) (Zk aP (Z8 aP (va bR 0)) aC) (λ_ _=>rfl))) (Z5 (Zb (Zh (Ib hr.Cr) (Z2 tR r SH (Z1 (Zf (ak iJ) VD VA [] (cz (va bR 0)) (λ_ _ _ _=>(Z9 (3) (Ze (Z3 (i:=0) (show(VA:List Str).Nodup by decide)) (Ze (Z3 (i:=1) (show(VA:List Str).Nodup by decide)) (Zs (Z3 (i:=2) (show(VA:List Str).Nodup by decide))))))) (λ_ _ _ _=>(va (show Nm VA _ by left) 0))) aA)) (Z2 tR r SH (Z1 (@jK _ _ _ _ _ _ (gE hr) (jU (va bR 1) rfl) (va bR 5) (λ_ _=>rfl)) aA)) (bI _)) (Zd (@gX _ _ _ _ _ rfl (i9 g.k g.ok (hr.mono ()) (by left) g.m g.bd .nil kQ (Zc aG))))) (Zd (Zg (iZ rfl rfl rfl) (cz (va bR 0)) (Z9 (3) (Ze (ga eZ.nd fU 2) (Ze (ga eZ.nd fU 3) (Zs (ga eZ.nd fU 4))))) (Z5 (Zn (@eJ _ _ _ _ _ _ _ _ _ _ _ _ _ _ _ _ S.ok (hr.mono ()) (by left) S.at' S.kp S.bd .nil jy (Z1 (va bR 2) (Z1 (va bR 3) (Z1 (jU (va bR 1) rfl) aA))) (by decide) (by rfl) (by rfl))) (Zd (Zn (@eJ _ _ _ _ _ _ _ _ _ _ _ _ _ _ _ _ LO.ok (hr.mono ()) (by left) LO.at' LO.kp LO.bd .nil jy (Zc (va bR 3)) (by decide) (by rfl) (by rfl))))))))))),?_]
 right
 try dsimp only[qc,qd]
 have hc:=N.c;have n1:=N.kinds;have n2:=N.ktag;have n3:=N.mtag;have g1:=tP a;have g2:=CY a;have g3:=vc a;have ax:=J.ins;have u:=rs.length;rw[OD,<-hl,Ra]at u
 cases ea:d with
 |nil =>
  subst ea;have tt:=(hE (.nn,"match") rfl).same J.sm;obtain rfl:L=[]:=P6.mp u;ext;exact gc e.c tt
 |cons a0 ar =>
  have em:(!L.isEmpty)=true:=by
   cases L with
   |nil=>rw[ea]at u;cases u
   |cons _ _=>rfl
  have e0:gx l d=match d.find? (λb=>decide ((jJ l b.1).isSome=false))with
    |some b=>some (.nn,b.1)
    |none=>if(d.map (·.1)).isPerm ((((jJ l a0.1).bind λy=>Aa l y.2.1).map λk=>k.2.map (·.1)).getD [])=true then d.findSome? (jz l)else some (.wr,"match"):=by subst ea;rfl
  have h0:d[0]?=some a0:=by rw[ea];rfl
  clear ea;refine j0 ?_;intro N1 N2 c1 c2;ext;rw[em];ext;clear c1
  have a1:∀t,cu H a.dT (.str t) ((jJ l t).map λx=>V.str x.2.1):=λt=>by
   have:=cu.k (k:=Sum.inr t) J.kt;rw[qi (λx:Str×Str×List Kk=>x.1) (λx=>V.str x.2.1)]at this;exact this
  refine eX (K:=K) (xs:=L) (λi v X=>(∃y2 y3 y4 y5,v=[some (.ref b),some (.ref o),y2,y3,y4,y5])/\X=H/\d.find? (λb=>decide ((jJ l b.1).isSome=false))=(d.drop i).find? (λb=>decide ((jJ l b.1).isSome=false))) #[#[_,_,_,_,rfl],rfl,rfl] ?_ ?_ ?_
  .rintro i v X hi ⟨_,rfl,_⟩;exact sq
  .rintro i xv v X hxv ⟨⟨_,_,_,_,rfl⟩,rfl,R⟩;have(t,ht,rx):=rs.get' hxv;have(x,kk,hx,rfl):=jO ht;have(qa,v1,v2,v3,rfl,a3,q1,q2,q3):=rx.t3;obtain rfl:=q1.aM;rw[ve hx]at R;have dg:=a1 x.1
   cases et:jJ l x.1 with
   |none =>
    rw[et]at dg R;have bg:cu X a.dT (.str x.1) none:=dg;have e3:d.find? (λb=>decide ((jJ l b.1).isSome=false))=some x:=R;rw[e3]at e0;have tt:=(hE _ e0).same J.sm;ext;exact gc e.c tt
   |some y =>
    rw[et]at dg R;have bg:cu X a.dT (.str x.1) (some (.str y.2.1)):=dg;ext;exact R
  rintro v X ⟨⟨_,_,_,_,rfl⟩,rfl,R⟩;rw[u,NL]at R;rw[R]at e0;have hz:0<d.length:=(bH.mp h0).1
  obtain⟨y,hy⟩:∃y,jJ l a0.1=some y:=by
   have hm:=PF.mp R a0 (Nf h0)
   cases et:jJ l a0.1 with
   |some y=>exact#[y,rfl]
   |none=>rw[et]at hm;simp at hm
  have(kd,aw,a8,_):=GV hy;have(lk,vk,av):=C6 J.ke aw;rw[hy]at e0
  have p:gx l d=if(d.map (·.1)).isPerm (kd.2.map (·.1))=true then d.findSome? (jz l)else some (.wr,"match"):=by
   rw[e0];show(if(d.map (·.1)).isPerm (((Aa l y.2.1).map λk=>k.2.map (·.1)).getD [])=true then _ else _)=_;rw[aw];rfl
  have br:cu X a.dK (.str y.2.1) (some (.ref lk)):=by
   have:=cu.k (k:=Sum.inr y.2.1) J.kk;rw[vk]at this;exact this
  have bt:cu X a.dT (.str a0.1) (some (.str y.2.1)):=by have:=a1 a0.1;rw[hy]at this;exact this
  obtain⟨u0,ap⟩:∃u0,L[0]?=some u0:=#[L[0],by simp[u,hz]];have(t,ht,rx):=rs.get' ap;have(x,kk,hx,rfl):=jO ht;obtain rfl:a0=x:=Nk (h0.symm.trans hx);have(qa,v1,v2,v3,rfl,a3,q1,q2,q3):=rx.t3;obtain rfl:=q1.aM;have bx:eK L 0=some (.ref qa):=aH (j:=0) ap;have bw:eK [V.str a0.1,v2,v3] 0=some (.str a0.1):=aH (j:=0) rfl;ext;clear c2;refine gb (K:=K) (xs:=L) (λj v Z W=>(∃y1 y2 y3,v=[y1,y2,y3])/\W=X/\Z=(d.take j).map λx=>V.str x.1) #[#[_,_,_,rfl],rfl,rfl] ?_ (small ()) ?_ ?_ ?_
  .rintro j v Z W hj ⟨_,_,rfl⟩;rw[bM,I0];omega
  .rintro j v Z W hj ⟨_,rfl,_⟩;exact sq
  .rintro j yv v Z W hyv ⟨⟨_,_,_,rfl⟩,rfl,rfl⟩;have(t,ht,ry):=rs.get' hyv;have(x,kj,an,rfl):=jO ht;have a9:=(bH.mp an).1;have bb:d.take (j+1)=d.take j++[x]:=by rw[mu a9,(bH.mp an).2]
   have(ga,w1,w2,w3,rfl,az,p1,p2,p3):=ry.t3;obtain rfl:=p1.aM;ext;rw[bb,i5];rfl
  rintro v Z W ⟨_,rfl,rfl⟩ l3 hl3;rw[u,Nr];have be:(d.map λx=>V.str x.1)=(d.map (·.1)).map V.str:=by rw[Oa];rfl
  rw[be];have s4:=ae hl3 (.lst ((d.map (·.1)).map V.str));have h4:bQ K (upd W l3 (.lst ((d.map (·.1)).map V.str))) l3 ((d.map (·.1)).map V.str):=bQ.of af;generalize upd W l3 (.lst ((d.map (·.1)).map V.str))=H4 at s4 h4|-;have lm:(d.map (·.1)).length<64:=by rw[bM];omega
  ext G l5 ad al a7;have s5:=ae a7 (.lst (G.map V.str));have h5:bQ K (upd H4 l5 (.lst (G.map V.str))) l5 (G.map V.str):=bQ.of af;generalize upd H4 l5 (.lst (G.map V.str))=H5 at s5 h5|-;have O:=s4.trans s5;have bp:=O _ _ ax
  have a2:cu H5 a.dK (.str y.2.1) (some (.ref lk)):=by
   have:=cu.k (k:=Sum.inr y.2.1) (O _ _ J.kk);rw[vk]at this;exact this
  have bc:(kd.2.map λt=>V.str t.1)=(kd.2.map (·.1)).map V.str:=by rw[Oa];rfl
  rw[bc]at av;have as:bQ K H5 lk ((kd.2.map (·.1)).map V.str):=bQ.of (O _ _ av);have bm:(kd.2.map (·.1)).length<64:=by rw[bM];have:=(hB.2 kd a8).1;omega
  ext M l6 ac aj a6;have s6:=ae a6 (.lst (M.map V.str));have h6:bQ K (upd H5 l6 (.lst (M.map V.str))) l6 (M.map V.str):=bQ.of af;generalize upd H5 l6 (.lst (M.map V.str))=H6 at s6 h6|-;have ab:=O.trans s6;have ay:bQ K H6 l5 (G.map V.str):=s6.seq h5
  have ah:G=M↔(d.map (·.1)).isPerm (kd.2.map (·.1))=true:=by
   rw[Th];constructor
   .intro z;subst z;exact ad.symm.trans ac
   .intro z;exact yd (ad.trans (z.trans ac.symm)) al aj
  have D:G.map T.s=M.map T.s↔G=M:=#[λz=>List.map_inj_right (λ_ _ q=>T.s.inj q)|>.mp z,λz=>by rw[z]]
  refine#[l5,l6,G.map T.s,M.map T.s,_,_,rfl,rfl,ay,bO.strs _,h6,bO.strs _,Br _,_,rfl,?_];refine bW (λc=>?_) (λc=>?_)
  .have np:¬(d.map (·.1)).isPerm (kd.2.map (·.1))=true:=λz=>by
    rw[decide_eq_true (D.mpr (ah.mpr z))]at c
    cases c
   rw[if_neg np]at p;have tt:=(hE _ p).same (J.sm.trans ab);ext;exact gc g.c tt
  have np:(d.map (·.1)).isPerm (kd.2.map (·.1))=true:=by
   by_cases z:G.map T.s=M.map T.s
   .exact ah.mp (D.mp z)
   .exact absurd (by rw[decide_eq_false z];rfl) c
  rw[if_pos np]at p;have bj:=sq.same ab
  have bf:∀t H',aT W H'->cu H' a.dM (.str t) (((jJ l t).map λx=>x.2.2.length).map λ(n:Nat)=>V.int (n:Int)):=λt H' s'=>by
   have:=cu.k (k:=Sum.inr t) (s' _ _ J.km);rw[qi (λx:Str×Str×List Kk=>x.1) (λx=>V.int x.2.2.length)]at this;rw[TL];exact this
  clear ah D ac ad al aj ay h6 h5 as a2 h4;ext;refine eX (K:=K) (xs:=L) (λi v U=>(∃y2 y3 y4 y5,v=[some (.ref b),some (.ref o),y2,y3,y4,y5])/\aT W U/\d.findSome? (jz l)=(d.drop i).findSome? (jz l)) #[#[_,_,_,_,rfl],ab,rfl] ?_ ?_ ?_
  .rintro i v U hi ⟨_,I,_⟩;exact sq.same I
  .rintro i xv v U hxv ⟨⟨_,_,_,_,rfl⟩,I,B⟩;have(t,ht,ry):=rs.get' hxv;have(x,kj,ao,rfl):=jO ht;have(ga,w1,w2,w3,rfl,az,p1,p2,p3):=ry.t3;obtain rfl:=p1.aM;have(na,bk,rfl,a4,a5):=p2.aS;obtain rfl:=a5.kW;rw[tV ao]at B;have bh:=az.same I;have am:=a4.same I;have bo:=I _ _ ax;have bs:=bf x.1 U I;have aa:=J.sm.trans I;have bl:=ln x (Nf ao)
   have bv:(jJ l x.1).map (λx=>x.2.2.length)=none->Told E U cN "name" (.str x.1):=λz=>by
    have Y:jz l x=some (.nn,x.1):=by
     unfold jz;rw[Qc.mp z]
    rw[Y]at B;rw[B]at p;exact(hE _ p).same aa
   have bu:∀n,(jJ l x.1).map (λx=>x.2.2.length)=some n->(x.2.map V.str).length≠n->Told E U cW "name" (.str x.1):=λn z hn=>by
    have(y',ag,rfl):=we.mp z
    have Y:jz l x=some (.wr,x.1):=by
     unfold jz;rw[ag];dsimp only;rw[if_neg (λq=>hn (by rw[bM];exact q))]
    rw[Y]at B;rw[B]at p;exact(hE _ p).same aa
   ext n hn aq;have(y',ag,rfl):=we.mp hn
   have Y:jz l x=(cH [] x.2).map λz=>(.tw,z):=by
    unfold jz;rw[ag];dsimp only;rw[if_pos (by rw[bM]at aq;exact aq)]
   have bi:nT K true U na (x.2.map V.str):=am;have l5:x.2.length<=500:=()
   have oE:∀z,cH [] x.2=some z->Told E U cT "name" (.str z):=λz hz=>by
    rw[hz]at Y;have ai:jz l x=some (.tw,z):=Y;rw[ai]at B;rw[B]at p;exact(hE _ p).same aa
   ext ba H8 s8;rw[ba]at Y;have ai:jz l x=none:=Y;rw[ai]at B;exact#[#[_,_,_,_,rfl],I.trans s8,B]
  .rintro v U ⟨_,I,B⟩;rw[u,NL]at B;rw[B]at p;exact k p _ I
theorem zm :∀{l:List (Str×Str×Nat)}{kvs:List (Key×V)}{z:Str×Str×Nat},Paired (IA H) l kvs->l.find? (λx=>decide (x.1=t))=some z->∃q,cV kvs (Sum.inr t)=some (.ref q)/\H q=some (.tup [.str z.2.1,.int z.2.2])
 |_,_,_,.nil,h=>nomatch h
 |k::r,_,z,.cons ⟨l,e,hl⟩ p,h=>by
  subst e;rw[Oe]at h
  by_cases c:k.1=t
  .rw[decide_eq_true c]at h
   cases h
   exact#[l,fJ (show(Sum.inr k.1:Key)=Sum.inr t by rw[c]),hl]
  .rw[decide_eq_false c]at h;have(l2,g,d):=zm p h;exact#[l2,by rw[fK (λz=>c (Ow z))];exact g,d]
theorem C7 :∀{kl:Kl}{kvs:List (Key×V)}{kd:Str×List (Str×List Kk)},Paired (K2 S H) kl kvs->Aa kl n=some kd->∃l,cV kvs (Sum.inr n)=some (.ref l)/\H l=some (.lst (kd.2.map λt=>.str t.1))
 |_,_,_,.nil,h=>nomatch h
 |k::r,_,kd,.cons ⟨l,e,hl,_⟩ t,h=>by
  subst e;unfold Aa at h;rw[Oe]at h
  by_cases c:k.1=n
  .rw[decide_eq_true c]at h
   cases h
   exact#[l,fJ (show(Sum.inr k.1:Key)=Sum.inr n by rw[c]),hl]
  .rw[decide_eq_false c]at h;have(l2,g,d):=C7 t h;exact#[l2,by rw[fK (λz=>c (Ow z))];exact g,d]
theorem qk (kl:Kl)(t:Str):(rB kl).find? (λx=>decide (x.1=t))=(jJ kl t).map λx=>(x.1,x.2.1,x.2.2.length):=by
 unfold rB jJ;rw[List.find?_map];rfl
theorem C8 (h:(jc kl).Nodup)(d:kd∈kl):(kd.2.map (·.1)).Nodup:=by
 have(l1,l2,rfl):=Ul d;unfold jc at h;rw[NU,OY]at h;exact(OH.mp (OH.mp h).2.1).1
theorem Af :∀(e told:List Str),e.Nodup->e.length=told.length->(∀t∈e,t∈told)->told.Perm e
 | [],told,_,hl,_=>by
  obtain rfl:told=[]:=P6.mp hl.symm;exact .refl _
 |t::r,told,hn,hl,hs=>by
  have(a,b,rfl):=Ul (hs t (.head _));have d:=O5.mp hn
  have j:=Af r (a++b) d.2 (by rw[Nv,i4,Nv]at hl;rw[i4];omega) λx g=>by
   have:=hs x (.tail _ g);rw[L0,Nc]at this;rw[L0];rcases this with h|rfl|h
   .exact .inl h
   .exact absurd g d.1
   .exact .inr h
  exact List.perm_middle.trans (j.cons t)
theorem Bs {told:List Str}(hn:d.Nodup):told.isPerm d=true↔told.length=d.length/\∀t∈d,t∈told:=by
 rw[Th];constructor
 .intro p;exact#[p.length_eq,λt e=>p.mem_iff.mpr e]
 .rintro⟨j,g⟩;exact Af d told hn j.symm g
structure LL(H7:Hp) (xs:List Str) (j:Nat) (vs:List V) (H8:Hp):Prop where
 s:aT H7 H8
 l:vs.length<=j
 e:(vs=[]/\cH [] xs=cH (xs.take j) (xs.drop j))\/∃z r,vs=.str z::r/\cH [] xs=some z
def Ag(K:bN):Sp:=λo H Q _=>∃(t:Hp) (S:mC) (b d:Addr) (g:Kl) (r:List (Str×Nat)) (q p:List Int) (e:List (Str×List Str)) (ks:List T) (m:List V),o=[.ref d,.ref b]/\eG t S g (rB g) r q p H/\S.d=d/\cP K H b m/\bO K H (Oj oS e ks) m/\e.length=ks.length/\e.length<=20/\(∀x∈e,x.2.length<=20)/\wV g/\(jc g).Nodup /\
 ∀l j,aT H j->mK j (gx g e) l->Q l j
theorem aV :Nm U9 (ak dH):=by decide
theorem cE :Lm U9 (ak dH):=by decide
theorem b7 :aZ U9 V8 (ak dH):=by ac_rfl
theorem C9 (F:jq K "_law_arms_fault" "_law_arms_fault" dH f fd)(m:mg "len"=none)(ad:mg "all"=none)(z_range:mg "range"=none):cA P w K mg base gy 3 f fd V8 (Ag K):=by
 refine F.ok b7 (λv H Q E h=>?_) (λcdv A outer s H v Q E hr h=>?_)
 .have(_,_,_,_,_,_,_,_,_,_,_,rfl,_):=h;rfl
 have(H0,S,b,d,u,ds,gs,os,g,ks,R,rfl,sc,rfl,sq,rs,hl,la,ln,hB,bg,k):=h;refine#[_,(Z5 (Zb (Zh bV (Z2 aJ m Nl (Zc (va aV 1))) aC (bI _)) (Zd (Zu (Zt (c8 aG (Zc aG)))))) (Z5 (Zg NH (cz (va aV 1)) (Z9 (3) (Ze (ga b7.nd cE 2) (Ze (ga b7.nd cE 3) (Zs (ga b7.nd cE 4))))) (Zd (Zb (Zh (jS (gE hr)) (va aV 2) (Zj (va aV 0)) (by with_unfolding_all rfl)) (Zd (Zu (Zt (Z1 aG (Zc (va aV 2))))))))) (Z5 (Z4 b7.nd cE 5 (@jK _ _ _ _ _ _ (gE hr) (Zj (va aV 0)) (Zk aP (@jK _ _ _ _ _ _ (gE hr) (Zj (va aV 0)) (Zk aP (Z8 aP (va aV 1)) aC) (λ_ _=>rfl)) aC) (λ_ _=>rfl))) (Z5 (Z4 b7.nd cE 6 (Zf (ak dH) U9 Vi [] (cz (va aV 1)) (λ_ _ _ _=>(Z9 (3) (Ze (Z3 (i:=0) (show(Vi:List Str).Nodup by decide)) (Ze (Z3 (i:=1) (show(Vi:List Str).Nodup by decide)) (Zs (Z3 (i:=2) (show(Vi:List Str).Nodup by decide))))))) (λ_ _ _ _=>(va (show Nm Vi _ by left) 0)))) (Z5 (Zb (PW.pt (@pq _ _ _ _ _ _ _ (Zh pI (Z2 aJ m Nl (Zc (va aV 6))) (Z2 aJ m Nl (Zc (va aV 5))) (bI _)) (@oM _ _ _ _ (@yE _ _ _ _ (@sr _ _ _ (Z2 (Cn rfl) ad PyProof.Rows.boot_all (Z1 (Zf (ak dH) U9 ["_law_t"] [6] (lD (va aV 5)) (λ_ _ _ _=>(Z3 (i:=0) (show(V5:List Str).Nodup by decide))) (λ_ _ _ _=>(jo (sR K rfl) (va (show Nm V5 _ by left) 0) (va (show Nm V5 _ by left) 1) (by with_unfolding_all rfl)))) aA)) (by intro _;rfl)))))) (Zd (Zu (Zt (c8 aG (Zc aG)))))) (Z5 (Zg NH (cz (va aV 1)) (Z9 (3) (Ze (ga b7.nd cE 2) (Ze (ga b7.nd cE 3) (Zs (ga b7.nd cE 4))))) (Z5 (Zb (Zh pI (Z2 aJ m Nl (Zc (va aV 3))) (Zk aP (@jK _ _ _ _ _ _ (gE hr) (Zj (va aV 0)) (va aV 2) (λ_ _=>rfl)) aC) (bI _)) (Zd (Zu (Zt (Z1 aG (Zc (va aV 2))))))) (Z5 (@nh _ _ _ _ _ _ _ _ _ _ _ _ _ _ _ (ak dH) U9 ["_law_k"] [3] rfl rfl rfl (by decide) (Zq (Z1 (Z2 aJ m Nl (Zc (va aV 3))) aA)) (λ_ _ _ _=>(Z3 (i:=0) (show(VB:List Str).Nodup by decide))) (λ_ _ _ _=>(@xE _ _ _ (Zh (sR K rfl) (iI (vS K rfl) (va (show Nm VB _ by left) 1) (va (show Nm VB _ by left) 0) (λ_ _=>rfl)) (@dX _ _ _ _ _ _ _ _ _ _ (EK K rfl) (va (show Nm VB _ by left) 1) eY (dj (va (show Nm VB _ by left) 0))) (by with_unfolding_all rfl)))) (λ_ _ _ _=>(iI (vS K rfl) (va (show Nm VB _ by left) 1) (va (show Nm VB _ by left) 0) (λ_ _=>rfl))) (ga b7.nd cE 7) (by kernel_rfl) (by intro _;rfl)) (Zd (Zb (Zh pJ (Z2 aJ m Nl (Zc (va aV 7))) aC (bI _)) (Zd (Zu (Zt (Z1 aG (Z1 (Z8 bx (va aV 7)) aA)))))))))) (b9 (cG gv)))))))),?_]
 right
 right
 have G:=rs.length;rw[OD,<-hl,Ra]at G;have gt:=fh sc.sd (lU S);have gk:=fh sc.sd (nF S);have(tv,ht,pt):=sc.ht;ext
 cases ea:g with
 |nil =>
  subst ea;obtain rfl:R=[]:=P6.mp G;ext p Y;exact k _ _ (ae Y _) #[p,rfl,af]
 |cons M ar =>
  have hz:0<R.length:=by rw[G,ea];exact Nat.succ_pos _
  have e0:gx u g=match g.find? (λb=>decide ((jJ u b.1).isSome=false))with
    |some b=>some (.nn,b.1)
    |none=>if(g.map (·.1)).isPerm ((((jJ u M.1).bind λy=>Aa u y.2.1).map λk=>k.2.map (·.1)).getD [])=true then g.findSome? (jz u)else some (.wr,"match"):=by subst ea;rfl
  have h0:g[0]?=some M:=by rw[ea];rfl
  clear ea
  have nz:¬decide (V.int (R.length:Int)=V.int 0)=true:=λz=>by
   have z':=V.int.inj (of_decide_eq_true z);have:(R.length:Int)=0:=z';omega
  refine bW (λc=>absurd c nz) (λc=>?_);have ao:∀t H',aT H H'->cu H' S.dt (.str t) (cV tv (Sum.inr t)):=λt H' s'=>cu.k (k:=Sum.inr t) (s' _ _ ht)
  have vT:∀t,(cV tv (Sum.inr t)).isSome=(jJ u t).isSome:=λt=>by
   rw[wD pt,jN,<-oW];unfold jJ
   by_cases c:t∈(tl u).map (·.1)
   .rw[decide_eq_true c];have(x,hx,e):=NI.mp c
    cases q:(tl u).find? λx=>decide (x.1=t)with
    |some y=>rfl
    |none =>
     have:=PF.mp q x hx;simp[e]at this
   .rw[decide_eq_false c]
    cases q:(tl u).find? λx=>decide (x.1=t)with
    |none=>rfl
    |some y =>
     have h1:y.1=t:=by simpa using List.find?_some q
     exact absurd (by rw[<-h1];exact NY (PJ q)) c
  ext;refine eX (K:=K) (xs:=R) (λi o X=>(∃y2 y3 y4 y5 y6 y7,o=[some (.ref S.d),some (.ref b),y2,y3,y4,y5,y6,y7])/\X=H/\g.find? (λb=>decide ((jJ u b.1).isSome=false))=(g.drop i).find? (λb=>decide ((jJ u b.1).isSome=false))) #[#[_,_,_,_,_,_,rfl],rfl,rfl] ?_ ?_ ?_
  .rintro i o X hi ⟨_,rfl,_⟩;exact sq
  .rintro i xv o X hxv ⟨⟨_,_,_,_,_,_,rfl⟩,rfl,W⟩;have(t,D,rx):=rs.get' hxv;have(x,kk,hx,rfl):=jO D;have(qa,v1,v2,v3,rfl,a8,q1,q2,q3):=rx.t3;obtain rfl:=q1.aM;rw[ve hx]at W;have dg:=ao x.1 X (aT.refl _);have vx:=vT x.1
   cases et:jJ u x.1 with
   |none =>
    rw[et]at vx W;have e3:g.find? (λb=>decide ((jJ u b.1).isSome=false))=some x:=W;rw[e3]at e0;ext;refine bW (λc=>?_) (λc=>absurd (by rw[vx];rfl) c);ext p Y;exact k _ _ (ae Y _) (by rw[e0];exact#[p,rfl,af])
   |some y =>
    rw[et]at vx W;ext;refine bW (λc=>?_) (λc=>?_)
    .rw[vx]at c;cases c
    ext;exact W
  rintro o X ⟨⟨_,_,_,_,_,_,rfl⟩,rfl,W⟩;rw[G,NL]at W;rw[W]at e0
  obtain⟨y,hy⟩:∃y,jJ u M.1=some y:=by
   have Z:=PF.mp W M (Nf h0)
   cases et:jJ u M.1 with
   |some y=>exact#[y,rfl]
   |none=>rw[et]at Z;simp at Z
  have a6:∀x∈g,∃y,jJ u x.1=some y:=λx hx=>by
   have Z:=PF.mp W x hx
   cases et:jJ u x.1 with
   |some y=>exact#[y,rfl]
   |none=>rw[et]at Z;simp at Z
  have(kd,a3,a2,_):=GV hy;have(lk,vk,aa):=C7 sc.ke a3;have(tq,vq,be):=zm (z:=(y.1,y.2.1,y.2.2.length)) pt (by rw[qk,hy];rfl);rw[hy]at e0
  have B:gx u g=if(g.map (·.1)).isPerm (kd.2.map (·.1))=true then g.findSome? (jz u)else some (.wr,"match"):=by
   rw[e0];show(if(g.map (·.1)).isPerm (((Aa u y.2.1).map λk=>k.2.map (·.1)).getD [])=true then _ else _)=_;rw[a3];rfl
  have bu:cu X S.dk (.str y.2.1) (some (.ref lk)):=by
   have:=cu.k (k:=Sum.inr y.2.1) sc.hk;rw[vk]at this;exact this
  have bw:cu X S.dt (.str M.1) (some (.ref tq)):=by have:=ao M.1 X (aT.refl _);rw[vq]at this;exact this
  have bo:cP K X tq [.str y.2.1,.int y.2.2.length]:=cP.of be;obtain⟨u0,ax⟩:∃u0,R[0]?=some u0:=#[R[0],by simp[hz]];have(t,D,rx):=rs.get' ax;have(x,kk,hx,rfl):=jO D;obtain rfl:M=x:=Nk (h0.symm.trans hx);have(qa,v1,v2,v3,rfl,a8,q1,q2,q3):=rx.t3;obtain rfl:=q1.aM;have b2:eK R 0=some (.ref qa):=aH (j:=0) ax;have b1:eK [V.str M.1,v2,v3] 0=some (.str M.1):=aH (j:=0) rfl;have b0:eK [V.str y.2.1,.int y.2.2.length] 0=some (.str y.2.1):=aH (j:=0) rfl;ext;refine gb (K:=K) (xs:=R) (λj o v H3=>(∃y1 y2 y3,o=[y1,y2,y3])/\H3=X/\v=(g.take j).map λx=>V.str x.1) #[#[_,_,_,rfl],rfl,rfl] ?_ (small ()) ?_ ?_ ?_
  .rintro j o v H3 hj ⟨_,_,rfl⟩;rw[bM,I0];omega
  .rintro j o v H3 hj ⟨_,rfl,_⟩;exact sq
  .rintro j yv o v H3 hyv ⟨⟨_,_,_,rfl⟩,rfl,rfl⟩;have(t,D,ry):=rs.get' hyv;have(x,kj,L,rfl):=jO D;have al:=(bH.mp L).1;have am:g.take (j+1)=g.take j++[x]:=by rw[mu al,(bH.mp L).2]
   have(ga,w1,w2,w3,rfl,a4,p1,p2,p3):=ry.t3;obtain rfl:=p1.aM;ext;rw[am,i5];rfl
  rintro o v H3 ⟨_,rfl,rfl⟩ l3 hl3;rw[G,Nr];have bi:(g.map λx=>V.str x.1)=(g.map (·.1)).map V.str:=by rw[Oa];rfl
  rw[bi];have s4:=ae hl3 (.lst ((g.map (·.1)).map V.str));have h4:bQ K (upd H3 l3 (.lst ((g.map (·.1)).map V.str))) l3 ((g.map (·.1)).map V.str):=bQ.of af;generalize upd H3 l3 (.lst ((g.map (·.1)).map V.str))=H4 at s4 h4|-;generalize htold:g.map (·.1)=told at h4 B;have bh:(kd.2.map λt=>V.str t.1)=(kd.2.map (·.1)).map V.str:=by rw[Oa];rfl
  rw[bh]at aa;have a1:=C8 bg a2;have bc:(kd.2.map (·.1)).length<=10:=by rw[bM];exact(hB.2 kd a2).1
  generalize htag:kd.2.map (·.1)=tags at aa a1 B bc;have ab:bQ K H4 lk (tags.map V.str):=bQ.of (s4 _ _ aa);have pp:=Bs (told:=told) a1;ext
  have C:¬told.isPerm tags=true->∀J,aT H3 J->∀p,J p=none->Q (.ref p) (upd J p (.lst [.str "wrong",.str "match"])):=λz J s5 p Y=>by
   rw[if_neg z]at B;exact k _ _ (s5.trans (ae Y _)) (by rw[B];exact#[p,rfl,af])
  refine bW (λc=>?_) (λc=>?_)
  .have z:¬told.isPerm tags=true:=λz=>by
    have e:=(pp.mp z).1;rw[bM,bM,e,decide_eq_true rfl]at c
    cases c
   have wr:=C z H4 s4;ext;exact wr
  have a5:told.length=tags.length:=by
   by_cases z:told.length=tags.length
   .exact z
   .refine absurd ?_ c;rw[bM,bM,decide_eq_false (λq=>z (by have q':=V.int.inj q;exact_mod_cast q'))];rfl
  have flt:=iM told;ext;refine kU (K:=K) (xs:=tags.map V.str) (λj o v J=>(∃y1,o=[y1,some (.ref l3)])/\J=H4/\v=(tags.take j).map λt=>V.bl (decide (t∈told))) #[#[_,rfl],rfl,rfl] ?_ (small (by rw[bM];omega)) ?_ ?_ ?_
  .rintro j o v J hj ⟨_,_,rfl⟩;rw[bM,I0];omega
  .rintro j o v J hj ⟨_,rfl,_⟩;exact ab
  .rintro j yv o v J hyv ⟨⟨_,rfl⟩,rfl,rfl⟩;rw[xn]at hyv;have(t,az,rfl):=we.mp hyv;have al:=(bH.mp az).1;have am:tags.take (j+1)=tags.take j++[t]:=by rw[mu al,(bH.mp az).2]
   have iv:=jZ (x:=t) (xs:=told);ext;rw[am,i5,iv];rfl
  rintro o v J ⟨_,rfl,rfl⟩ l6 hl6;rw[bM,Nr];have bj:(tags.map λt=>V.bl (decide (t∈told)))=(tags.map λt=>decide (t∈told)).map V.bl:=by rw[Oa];rfl
  rw[bj];have s6:=ae hl6 (.lst ((tags.map λt=>decide (t∈told)).map V.bl));have h6:bQ K (upd J l6 (.lst ((tags.map λt=>decide (t∈told)).map V.bl))) l6 ((tags.map λt=>decide (t∈told)).map V.bl):=bQ.of af;generalize upd J l6 (.lst ((tags.map λt=>decide (t∈told)).map V.bl))=H6 at s6 h6|-;have ag:=s4.trans s6
  have ac:((tags.map λt=>decide (t∈told)).all id)=decide (∀t∈tags,t∈told):=by
   rw[List.all_map]
   by_cases z:∀t∈tags,t∈told
   .rw[decide_eq_true z,NS];intro t ht;exact decide_eq_true (z t ht)
   .rw[decide_eq_false z,<-Bool.not_eq_true,NS];exact λq=>z λt ht=>of_decide_eq_true (q t ht)
  ext;rw[ac];refine bW (λc=>?_) (λc=>?_)
  .have z:¬told.isPerm tags=true:=λz=>by
    rw[decide_eq_true (pp.mp z).2]at c
    cases c
   have wr:=C z H6 ag;ext;exact wr
  have np:told.isPerm tags=true:=pp.mpr #[a5,by
   by_cases z:∀t∈tags,t∈told
   .exact z
   .exact absurd (by rw[decide_eq_false z];rfl) c]
  rw[if_pos np]at B;have bp:=sq.same ag;clear ac h6 h4 ab aa C pp;ext;refine eX (K:=K) (xs:=R) (λi o N=>(∃y2 y3 y4 y5 y6 y7,o=[some (.ref S.d),some (.ref b),y2,y3,y4,y5,y6,y7])/\aT H3 N/\g.findSome? (jz u)=(g.drop i).findSome? (jz u)) #[#[_,_,_,_,_,_,rfl],ag,rfl] ?_ ?_ ?_
  .rintro i o N hi ⟨_,I,_⟩;exact sq.same I
  .rintro i xv o N hxv ⟨⟨_,_,_,_,_,_,rfl⟩,I,U⟩;have(t,D,ry):=rs.get' hxv;have(x,kj,ai,rfl):=jO D;have(ga,w1,w2,w3,rfl,a4,p1,p2,p3):=ry.t3;obtain rfl:=p1.aM;have(na,br,rfl,ba,bb):=p2.aS;obtain rfl:=bb.kW;rw[tV ai]at U;have bn:=a4.same I;have av:=ba.same I;have bt:=fh (I _ _ sc.sd) (lU S);have bs:=ln x (Nf ai);have(O,ah):=a6 x (Nf ai);have(ap,a7,ay):=zm (z:=(O.1,O.2.1,O.2.2.length)) pt (by rw[qk,ah];rfl);have bv:cu N S.dt (.str x.1) (some (.ref ap)):=by have:=ao x.1 N I;rw[a7]at this;exact this
   have bk:cP K N ap [.str O.2.1,.int O.2.2.length]:=cP.of (I _ _ ay);have bz:eK [V.str O.2.1,.int O.2.2.length] 1=some (.int O.2.2.length):=aH (j:=1) rfl;ext;refine bW (λc=>?_) (λc=>?_)
   .have ef:jz u x=some (.wr,x.1):=by
     unfold jz;rw[ah];dsimp only;rw[if_neg (λq=>by rw[bM,q,decide_eq_true rfl]at c;cases c)]
    rw[ef]at U;rw[U]at B;ext p Y;exact k _ _ (I.trans (ae Y _)) (by rw[B];exact#[p,rfl,af])
   have ex:x.2.length=O.2.2.length:=by
    by_cases z:x.2.length=O.2.2.length
    .exact z
    .refine absurd ?_ c;rw[bM,decide_eq_false (λq=>z (by have q':=V.int.inj q;exact_mod_cast q'))];rfl
   have ef:jz u x=(cH [] x.2).map λz=>(.tw,z):=by
    unfold jz;rw[ah];dsimp only;rw[if_pos ex]
   have aw:(x.2.map V.str).length=x.2.length:=bM _;have en:(((x.2.map V.str).length:Nat):Int).toNat=x.2.length:=by rw[aw];exact OP _
   ext;rw[en];refine lJ (n:=x.2.length) (λj o v H8=>(∃y1,o=[y1,some (.ref na)])/\LL N x.2 j v H8) #[#[_,rfl],aT.refl _,lj _,.inl #[rfl,rfl]] ?_ (small ()) ?_ ?_
   .rintro j o v H8 hj ⟨_,T⟩;exact T.l
   .rintro j o v H8 hj ⟨⟨_,rfl⟩,T⟩;have s8:=T.s;have as:=av.same s8;have L:x.2[j]?=some x.2[j]:=by simp[hj]
    have aj:eK (x.2.map V.str) (j:Int)=some (.str x.2[j]):=aH (by rw[xn,L];rfl);have b3:eK (x.2.map V.str) ((0:Int)+(j:Int))=some (.str x.2[j]):=by rw[Rc];exact aj
    have ec:ju (x.2.map V.str) none (some ((0:Int)+(j:Int)))=(x.2.take j).map V.str:=by rw[Rc,iL,Po]
    have nw:¬(HT.ir (x.2.map V.str).length 0 none=0/\HT.ir (x.2.map V.str).length (x.2.map V.str).length (some ((0:Int)+(j:Int)))=(x.2.map V.str).length):=λz=>by
     have:=z.2;rw[Rc,HT.j9,aw]at this;omega
    have fl:=iM (x.2.take j);have iv:=jZ (x:=x.2[j]) (xs:=x.2.take j);have ds:=xN L;ext p9 bf;rw[ec];have s9:=ae bf (.tup ((x.2.take j).map V.str));have h9:cP K (upd H8 p9 (.tup ((x.2.take j).map V.str))) p9 ((x.2.take j).map V.str):=cP.of af;generalize upd H8 p9 (.tup ((x.2.take j).map V.str))=H9 at s9 h9|-;have bm:=as.same s9;ext;refine bW (λc=>?_) (λc=>?_)
    .have Z:x.2[j]∈x.2.take j:=by
      have c':nR (.str x.2[j]) ((x.2.take j).map V.str)=true:=c;rw[iv]at c';exact of_decide_eq_true c'
     rw[if_pos Z]at ds
     have fin:LL N x.2 (j+1) (v++[.str x.2[j]]) H9:=by
      refine#[s8.trans s9,by rw[i4];exact Pw T.l,.inr ?_];rcases T.e with⟨rfl,e⟩|⟨z,r,rfl,e⟩
      .exact#[_,[],rfl,by rw[e];exact ds]
      .exact#[z,_,rfl,e]
     ext;exact fin
    .have Z:x.2[j]∉x.2.take j:=λz=>c (by show nR (.str x.2[j]) ((x.2.take j).map V.str)=true;rw[iv];exact decide_eq_true z);rw[if_neg Z]at ds
     have fin:LL N x.2 (j+1) v H9:=by
      refine#[s8.trans s9,Nat.le_succ_of_le T.l,?_];rcases T.e with⟨rfl,e⟩|h
      .exact .inl #[rfl,by rw[e];exact ds]
      .exact .inr h
     ext;exact fin
   .rintro o v H8 ⟨_,T⟩ l8 hl8;have s9:=ae hl8 (.lst v);have h9:bQ K (upd H8 l8 (.lst v)) l8 v:=bQ.of af;generalize upd H8 l8 (.lst v)=H9 at s9 h9|-;have aq:=T.s.trans s9;rcases T.e with⟨rfl,e⟩|⟨z,r,rfl,e⟩
    .rw[NL]at e;have e':cH [] x.2=none:=e;rw[e']at ef;have an:jz u x=none:=ef;rw[an]at U;ext
     .exact I.trans aq
     .exact U
    .rw[e]at ef;have an:jz u x=some (.tw,z):=ef;rw[an]at U;rw[U]at B;have a9:decide ((0:Int)<(((V.str z::r).length:Nat):Int))=true:=decide_eq_true (by rw[Nv];omega);have M:eK (V.str z::r) 0=some (.str z):=aH (j:=0) rfl;ext;refine bW (λ_=>?_) (λc=>absurd a9 c);ext p Y;exact k _ _ ((I.trans aq).trans (ae Y _)) (by rw[B];exact#[p,rfl,af])
  .rintro o N ⟨_,I,U⟩;rw[G,NL]at U;rw[U]at B;have fin:=k .eN N I (by rw[B];rfl);ext;exact fin
def tW(h:Hd):Prop:=∀d,h=.mat d->d.length<=20/\∀x∈d,x.2.length<=20
def Ah(K:bN)(C y z cW:Addr):Sp:=λu H Q E=>∃(m:Hp) (v q:V) (o:Addr) (a:qh) (d:Kl) (l:List (Str×Nat)) (j r:List Int) (h:Hd) (ks:List Tm) (g:List Str),u=[v,q,.ref o]/\Rp K H (enc (.mk h ks)) v/\fc h ks.length=true/\tW h/\ks.length<=900/\Rp K H (.t (g.map .s)) q/\g.length<=900 /\
 hU C m o a d l j r H/\wV d/\(jc d).Nodup/\j.length<=900/\(∀f,eO d l j g h ks.length=.error f->TF y z cW E m f)/\(∀e,eO d l j g h ks.length=.ok e->∀p,hU C m o a d l e r p->j4 a H p->Q .eN p)
theorem bg :Nm V0 (ak jx):=by decide
theorem wG :Lm V0 (ak jx):=by decide
theorem ql :aZ V0 Wa (ak jx):=by ac_rfl
theorem Dc (F:jq K "look_term" "look_term" jx f fd)(N:Jr K C)(LO:oh P w K mg base "look_once" 3 We (qK K cT) gO ofd)(J:oh P w K mg base "look_count" 3 VJ (wF K cN cW) gC cfd)(Y:oh P w K mg base "look_arms" 4 ["arms","known"] (Ae K C cT cN cW) gA afd)(X:oh P w K mg base "look_gap" 3 V6 (CO cT) gG gfd)(p:BV P w K mg base "NoName" "name" cN fN dN):cA P w K mg base (xP P w) 5 f fd Wa (Ah K C cT cN cW):=by
 refine F.E7 ql (λvs H Q E h=>?_) (λcdv A outer s H vs Q E hr h=>?_)
 .have(_,_,_,_,_,_,_,_,_,_,_,_,rfl,_):=h;rfl
 have(H0,v,vn,o,a,R,ds,B,os,hd,ks,ns,rfl,r,ar,am,lk,rn,ln,u,hB,av,lg,hE,k):=h;refine#[_,(Z5 (Z4 ql.nd wG 3 (Z8 aP (va bg 0))) (Z5 (Zb (PW.pt (@gz _ _ _ _ _ _ _ (Zo bV (va bg 3) aG) (@fz _ _ _ _ (Zh lH (Z8 aP (va bg 0)) (va bg 1) (by with_unfolding_all rfl))))) (Zd (@gX _ _ _ _ _ rfl (@i9 _ _ _ _ _ _ _ _ _ _ _ _ _ _ _ _ _ p.k p.ok (hr.mono ()) (by left) p.m p.bd .nil kQ (Z1 (Z8 aP (va bg 0)) aA) (by decide) (by rfl) (by rfl))))) (Z5 (Zb (Zo bV (va bg 3) aG) (Zd (Zn (@eJ _ _ _ _ _ _ _ _ _ _ _ _ _ _ _ _ J.ok (hr.mono ()) (by left) J.at' J.kp J.bd .nil jy (Z1 (Z8 aP (va bg 0)) (Z1 (Z8 aP (va bg 0)) (Z1 (jU (va bg 2) rfl) aA))) (by decide) (by rfl) (by rfl))))) (Z5 (Zb (Zo bV (va bg 3) aG) (Zd (Zn (@eJ _ _ _ _ _ _ _ _ _ _ _ _ _ _ _ _ J.ok (hr.mono ()) (by left) J.at' J.kp J.bd .nil jy (Z1 (Z8 aP (va bg 0)) (Z1 (Z8 aP (va bg 0)) (Z1 (jU (va bg 2) rfl) aA))) (by decide) (by rfl) (by rfl))))) (Z5 (Zb (Zo bV (va bg 3) aG) (Zd (Zn (@eJ _ _ _ _ _ _ _ _ _ _ _ _ _ _ _ _ Y.ok (hr.mono ()) (by left) Y.at' Y.kp Y.bd .nil jy (Z1 (Z8 aP (va bg 0)) (Zc (va bg 2))) (by decide) (by rfl) (by rfl))))) (Z5 (Zb (Zo bV (va bg 3) aG) (Zd (Zn (@eJ _ _ _ _ _ _ _ _ _ _ _ _ _ _ _ _ LO.ok (hr.mono ()) (by left) LO.at' LO.kp LO.bd .nil jy (Z1 (Zl (Z1 (Z8 aP (va bg 0)) (Z1 (Z8 aP (va bg 0)) aA))) aA) (by decide) (by rfl) (by rfl))))) (Zd (Zb (Zo bV (va bg 3) aG) (Zd (Zn (@eJ _ _ _ _ _ _ _ _ _ _ _ _ _ _ _ _ X.ok (hr.mono ()) (by left) X.at' X.kp X.bd .nil jy (Z1 (Z8 aP (va bg 0)) (Z1 (jU (va bg 2) rfl) aA)) (by decide) (by rfl) (by rfl)))))))))))),?_]
 right
 try dsimp only[qc,qd]
 have hc:=N.c;have n3:=N.mtag;have n4:=N.mdef;have n5:=N.gaps;have g3:=vc a;have g4:=yb a;have g5:=Bl a;have aw:=u.ins;have(na,ap,rfl,aq,ah):=rn.aS;obtain rfl:=ah.kW;have fl:=iM ns;rw[cY]at r
 cases hd with
 |num n =>
  have(M,D,rfl,g,e):=(show Rp K H (.t (.s "num"::[.i n])) v from r).aS;have(L,G,rfl,l,_):=e.inv;obtain rfl:=l.aM;have W:eK (V.str "num"::G) 0=some (.str "num"):=aH (j:=0) rfl;have fin:=k B rfl H u (j4.refl _ _);ext;exact fin
 |name x =>
  have(M,L,Z,rfl,g,l,U):=(show Rp K H (.t [.s "name",.s x]) v from r).t2;obtain rfl:=l.aM;obtain rfl:=U.aM;have iv:=jZ (x:=x) (xs:=ns);ext;refine bW (λc=>?_) (λc=>?_)
  .have hm:x∉ns:=λz=>by
    have ag:(!nR (.str x) (ns.map V.str))=true:=c;rw[iv,decide_eq_true z]at ag
    cases ag
   have tt:=(hE (.nn,x) (if_neg hm)).same u.sm;ext;exact gc p.c tt
  .have hm:x∈ns:=by
    by_cases z:x∈ns
    .exact z
    .refine absurd ?_ c;show(!nR (.str x) (ns.map V.str))=true;rw[iv,decide_eq_false z];rfl
   have fin:=k B (if_pos hm) H u (j4.refl _ _);ext;exact fin
 |gap n =>
  have(M,L,Z,rfl,g,l,U):=(show Rp K H (.t [.s "gap",.i n]) v from r).t2;obtain rfl:=l.aM;obtain rfl:=U.jH;have gg:=u.gg;have tw:n∈B->Told E H cT "name" (.str "?"):=λhm=>(hE (.tw,"?") (if_pos hm)).same u.sm;ext hm;exact k (B++[n]) (if_neg hm) _ (u.setG _) ((j4.refl a H).setG _)
 |op z =>
  have(M,D,rfl,g,e):=(show Rp K H (.t (.s "op"::.s z::ks.map enc)) v from r).aS;have(L,G,rfl,l,_):=e.inv;obtain rfl:=l.aM;have W:eK (V.str "op"::G) 0=some (.str "op"):=aH (j:=0) rfl;have fin:=k B rfl H u (j4.refl _ _);ext;exact fin
 |row =>
  have(M,D,rfl,g,e):=(show Rp K H (.t (.s "row"::[.t (ks.map enc)])) v from r).aS;have(L,G,rfl,l,_):=e.inv;obtain rfl:=l.aM;have W:eK (V.str "row"::G) 0=some (.str "row"):=aH (j:=0) rfl;have fin:=k B rfl H u (j4.refl _ _);ext;exact fin
 |more =>
  have(M,D,rfl,g,e):=(show Rp K H (.t (.s "more"::ks.map enc)) v from r).aS;have(L,G,rfl,l,_):=e.inv;obtain rfl:=l.aM;have W:eK (V.str "more"::G) 0=some (.str "more"):=aH (j:=0) rfl;have fin:=k B rfl H u (j4.refl _ _);ext;exact fin
 |first =>
  have(M,D,rfl,g,e):=(show Rp K H (.t (.s "first"::ks.map enc)) v from r).aS;have(L,G,rfl,l,_):=e.inv;obtain rfl:=l.aM;have W:eK (V.str "first"::G) 0=some (.str "first"):=aH (j:=0) rfl;have fin:=k B rfl H u (j4.refl _ _);ext;exact fin
 |others =>
  have(M,D,rfl,g,e):=(show Rp K H (.t (.s "others"::ks.map enc)) v from r).aS;have(L,G,rfl,l,_):=e.inv;obtain rfl:=l.aM;have W:eK (V.str "others"::G) 0=some (.str "others"):=aH (j:=0) rfl;have fin:=k B rfl H u (j4.refl _ _);ext;exact fin
 |long =>
  have(M,D,rfl,g,e):=(show Rp K H (.t (.s "long"::ks.map enc)) v from r).aS;have(L,G,rfl,l,_):=e.inv;obtain rfl:=l.aM;have W:eK (V.str "long"::G) 0=some (.str "long"):=aH (j:=0) rfl;have fin:=k B rfl H u (j4.refl _ _);ext;exact fin
 |tag t =>
  have(M,L,Z,w3,rfl,g,l,U,p3):=(show Rp K H (.t [.s "tag",.s t,.t (ks.map enc)]) v from r).t3;obtain rfl:=l.aM;obtain rfl:=U.aM;have(ua,O,rfl,ab,T):=p3.aS;have lu:=T.length;rw[bM]at lu
  have dg:cu H a.dM (.str t) (((jJ R t).map λ(y:Str×Str×List Kk)=>y.2.2.length).map λ(n:Nat)=>V.int (n:Int)):=by
   have:=cu.k (k:=Sum.inr t) u.km;rw[qi (λx:Str×Str×List Kk=>x.1) (λ(y:Str×Str×List Kk)=>V.int (y.2.2.length:Nat))]at this;rw[TL];exact this
  have al:(jJ R t).map (λ(y:Str×Str×List Kk)=>y.2.2.length)=none->Told E H cN "name" (.str t):=λz=>by
   refine(hE (.nn,t) ?_).same u.sm;have z':=Qc.mp z
   show(match jJ R t with
    |none=>Except.error (Er.nn,t)
    |some y=>if ks.length=y.2.2.length then Except.ok B else .error (.wr,t))=_
   rw[z']
  have ak:∀n,(jJ R t).map (λ(y:Str×Str×List Kk)=>y.2.2.length)=some n->O.length≠n->Told E H cW "name" (.str t):=λn z S=>by
   have(y,hy,rfl):=we.mp z;refine(hE (.wr,t) ?_).same u.sm
   show(match jJ R t with
    |none=>Except.error (Er.nn,t)
    |some y=>if ks.length=y.2.2.length then Except.ok B else .error (.wr,t))=_
   rw[hy];exact if_neg (λq=>S (by rw[lu];exact q))
  have fin:∀n,(jJ R t).map (λ(y:Str×Str×List Kk)=>y.2.2.length)=some n->O.length=n->Q .eN H:=λn z S=>by
   have(y,hy,rfl):=we.mp z;refine k B ?_ H u (j4.refl _ _)
   show(match jJ R t with
    |none=>Except.error (Er.nn,t)
    |some y=>if ks.length=y.2.2.length then Except.ok B else .error (.wr,t))=_
   rw[hy];exact if_pos (by rw[<-lu];exact S)
  ext n z S;have I:=fin n z S;ext;exact I
 |call t =>
  have(M,L,Z,w3,rfl,g,l,U,p3):=(show Rp K H (.t [.s "call",.s t,.t (ks.map enc)]) v from r).t3;obtain rfl:=l.aM;obtain rfl:=U.aM;have(ua,O,rfl,ab,T):=p3.aS;have lu:=T.length;rw[bM]at lu
  have dg:cu H a.dD (.str t) (((ds.find? (λd=>decide (d.1=t))).map λ(y:Str×Nat)=>y.2).map λ(n:Nat)=>V.int (n:Int)):=by
   have:=cu.k (k:=Sum.inr t) u.dd;rw[qi (λx:Str×Nat=>x.1) (λ(y:Str×Nat)=>V.int (y.2:Nat))]at this;rw[TL];exact this
  have al:(ds.find? (λd=>decide (d.1=t))).map (λ(y:Str×Nat)=>y.2)=none->Told E H cN "name" (.str t):=λz=>by
   refine(hE (.nn,t) ?_).same u.sm;have z':=Qc.mp z
   show(match ds.find? (λd=>decide (d.1=t))with
    |none=>Except.error (Er.nn,t)
    |some y=>if ks.length=y.2 then Except.ok B else .error (.wr,t))=_
   rw[z']
  have ak:∀n,(ds.find? (λd=>decide (d.1=t))).map (λ(y:Str×Nat)=>y.2)=some n->O.length≠n->Told E H cW "name" (.str t):=λn z S=>by
   have(y,hy,rfl):=we.mp z;refine(hE (.wr,t) ?_).same u.sm
   show(match ds.find? (λd=>decide (d.1=t))with
    |none=>Except.error (Er.nn,t)
    |some y=>if ks.length=y.2 then Except.ok B else .error (.wr,t))=_
   rw[hy];exact if_neg (λq=>S (by rw[lu];exact q))
  have fin:∀n,(ds.find? (λd=>decide (d.1=t))).map (λ(y:Str×Nat)=>y.2)=some n->O.length=n->Q .eN H:=λn z S=>by
   have(y,hy,rfl):=we.mp z;refine k B ?_ H u (j4.refl _ _)
   show(match ds.find? (λd=>decide (d.1=t))with
    |none=>Except.error (Er.nn,t)
    |some y=>if ks.length=y.2 then Except.ok B else .error (.wr,t))=_
   rw[hy];exact if_pos (by rw[<-lu];exact S)
  ext n z S;have I:=fin n z S;ext;exact I
 |mat arms =>
  obtain⟨k0,kr,rfl⟩:∃k0 kr,ks=k0::kr:=by
   cases ks with
   |nil=>simp[fc]at ar
   |cons x y=>exact#[x,y,rfl]
  have as:arms.length=(kr.map enc).length:=by
   rw[bM];have:(k0::kr).length=arms.length+1:=by simpa[fc]using ar
   rw[Nv]at this;omega
  have(M,L,Z,w3,rfl,g,l,U,p3):=(show Rp K H (.t [.s "match",enc k0,.t (Oj oS arms (kr.map enc))]) v from r).t3;obtain rfl:=l.aM;have(ua,O,rfl,ab,T):=p3.aS;have(la,lx):=am arms rfl
  have aE:∀f,gx R arms=some f->TF cT cN cW E H0 f:=λf hf=>hE f (by
   show(match gx R arms with
    |some f=>Except.error f
    |none=>Except.ok B)=_
   rw[hf])
  have fin:gx R arms=none->∀H',aT H H'->Q .eN H':=λhf H' s'=>k B (by
   show(match gx R arms with
    |some f=>Except.error f
    |none=>Except.ok B)=_
   rw[hf]) H' (u.ext s') (j4.of s')
  ext hf H2 s2;have I:=fin hf H2 s2;have ao:=g.same s2;ext;exact I
 |ife =>
  have(M,D,rfl,g,e):=(show Rp K H (.t (.s "if"::ks.map enc)) v from r).aS;have(L,G,rfl,l,_):=e.inv;obtain rfl:=l.aM;have W:eK (V.str "if"::G) 0=some (.str "if"):=aH (j:=0) rfl;have fin:=k B rfl H u (j4.refl _ _);ext;exact fin
 |lt z =>
  have(M,D,rfl,g,e):=(show Rp K H (.t (.s "let"::.s z::ks.map enc)) v from r).aS;have(L,G,rfl,l,_):=e.inv;obtain rfl:=l.aM;have W:eK (V.str "let"::G) 0=some (.str "let"):=aH (j:=0) rfl;have fin:=k B rfl H u (j4.refl _ _);ext;exact fin
 |fold x y =>
  have(M,D,rfl,g,e):=(show Rp K H (.t [.s "fold",(ks.map enc).getD 0 .n,.s x,.s y,(ks.map enc).getD 1 .n,(ks.map enc).getD 2 .n]) v from r).aS;have(L,q1,rfl,l,t1):=e.inv;have(Z,q2,rfl,U,t2):=t1.inv;have(w3,q3,rfl,p3,t3):=t2.inv;have(w4,q4,rfl,p4,t4):=t3.inv;obtain rfl:=l.aM;obtain rfl:=p3.aM;obtain rfl:=p4.aM;have W:eK (V.str "fold"::Z::.str x::.str y::q4) 0=some (.str "fold"):=aH (j:=0) rfl;have a2:eK (V.str "fold"::Z::.str x::.str y::q4) 2=some (.str x):=aH (j:=2) rfl;have a3:eK (V.str "fold"::Z::.str x::.str y::q4) 3=some (.str y):=aH (j:=3) rfl
  have ac:cH [] [x,y]=if y=x then some y else none:=by
   show(if x∈([]:List Str)then _ else if y∈([x]:List Str)then some y else none)=_;rw[if_neg NB]
   by_cases c:y=x
   .rw[if_pos c,if_pos (by rw[c];exact List.mem_singleton_self x)]
   .rw[if_neg c,if_neg (λz=>c (EF.mp z))]
  ext p5 aj;have s5:=ae aj (.tup [.str x,.str y]);have h5:nT K true (upd H p5 (.tup [.str x,.str y])) p5 (([x,y]:List Str).map V.str):=cP.of af;generalize upd H p5 (.tup [.str x,.str y])=H5 at s5 h5|-;have l5:([x,y]:List Str).length<=500:=by show 2<=500;omega
  have oE:∀z,cH [] [x,y]=some z->Told E H5 cT "name" (.str z):=λz hz=>by
   rw[ac]at hz
   by_cases c:y=x
   .rw[if_pos c]at hz
    cases hz
    refine(hE (.tw,y) ?_).same (u.sm.trans s5);show(if x=y then Except.error (Er.tw,x)else _)=_;rw[if_pos c.symm,c]
   .rw[if_neg c]at hz;cases hz
  ext ad H6 s6;have ai:¬x=y:=λc=>by rw[ac,if_pos c.symm]at ad;cases ad
  have aa:=s5.trans s6;have an:=g.same aa;have fin:=k B (if_neg ai) H6 (u.ext aa) (j4.of aa);ext;exact fin
theorem wH :∀{l:List (Str×Nat)}{kvs:List (Key×V)},Paired (K7 H) l kvs->(cV kvs (Sum.inr x)).isSome=decide (x∈l.map (·.1))
 |_,_,.nil=>rfl
 |k::r,_,.cons ⟨l,e,_⟩ t=>by
  subst e
  by_cases h:k.1=x
  .rw[fJ (show(Sum.inr k.1:Key)=Sum.inr x by rw[h]),Ny,decide_eq_true (by rw[h];exact OL)];rfl
  .rw[fK (λz=>h (Ow z)),wH t,Ny];have:(x∈k.1::r.map (·.1))↔x∈r.map (·.1):=by rw[Nc];exact or_iff_right (λz=>h z.symm)
   exact(decide_eq_decide.mpr this).symm
theorem Dd :∀{l:List (Str×Nat)}{kvs:List (Key×V)},Paired (K7 H) l kvs->(l.find? (λx=>decide (x.1=t))=none/\cV kvs (Sum.inr t)=none)\/∃z q,l.find? (λx=>decide (x.1=t))=some z/\cV kvs (Sum.inr t)=some (.ref q)/\H q=some (.tup [.str z.1,.int z.2])
 |_,_,.nil=>.inl #[rfl,rfl]
 |k::r,_,.cons ⟨l,e,hl⟩ p=>by
  subst e;rw[Oe]
  by_cases c:k.1=t
  .rw[decide_eq_true c];exact .inr #[k,l,rfl,fJ (show(Sum.inr k.1:Key)=Sum.inr t by rw[c]),hl]
  .rw[decide_eq_false c,fK (λz=>c (Ow z))];exact Dd p
theorem Ai :∀{l:List (Str×Str×Nat)}{kvs:List (Key×V)},Paired (IA H) l kvs->(l.find? (λx=>decide (x.1=t))=none/\cV kvs (Sum.inr t)=none)\/∃z q,l.find? (λx=>decide (x.1=t))=some z/\cV kvs (Sum.inr t)=some (.ref q)/\H q=some (.tup [.str z.2.1,.int z.2.2])
 |_,_,.nil=>.inl #[rfl,rfl]
 |k::r,_,.cons ⟨l,e,hl⟩ p=>by
  subst e;rw[Oe]
  by_cases c:k.1=t
  .rw[decide_eq_true c];exact .inr #[k,l,rfl,fJ (show(Sum.inr k.1:Key)=Sum.inr t by rw[c]),hl]
  .rw[decide_eq_false c,fK (λz=>c (Ow z))];exact Ai p
def tX(K:bN):Sp:=λu H Q _=>∃(t:Hp) (S:mC) (v:V) (d r:Addr) (e:Kl) (o:List (Str×Nat)) (m q:List Int) (h:Hd) (ks:List Tm) (l:List Str),u=[.ref d,v,.ref r]/\eG t S e (rB e) o m q H/\S.d=d/\Rp K H (enc (.mk h ks)) v/\fc h ks.length=true/\tW h/\ks.length<=900/\H r=some (.lst (l.map V.str))/\l.length<=900/\m.length<=900/\wV e/\(jc e).Nodup /\
 (∀f,eO e o m l h ks.length=.error f->∀p g,aT H g->mK g (some f) p->Q p g)/\(∀j,eO e o m l h ks.length=.ok j->∀g,eG t S e (rB e) o j q g->iA S H g->Q .eN g)
theorem aI :Nm VC (ak fL):=by decide
theorem kh :Lm VC (ak fL):=by decide
theorem jg :aZ VC Vf (ak fL):=by ac_rfl
theorem Bt (F:jq K "_law_itself_fault" "_law_itself_fault" fL f fd)(ao:eL P w K mg base "_law_arms_fault" 3 V8 (Ag K) gA afd)(aa:mg "len"=none)(ab:mg "int"=none):cA P w K mg base gy 4 f fd Vf (tX K):=by
 refine F.ok jg (λvs H Q E h=>?_) (λcdv A outer s H vs Q E hr h=>?_)
 .have(_,_,_,_,_,_,_,_,_,_,_,_,rfl,_):=h;rfl
 have(H0,S,v,d,la,X,ds,m,os,hd,ks,ns,rfl,C,rfl,r,ar,an,lk,am,ln,lg,hB,ax,kf,L):=h;refine#[_,(Z5 (Z4 jg.nd kh 3 (Z8 aP (va aI 1))) (Z5 (Zb (PW.pt (@gz _ _ _ _ _ _ _ (Zo bV (va aI 3) aG) (@fz _ _ _ _ (Zh lH (Z8 aP (va aI 1)) (va aI 2) (by with_unfolding_all rfl))))) (Zd (Zu (Zt (Z1 aG (Z1 (Z8 aP (va aI 1)) aA)))))) (Z5 (Zb (Zo bV (va aI 3) aG) (Z5 (Zb (Zh gq (Z8 aP (va aI 1)) (Zj (va aI 0)) (by with_unfolding_all rfl)) (Zd (Zu (Zt (c8 aG (Zc aG)))))) (Zd (Zn (Z6 (Zj (va aI 0)) (Z1 (Z8 aP (va aI 1)) aA)))))) (Z5 (Zb (PW.pt (@pq _ _ _ _ _ _ _ (Zo bV (va aI 3) aG) (@oM _ _ _ _ (Zo bV (va aI 3) aG)))) (Z5 (Z4 jg.nd kh 4 (@jK _ _ _ _ _ _ (gE hr) (va aI 0) (Zk bx (Zt (c8 aG (Zc aG))) (Z7 iH ab OF (Z1 (jo bV (va aI 3) aG (bI _)) aA))) (λ_ _=>rfl))) (Z5 (Zb (Zh (jS (gE hr)) (Z8 aP (va aI 1)) (va aI 4) (by with_unfolding_all rfl)) (Zd (Zu (Zt (Z1 aG (Z1 (Z8 aP (va aI 1)) aA)))))) (Zd (Zb (Zh pI (Zk aP (@jK _ _ _ _ _ _ (gE hr) (va aI 4) (Z8 aP (va aI 1)) (λ_ _=>rfl)) aC) (Z2 aJ aa Nl (Z1 (Z8 aP (va aI 1)) aA)) (bI _)) (Zd (Zu (Zt (Z1 aG (Z1 (Z8 aP (va aI 1)) aA)))))))))) (Z5 (Zb (Zo bV (va aI 3) aG) (Zd (Zu (Z0 ao (Z1 (va aI 0) (Z1 (Z8 aP (va aI 1)) aA)))))) (Z5 (Zb (PW.pt (@gz _ _ _ _ _ _ _ (Zo bV (va aI 3) aG) (@fz _ _ _ _ (Zh bV (Z8 aP (va aI 1)) (Z8 aP (va aI 1)) (bI _))))) (Zd (Zu (Zt (Z1 aG (Z1 (Z8 aP (va aI 1)) aA)))))) (b9 (cG gv)))))))),?_]
 right
 right
 have gt:=fh C.sd (lU S);have gd:=fh C.sd (lV S);have gg:=fh C.sd (Fo S);have fl:=iM ns;have ap:bQ K H la (ns.map V.str):=bQ.of am;rw[cY]at r
 cases hd with
 |num n =>
  have(T,D,rfl,l,g):=(show Rp K H (.t (.s "num"::[.i n])) v from r).aS;have(R,I,rfl,B,_):=g.inv;obtain rfl:=B.aM;have a0:eK (V.str "num"::I) 0=some (.str "num"):=aH (j:=0) rfl;have fin:=L m rfl H C (iA.refl _ _);ext;exact fin
 |name x =>
  have(T,R,w2,rfl,l,B,p2):=(show Rp K H (.t [.s "name",.s x]) v from r).t2;obtain rfl:=B.aM;obtain rfl:=p2.aM;have iv:=jZ (x:=x) (xs:=ns);ext;refine bW (λc=>?_) (λc=>?_)
  .have hm:x∉ns:=λz=>by
    have ak:(!nR (.str x) (ns.map V.str))=true:=c;rw[iv,decide_eq_true z]at ak
    cases ak
   ext p hp;exact kf (.nn,x) (if_neg hm) _ _ (ae hp _) #[p,rfl,af]
  .have hm:x∈ns:=by
    by_cases z:x∈ns
    .exact z
    .refine absurd ?_ c;show(!nR (.str x) (ns.map V.str))=true;rw[iv,decide_eq_false z];rfl
   have fin:=L m (if_pos hm) H C (iA.refl _ _);ext;exact fin
 |gap n =>
  have(T,R,w2,rfl,l,B,p2):=(show Rp K H (.t [.s "gap",.i n]) v from r).t2;obtain rfl:=B.aM;obtain rfl:=p2.jH;have hg:=C.hg;have as:bQ K H S.lg (m.map V.int):=bQ.of C.hg;have ay:=qI m;have iv:=sY (n:=n) (ns:=m);have ll:(m.map V.int).length<mH:=br (by rw[bM];omega);ext;refine bW (λc=>?_) (λc=>?_)
  .have hm:n∈m:=by
    have c':nR (.int n) (m.map V.int)=true:=c;rw[iv]at c';exact of_decide_eq_true c'
   ext p hp;exact kf (.tw,"?") (if_pos hm) _ _ (ae hp _) #[p,rfl,af]
  .have hm:n∉m:=λz=>c (by show nR (.int n) (m.map V.int)=true;rw[iv];exact decide_eq_true z);have fin:=L (m++[n]) (if_neg hm) _ (C.setG (m++[n])) (λb u n1 n2 n3 n4 n5 e=>by rw[au n5];exact e);rw[i5]at fin;ext;exact fin
 |op z =>
  have(T,D,rfl,l,g):=(show Rp K H (.t (.s "op"::.s z::ks.map enc)) v from r).aS;have(R,I,rfl,B,_):=g.inv;obtain rfl:=B.aM;have a0:eK (V.str "op"::I) 0=some (.str "op"):=aH (j:=0) rfl;have fin:=L m rfl H C (iA.refl _ _);ext;exact fin
 |row =>
  have(T,D,rfl,l,g):=(show Rp K H (.t (.s "row"::[.t (ks.map enc)])) v from r).aS;have(R,I,rfl,B,_):=g.inv;obtain rfl:=B.aM;have a0:eK (V.str "row"::I) 0=some (.str "row"):=aH (j:=0) rfl;have fin:=L m rfl H C (iA.refl _ _);ext;exact fin
 |more =>
  have(T,D,rfl,l,g):=(show Rp K H (.t (.s "more"::ks.map enc)) v from r).aS;have(R,I,rfl,B,_):=g.inv;obtain rfl:=B.aM;have a0:eK (V.str "more"::I) 0=some (.str "more"):=aH (j:=0) rfl;have fin:=L m rfl H C (iA.refl _ _);ext;exact fin
 |first =>
  have(T,D,rfl,l,g):=(show Rp K H (.t (.s "first"::ks.map enc)) v from r).aS;have(R,I,rfl,B,_):=g.inv;obtain rfl:=B.aM;have a0:eK (V.str "first"::I) 0=some (.str "first"):=aH (j:=0) rfl;have fin:=L m rfl H C (iA.refl _ _);ext;exact fin
 |others =>
  have(T,D,rfl,l,g):=(show Rp K H (.t (.s "others"::ks.map enc)) v from r).aS;have(R,I,rfl,B,_):=g.inv;obtain rfl:=B.aM;have a0:eK (V.str "others"::I) 0=some (.str "others"):=aH (j:=0) rfl;have fin:=L m rfl H C (iA.refl _ _);ext;exact fin
 |long =>
  have(T,D,rfl,l,g):=(show Rp K H (.t (.s "long"::ks.map enc)) v from r).aS;have(R,I,rfl,B,_):=g.inv;obtain rfl:=B.aM;have a0:eK (V.str "long"::I) 0=some (.str "long"):=aH (j:=0) rfl;have fin:=L m rfl H C (iA.refl _ _);ext;exact fin
 |tag t =>
  have(T,R,w2,w3,rfl,l,B,p2,p3):=(show Rp K H (.t [.s "tag",.s t,.t (ks.map enc)]) v from r).t3;obtain rfl:=B.aM;obtain rfl:=p2.aM;have(ua,ai,rfl,Y,Z):=p3.aS;have lu:=Z.length;rw[bM]at lu;have(tv,M,ac):=C.ht;have dg:cu H S.dt (.str t) (cV tv (Sum.inr t)):=cu.k (k:=Sum.inr t) M
  have core:((jJ X t)=none/\cV tv (Sum.inr t)=none)\/∃y q nm,(jJ X t)=some y/\cV tv (Sum.inr t)=some (.ref q)/\H q=some (.tup [.str nm,.int ((y.2.2.length:Nat):Int)]):=by
   rcases Ai (t:=t) ac with⟨e1,e2⟩|⟨z,q,e1,e2,e3⟩
   .rw[qk]at e1;exact .inl #[Qc.mp e1,e2]
   .rw[qk]at e1;have(y,hy,rfl):=we.mp e1;exact .inr #[y,q,_,hy,e2,e3]
  have U:eO X ds m ns (.tag t) ks.length=(match jJ X t with
    |none=>Except.error (Er.nn,t)
    |some y=>if ks.length=y.2.2.length then Except.ok m else .error (.wr,t)):=rfl
  rcases core with⟨e1,e2⟩|⟨y,q,nm,e1,e2,e3⟩
  .rw[e1]at U;rw[e2]at dg;ext J O;have o:=ae O (.lst [.str "tags",.str "defs"]);have h6:bQ K (upd H J (.lst [.str "tags",.str "defs"])) J [.str "tags",.str "defs"]:=bQ.of af;generalize upd H J (.lst [.str "tags",.str "defs"])=H6 at o h6|-;have ag:=fh (S:=S) (o _ _ C.sd) (lU S)
   have ah:cu H6 S.dt (.str t) none:=by
    have:=cu.k (k:=Sum.inr t) (o _ _ M);rw[e2]at this;exact this
   have W:=l.same o;have e6:decide (V.str "tag"=V.str "call")=false:=by decide
   have a6:eK [V.str "tags",.str "defs"] (if(false=true)then(1:Int)else 0)=some (.str "tags"):=aH (j:=0) rfl;ext;rw[e6];refine .inr #[_,rfl,?_];ext p7 N;exact kf (.nn,t) U _ _ (o.trans (ae N _)) #[p7,rfl,af]
  .rw[e1]at U;have G:eO X ds m ns (.tag t) ks.length=(if ks.length=y.2.2.length then Except.ok m else .error (.wr,t)):=U;ext J O;have o:=ae O (.lst [.str "tags",.str "defs"]);have h6:bQ K (upd H J (.lst [.str "tags",.str "defs"])) J [.str "tags",.str "defs"]:=bQ.of af;generalize upd H J (.lst [.str "tags",.str "defs"])=H6 at o h6|-;have ag:=fh (S:=S) (o _ _ C.sd) (lU S)
   have ah:cu H6 S.dt (.str t) (some (.ref q)):=by
    have:=cu.k (k:=Sum.inr t) (o _ _ M);rw[e2]at this;exact this
   have W:=l.same o;have aj:=Y.same o;have al:cP K H6 q [.str nm,.int ((y.2.2.length:Nat):Int)]:=cP.of (o _ _ e3);have aq:eK [V.str nm,.int ((y.2.2.length:Nat):Int)] 1=some (.int ((y.2.2.length:Nat):Int)):=aH (j:=1) rfl;have e6:decide (V.str "tag"=V.str "call")=false:=by decide
   have a6:eK [V.str "tags",.str "defs"] (if(false=true)then(1:Int)else 0)=some (.str "tags"):=aH (j:=0) rfl;ext;rw[e6];refine .inr #[_,rfl,?_];ext;refine bW (λc=>?_) (λc=>?_)
   .have hn:¬ks.length=y.2.2.length:=λz=>by rw[lu,z,decide_eq_true rfl]at c;cases c
    rw[if_neg hn]at G;ext p7 N;exact kf (.wr,t) G _ _ (o.trans (ae N _)) #[p7,rfl,af]
   .have hn:ks.length=y.2.2.length:=by
     by_cases z:ks.length=y.2.2.length
     .exact z
     .refine absurd ?_ c;rw[lu,decide_eq_false (λq=>z (by have q':=V.int.inj q;exact_mod_cast q'.symm))];rfl
    rw[if_pos hn]at G;have fin:=L m G H6 (C.ext o) (iA.of o);ext;exact fin
 |call t =>
  have(T,R,w2,w3,rfl,l,B,p2,p3):=(show Rp K H (.t [.s "call",.s t,.t (ks.map enc)]) v from r).t3;obtain rfl:=B.aM;obtain rfl:=p2.aM;have(ua,ai,rfl,Y,Z):=p3.aS;have lu:=Z.length;rw[bM]at lu;have(tv,M,ac):=C.hd;have dg:cu H S.dd (.str t) (cV tv (Sum.inr t)):=cu.k (k:=Sum.inr t) M
  have core:((ds.find? (λd=>decide (d.1=t)))=none/\cV tv (Sum.inr t)=none)\/∃y q nm,(ds.find? (λd=>decide (d.1=t)))=some y/\cV tv (Sum.inr t)=some (.ref q)/\H q=some (.tup [.str nm,.int ((y.2:Nat):Int)]):=by
   rcases Dd (t:=t) ac with⟨e1,e2⟩|⟨z,q,e1,e2,e3⟩
   .exact .inl #[e1,e2]
   .exact .inr #[z,q,_,e1,e2,e3]
  have U:eO X ds m ns (.call t) ks.length=(match ds.find? (λd=>decide (d.1=t))with
    |none=>Except.error (Er.nn,t)
    |some y=>if ks.length=y.2 then Except.ok m else .error (.wr,t)):=rfl
  rcases core with⟨e1,e2⟩|⟨y,q,nm,e1,e2,e3⟩
  .rw[e1]at U;rw[e2]at dg;ext J O;have o:=ae O (.lst [.str "tags",.str "defs"]);have h6:bQ K (upd H J (.lst [.str "tags",.str "defs"])) J [.str "tags",.str "defs"]:=bQ.of af;generalize upd H J (.lst [.str "tags",.str "defs"])=H6 at o h6|-;have ag:=fh (S:=S) (o _ _ C.sd) (lV S)
   have ah:cu H6 S.dd (.str t) none:=by
    have:=cu.k (k:=Sum.inr t) (o _ _ M);rw[e2]at this;exact this
   have W:=l.same o;have e6:decide (V.str "call"=V.str "call")=true:=by decide
   have a6:eK [V.str "tags",.str "defs"] (if(true=true)then(1:Int)else 0)=some (.str "defs"):=aH (j:=1) rfl;ext;rw[e6];refine .inr #[_,rfl,?_];ext p7 N;exact kf (.nn,t) U _ _ (o.trans (ae N _)) #[p7,rfl,af]
  .rw[e1]at U;have G:eO X ds m ns (.call t) ks.length=(if ks.length=y.2 then Except.ok m else .error (.wr,t)):=U;ext J O;have o:=ae O (.lst [.str "tags",.str "defs"]);have h6:bQ K (upd H J (.lst [.str "tags",.str "defs"])) J [.str "tags",.str "defs"]:=bQ.of af;generalize upd H J (.lst [.str "tags",.str "defs"])=H6 at o h6|-;have ag:=fh (S:=S) (o _ _ C.sd) (lV S)
   have ah:cu H6 S.dd (.str t) (some (.ref q)):=by
    have:=cu.k (k:=Sum.inr t) (o _ _ M);rw[e2]at this;exact this
   have W:=l.same o;have aj:=Y.same o;have al:cP K H6 q [.str nm,.int ((y.2:Nat):Int)]:=cP.of (o _ _ e3);have aq:eK [V.str nm,.int ((y.2:Nat):Int)] 1=some (.int ((y.2:Nat):Int)):=aH (j:=1) rfl;have e6:decide (V.str "call"=V.str "call")=true:=by decide
   have a6:eK [V.str "tags",.str "defs"] (if(true=true)then(1:Int)else 0)=some (.str "defs"):=aH (j:=1) rfl;ext;rw[e6];refine .inr #[_,rfl,?_];ext;refine bW (λc=>?_) (λc=>?_)
   .have hn:¬ks.length=y.2:=λz=>by rw[lu,z,decide_eq_true rfl]at c;cases c
    rw[if_neg hn]at G;ext p7 N;exact kf (.wr,t) G _ _ (o.trans (ae N _)) #[p7,rfl,af]
   .have hn:ks.length=y.2:=by
     by_cases z:ks.length=y.2
     .exact z
     .refine absurd ?_ c;rw[lu,decide_eq_false (λq=>z (by have q':=V.int.inj q;exact_mod_cast q'.symm))];rfl
    rw[if_pos hn]at G;have fin:=L m G H6 (C.ext o) (iA.of o);ext;exact fin
 |mat arms =>
  obtain⟨k0,kr,rfl⟩:∃k0 kr,ks=k0::kr:=by
   cases ks with
   |nil=>simp[fc]at ar
   |cons x y=>exact#[x,y,rfl]
  have av:arms.length=(kr.map enc).length:=by
   rw[bM];have:(k0::kr).length=arms.length+1:=by simpa[fc]using ar
   rw[Nv]at this;omega
  have(T,R,w2,w3,rfl,l,B,p2,p3):=(show Rp K H (.t [.s "match",enc k0,.t (Oj oS arms (kr.map enc))]) v from r).t3;obtain rfl:=B.aM;have(ua,ai,rfl,Y,Z):=p3.aS;have(aw,lx):=an arms rfl
  have fin:∀v' H',aT H H'->mK H' (gx X arms) v'->Q v' H':=λv' H' s' ft=>by
   have U:eO X ds m ns (.mat arms) (k0::kr).length=(match gx X arms with
    |some f=>Except.error f
    |none=>Except.ok m):=rfl
   cases ef:gx X arms with
   |some f =>
    rw[ef]at U ft;exact kf f U v' H' s' ft
   |none =>
    rw[ef]at U ft;obtain rfl:v'=.eN:=ft;exact L m U H' (C.ext s') (iA.of s')
  ext;exact fin
 |ife =>
  have(T,D,rfl,l,g):=(show Rp K H (.t (.s "if"::ks.map enc)) v from r).aS;have(R,I,rfl,B,_):=g.inv;obtain rfl:=B.aM;have a0:eK (V.str "if"::I) 0=some (.str "if"):=aH (j:=0) rfl;have fin:=L m rfl H C (iA.refl _ _);ext;exact fin
 |lt z =>
  have(T,D,rfl,l,g):=(show Rp K H (.t (.s "let"::.s z::ks.map enc)) v from r).aS;have(R,I,rfl,B,_):=g.inv;obtain rfl:=B.aM;have a0:eK (V.str "let"::I) 0=some (.str "let"):=aH (j:=0) rfl;have fin:=L m rfl H C (iA.refl _ _);ext;exact fin
 |fold x y =>
  have(T,D,rfl,l,g):=(show Rp K H (.t [.s "fold",(ks.map enc).getD 0 .n,.s x,.s y,(ks.map enc).getD 1 .n,(ks.map enc).getD 2 .n]) v from r).aS;have(R,q1,rfl,B,t1):=g.inv;have(w2,q2,rfl,p2,t2):=t1.inv;have(w3,q3,rfl,p3,t3):=t2.inv;have(w4,q4,rfl,p4,t4):=t3.inv;obtain rfl:=B.aM;obtain rfl:=p3.aM;obtain rfl:=p4.aM;have a0:eK (V.str "fold"::w2::.str x::.str y::q4) 0=some (.str "fold"):=aH (j:=0) rfl;have a2:eK (V.str "fold"::w2::.str x::.str y::q4) 2=some (.str x):=aH (j:=2) rfl;have a3:eK (V.str "fold"::w2::.str x::.str y::q4) 3=some (.str y):=aH (j:=3) rfl;ext;refine bW (λc=>?_) (λc=>?_)
  .have ad:x=y:=V.str.inj (of_decide_eq_true c);ext p hp;exact kf (.tw,x) (if_pos ad) _ _ (ae hp _) #[p,rfl,af]
  .have ad:¬x=y:=λz=>c (decide_eq_true (by rw[z]));have fin:=L m (if_neg ad) H C (iA.refl _ _);ext;exact fin
noncomputable def placesOf:List (Str×List Nat):=[("num",[]),("name",[]),("gap",[]),("op",[2,3]),("more",[1,2]),("first",[1]),("others",[1]),("long",[1]),("if",[1,2,3])]
noncomputable def tY:List (Str×V):=[("row",.int 1),("tag",.int 2),("call",.int 2)]
structure Kh(K:bN) (w:Nn) (mg:Str->Option eF) (dP dM:Addr) (pl:List (Str×V)):Prop where
 mP:mg "PLACES"=some (.ref dP)
 mM:mg "PLACE_OF_MANY"=some (.ref dM)
 kP:KD K w dP pl
 kM:KD K w dM tY
 at_:∀f ps,(f,ps)∈placesOf->∃a,pl.lookup f=some (.ref a)/\∀H,cP K H a (ps.map λ(j:Nat)=>V.int (j:Int))
def vf(K:bN):Sp:=λj H Q _=>∃(v:V) (d:Tm),j=[v]/\Rp K H (enc d) v/\Wf d/\d.ks.length<=900 /\
 ∀(p:Addr) (e:Hp) (g:List V),aT H e->e p=some (.lst g)->bO K e ((right d).map sU) g->Q (.ref p) e
theorem vg :∀ks:List Tm,((Ng ks.length ([]:List Str)).zip ks).map sU=(ks.map enc).map λk=>.t [.t [],k]
 | []=>rfl
 |k::r=>by rw[Nv,Ph,Qd,Ny,Ny,Ny,vg r];rfl
theorem rC (e:bnd h ks.length=Ng ks.length []):(right (.mk h ks)).map sU=(ks.map enc).map λk=>.t [.t [],k]:=by
 unfold right;show((bnd h ks.length).zip ks).map sU=_;rw[e];exact vg ks
theorem yg :∀(arms:List (Str×List Str)) (d:List Tm),arms.length=d.length->((arms.map (·.2)).zip d).map sU=Oj (λ(a:Str×List Str) k=>T.t [.t (a.2.map .s),k]) arms (d.map enc)
 | [],d,h=>rfl
 |x::r,[],h=>rfl
 |x::r,y::q,h=>by rw[Ny,Qd,Ny,Ny,List.zipWith_cons_cons,yg r q (by simpa using h)];rfl
theorem Js (v:d)(q:List d):eK (v::q) 0=some v:=aH (j:=0) rfl
theorem l1 {d:Type}:∀{xs:List d},xs.length=1->∃a,xs=[a]
 | [a],_=>#[a,rfl]
theorem l2 {d:Type}:∀{xs:List d},xs.length=2->∃a b,xs=[a,b]
 | [a,b],_=>#[a,b,rfl]
theorem l3 {d:Type}:∀{xs:List d},xs.length=3->∃a b c,xs=[a,b,c]
 | [a,b,c],_=>#[a,b,c,rfl]
theorem Fv (h:a≠b):decide (V.str a=V.str b)=false:=decide_eq_false λz=>h (V.str.inj z)
theorem De :∀p∈placesOf,p.1≠"match"/\p.1≠"let"/\p.1≠"fold"/\(O9 p.1 tY).isSome=false:=by decide
theorem Bu (d:(e,ps)∈placesOf):ps.length<=1000:=(show ∀p∈placesOf,p.2.length<=1000 by decide) _ d
theorem Fw :∀p∈([("row",1),("tag",2),("call",2)]:List (Str×Nat)),p.1≠"match"/\p.1≠"let"/\p.1≠"fold"/\tY.lookup p.1=some (.int (p.2:Int)):=by decide
def IG(hd:Hd)(ks:List Tm):Prop:=∃(d:Str) (r:List T) (e:List Nat),(d,e)∈placesOf/\sJ hd (ks.map enc)=.t (.s d::r)/\e.map (λ(j:Nat)=>(T.s d::r)[j]?)=(ks.map enc).map some/\bnd hd ks.length=Ng ks.length []
def Km(hd:Hd)(ks:List Tm):Prop:=∃(d:Str) (r:List T) (j:Nat),(d,j)∈([("row",1),("tag",2),("call",2)]:List (Str×Nat))/\sJ hd (ks.map enc)=.t (.s d::r)/\(T.s d::r)[j]?=some (.t (ks.map enc))/\bnd hd ks.length=Ng ks.length []
theorem Fx (d : fc hd ks.length = true): IG hd ks ∨ Km hd ks ∨ (∃ arms, hd = .mat arms) ∨ (∃ x, hd = .lt x) ∨ ∃ x y, hd = .fold x y := by
  cases hd
  case num n => obtain rfl : ks = [] := by simpa [fc] using d
                exact .inl #["num", [.i n], [], by decide, rfl, rfl, rfl]
  case name x => obtain rfl : ks = [] := by simpa [fc] using d
                 exact .inl #["name", [.s x], [], by decide, rfl, rfl, rfl]
  case gap n => obtain rfl : ks = [] := by simpa [fc] using d
                exact .inl #["gap", [.i n], [], by decide, rfl, rfl, rfl]
  case op s => have(a, b, rfl) := l2 (show ks.length = 2 by simpa [fc] using d)
               exact .inl #["op", [.s s, enc a, enc b], [2, 3], by decide, rfl, rfl, rfl]
  case more => have(a, b, rfl) := l2 (show ks.length = 2 by simpa [fc] using d)
               exact .inl #["more", [enc a, enc b], [1, 2], by decide, rfl, rfl, rfl]
  case first => have(a, rfl) := l1 (show ks.length = 1 by simpa [fc] using d)
                exact .inl #["first", [enc a], [1], by decide, rfl, rfl, rfl]
  case others => have(a, rfl) := l1 (show ks.length = 1 by simpa [fc] using d)
                 exact .inl #["others", [enc a], [1], by decide, rfl, rfl, rfl]
  case long => have(a, rfl) := l1 (show ks.length = 1 by simpa [fc] using d)
               exact .inl #["long", [enc a], [1], by decide, rfl, rfl, rfl]
  case ife => have(a, b, c, rfl) := l3 (show ks.length = 3 by simpa [fc] using d)
              exact .inl #["if", [enc a, enc b, enc c], [1, 2, 3], by decide, rfl, rfl, rfl]
  case row => exact .inr (.inl #["row", [.t (ks.map enc)], 1, by decide, rfl, rfl, rfl])
  case tag t => exact .inr (.inl #["tag", [.s t, .t (ks.map enc)], 2, by decide, rfl, rfl, rfl])
  case call t => exact .inr (.inl #["call", [.s t, .t (ks.map enc)], 2, by decide, rfl, rfl, rfl])
  case mat arms => exact .inr (.inr (.inl #[_, rfl]))
  case lt x => exact .inr (.inr (.inr (.inl #[_, rfl])))
  case fold x y => exact .inr (.inr (.inr (.inr #[_, _, rfl])))
theorem vh :aZ ["term","form"] ["term"] (ak jk):=by ac_rfl
theorem yh (F:jq K "right_in" "right_in" jk f fd)(TB:Kh K w mg dP dM pl):cA P w K mg base gy 1 f fd ["term"] (vf K):=by
 refine F.ok vh (λvs H Q E h=>?_) (λcdv A outer s H vs Q E hr h=>?_)
 .have(v,tm,rfl,_):=h;rfl
 have(v,tm,rfl,I,wf,ag,k):=h
 refine#[_,(eA (lC (i:=1) vh.nd rfl (Or.inl rfl) (Z8 aP (pv 0)))
  (eA (kL (Zo bV (pv 1) aG) (b9 (cG (bS iT (dB (bJ (fH (bJ (fH aA) (bJ (Z8 aP (pv 0)) aA))) aA)) (kT (ak jk) ["term","form"] VA [] rfl rfl rfl (by decide) (cz (Z8 aP (pv 0))) (λ_ _ _ _=>(zP (n:=3) K rfl rfl (pA (lB (i:=0) (show(VA:List Str).Nodup by decide) rfl (Or.inl rfl)) (pA (lB (i:=1) (show(VA:List Str).Nodup by decide) rfl (Or.inl rfl)) (Zs (lB (i:=2) (show(VA:List Str).Nodup by decide) rfl (Or.inl rfl))))))) (λ_ _ _ _=>fZ) (λ_ _ _ _=>(fH (bJ (pv 1) (bJ (pv 2) aA)))))))) j8)
  (eA (kL (Zo bV (pv 1) aG) (b9 (cG (dB (bJ (fH (bJ (fH aA) (bJ (Z8 aP (pv 0)) aA))) (bJ (fH (bJ (fH (bJ (Z8 aP (pv 0)) aA)) (bJ (Z8 aP (pv 0)) aA))) aA))))) j8)
  (eA (kL (Zo bV (pv 1) aG) (b9 (cG (dB (bJ (fH (bJ (fH aA) (bJ (Z8 aP (pv 0)) aA))) (bJ (fH (bJ (fH aA) (bJ (Z8 aP (pv 0)) aA))) (bJ (fH (bJ (fH (bJ (Z8 aP (pv 0)) (bJ (Z8 aP (pv 0)) aA))) (bJ (Z8 aP (pv 0)) aA))) aA)))))) j8)
  (eA (kL (nQ EM (pv 1) (iz (v:=.ref dM) (by rfl) TB.mM rfl) (by with_unfolding_all rfl)) (b9 (cG (kT (ak jk) ["term","form"] ["inner"] [] rfl rfl rfl (by decide) (cz (iI aP (pv 0) (zR (iz (v:=.ref dM) (by rfl) TB.mM rfl) (pv 1) (λ_ _=>rfl)) (λ_ _=>rfl))) (λ_ _ _ _=>(lB (i:=0) (show(["inner"]:List Str).Nodup by decide) rfl (Or.inl rfl))) (λ_ _ _ _=>fZ) (λ_ _ _ _=>(fH (bJ (fH aA) (bJ (pv 0) aA))))))) j8)
  (b9 (cG (kT (ak jk) ["term","form"] ["place"] [0] rfl rfl rfl (by decide) (cz (zR (iz (v:=.ref dP) (by rfl) TB.mP rfl) (pv 1) (λ_ _=>rfl))) (λ_ _ _ _=>(lB (i:=0) (show(["place","term"]:List Str).Nodup by decide) rfl (Or.inl rfl))) (λ_ _ _ _=>fZ) (λ_ _ _ _=>(fH (bJ (fH aA) (bJ (iI (vS K rfl) (pv 1) (pv 0) (λ_ _=>rfl)) aA)))))))))))),?_]
 right
 have kM:=TB.kM;have kP:=TB.kP;refine tK ?_;intro N1 N2 N3 N4 N5 c1 c2 c3 c4 c5
 cases wf with
 |mk ar wk =>
 rename_i hd ks
 rw[cY]at I;have M:ks.length<=900:=ag;have nE:(ks.map enc).length=ks.length:=bM _;rcases Fx ar with⟨fm,r,ps,hm,he,hp,hb⟩|⟨fm,r,j,hm,he,hj,hb⟩|⟨arms,rfl⟩|⟨x,rfl⟩|⟨x,y,rfl⟩
 .rw[he]at I;have(a,vs,rfl,D,d):=I.aS;have(v0,q0,rfl,S,B):=d.inv;obtain rfl:=S.aM;have(pa,lk,ad):=TB.at_ fm ps hm;have an:=ad H;ext
  .exact Js _ _
  ext;have(n1,n2,n3,n4):=De (fm,ps) hm;refine Cs (Fv n1) ?_;ext;refine Cs (Fv n2) ?_;ext;refine Cs (Fv n3) ?_;ext;refine Cs n4 ?_;ext;refine xH (ks:=ks.map enc) D d (ad H) (Bu hm) hp λp H' ws z h1 r1=>k p H' ws z h1 ?_;rw[rC hb];exact r1
 .rw[he]at I;have(a,vs,rfl,D,d):=I.aS;have(u,hu,ru):=d.get hj;have(b,us,rfl,R,Y):=ru.aS;have(v0,q0,rfl,S,B):=d.inv;obtain rfl:=S.aM;have(n1,n2,n3,n4):=Fw (fm,j) hm;have ao:O9 fm tY=some (.int (j:Int)):=n4;have ap:=aH hu;ext
  .exact Js _ _
  ext;refine Cs (Fv n1) ?_;ext;refine Cs (Fv n2) ?_;ext;refine Cs (Fv n3) ?_;ext;refine LX (by rw[n4];rfl) ?_;ext;refine A2 (ks:=ks.map enc) R Y () λp H' ws z h1 r1=>k p H' ws z h1 ?_;rw[rC hb];exact r1
 .skip
  have O:ks.length=arms.length+1:=by simpa[fc]using ar
  match ks,O with
  |k0::kr,O =>
  have ah:arms.length=kr.length:=by simpa using O.symm
  unfold sJ at I;have(a,vs,rfl,D,d):=I.aS;have(v0,q0,rfl,S,B):=d.inv;obtain rfl:=S.aM;have(v1,q1,rfl,e1,L):=B.inv;have(v2,q2,rfl,e2,J):=L.inv;obtain rfl:=J.ji;have(b,us,rfl,R,Y):=e2.aS;ext p1 q;have z:=ae q (.tup []);refine#[_,rfl,a,_,1,_,rfl,rfl,D.same z,rfl,(by show 2<=mH;decide),λV o=>?_];have W:=z.trans (ae o (.tup [.ref p1,v1]));refine#[(by show 1<=mH;decide),λX m=>?_];have G:=W.trans (ae m (.lst [.ref V]));refine#[_,rfl,a,_,2,_,rfl,rfl,D.same G,rfl,b,rfl,#[_,R.same G],?_];refine A3 (arms:=arms) (ks:=kr.map enc) (by rw[bM];exact ah) (R.same G) (by exact Y.same G) (by rw[bM];have:=M;simp at this;omega) λp H' ws N h4 r4=>?_;have z3:H' X=some (.lst [.ref V]):=N _ _ af;refine#[X,p,_,_,rfl,rfl,z3,h4,?_,λp5 g=>?_]
  .have l:=r4.length;rw[OD,bM]at l;rw[l];exact small (by have:=M;simp at this;show 1+_<=1000;omega)
  have U:=N.trans (ae g (.lst ([.ref V]++ws)));refine k p5 _ _ (G.trans U) af ?_
  have e:(right (.mk (.mat arms) (k0::kr))).map sU=T.t [.t [],enc k0]::Oj (λ(a:Str×List Str) k=>T.t [.t (a.2.map .s),k]) arms (kr.map enc):=by
   unfold right;show((([]:List Str)::arms.map (·.2)).zip (k0::kr)).map sU=_;rw[Qd,Ny];rw[yg arms kr ah];rfl
  rw[e];refine .cons ?_ (r4.same (ae g _));refine Rp.same ((ae m _).trans U) (Rp.new o (.cons (Rp.new q .nil) (.one (e1.same z))))
 .skip
  have O:ks.length=2:=by simpa[fc]using ar
  match ks,O with
  | [k0,k1],O =>
  unfold sJ at I;have(a,vs,rfl,D,d):=I.aS;have(v0,q0,rfl,S,B):=d.inv;obtain rfl:=S.aM;have(v1,q1,rfl,e1,L):=B.inv;have(v2,q2,rfl,e2,J):=bO.inv L;have(v3,q3,rfl,e3,Z):=bO.inv J;obtain rfl:=Z.ji;ext p1 q;have z:=ae q (.tup []);refine#[_,rfl,a,_,2,_,rfl,rfl,D.same z,rfl,(by show 2<=mH;decide),λV o=>?_];have W:=z.trans (ae o (.tup [.ref p1,v2]));refine#[_,rfl,a,_,1,_,rfl,rfl,D.same W,rfl,(by show 1<=mH;decide),λX m=>?_];have G:=W.trans (ae m (.tup [v1]));refine#[_,rfl,a,_,3,_,rfl,rfl,D.same G,rfl,(by show 2<=mH;decide),λp4 C=>?_];have N:=G.trans (ae C (.tup [.ref X,v3]));refine#[(by show 2<=mH;decide),λp5 g=>?_];have U:=N.trans (ae g (.lst [.ref V,.ref p4]));refine k p5 _ _ U af ?_;refine .cons (Rp.same ((ae m _).trans ((ae C _).trans (ae g _))) (Rp.new o (.cons (Rp.new q .nil) (.one (e2.same z))))) (.one ?_);exact Rp.same (ae g _) (Rp.new C (.cons (Rp.new m (.one (e1.same W))) (.one (e3.same G))))
 .skip
  have O:ks.length=3:=by simpa[fc]using ar
  match ks,O with
  | [k0,k1,k2],O =>
  unfold sJ at I;have(a,vs,rfl,D,d):=I.aS;have(v0,q0,rfl,S,B):=d.inv;obtain rfl:=S.aM;have(v1,q1,rfl,e1,L):=B.inv;have(v2,q2,rfl,e2,J):=L.inv;have(v3,q3,rfl,e3,Z):=J.inv;have(v4,q4,rfl,e4,am):=Z.inv;have(v5,q5,rfl,e5,al):=am.inv;obtain rfl:=al.ji;ext p1 q;have z:=ae q (.tup []);refine#[_,rfl,a,_,1,_,rfl,rfl,D.same z,rfl,(by show 2<=mH;decide),λV o=>?_];have W:=z.trans (ae o (.tup [.ref p1,v1]));refine#[Nu _,λX m=>?_];have G:=W.trans (ae m (.tup []));refine#[_,rfl,a,_,4,_,rfl,rfl,D.same G,rfl,(by show 2<=mH;decide),λp4 C=>?_];have N:=G.trans (ae C (.tup [.ref X,v4]));refine#[_,rfl,a,_,2,_,rfl,rfl,D.same N,rfl,_,rfl,a,_,3,_,rfl,rfl,D.same N,rfl,(by show 2<=mH;decide),λp5 g=>?_];have U:=N.trans (ae g (.tup [v2,v3]));refine#[_,rfl,a,_,5,_,rfl,rfl,D.same U,rfl,(by show 2<=mH;decide),λp6 ab=>?_];have s6:=U.trans (ae ab (.tup [.ref p5,v5]));refine#[(by show 3<=mH;decide),λp7 aa=>?_];have s7:=s6.trans (ae aa (.lst [.ref V,.ref p4,.ref p6]));refine k p7 _ _ s7 af ?_;have ai:=(ae ab (.tup [.ref p5,v5])).trans (ae aa (.lst [.ref V,.ref p4,.ref p6]));have ac:=(ae g (.tup [v2,v3])).trans ai;have aj:=(ae m (.tup [])).trans ((ae C (.tup [.ref X,v4])).trans ac);refine .cons (Rp.same aj (Rp.new o (.cons (Rp.new q .nil) (.one (e1.same z))))) (.cons (Rp.same ac (Rp.new C (.cons (Rp.new m .nil) (.one (e4.same G))))) (.one ?_));exact Rp.same (ae aa _) (Rp.new ab (.cons (Rp.new g (.cons (e2.same N) (.one (e3.same N)))) (.one (e5.same U))))
end G14
namespace L2
open PySem PySem.Spec PyProof.Rows
theorem Dg :mG X (PX .Add) (λx y H Q=>∃a b ys,x=.ref a/\y=.ref b/\cP X.K H a []/\cP X.K H b ys/\Q (.ref b) H):=by
 intro r s V H x y u v Q I J G h;have(a,b,ys,rfl,rfl,S,R,q):=h
 cases J
 cases G
 have(N,L,O,_):=I.tuple S;have(l,r2,m,_):=I.tuple R
 cases L
 have((U,T,B,D),t,z,n,hd):=id O;have((C,o,p,j),d,g,M,e):=id m;simp only at z hd g e;subst z hd g e
 exact Ut #[_,t,rfl] #[_,d,rfl] SN T7 Q5 QS (QE _ _)
   (tuple_addW0 a b _ l.toArray n M T o D j (by simp)) #[t,d,#[.ref b,H,I,rfl,q]]
def GW(K:bN):R2:=λx y H Q=>∃a b e d,x=.ref a/\y=.ref b/\cP K H a e/\cP K H b d/\e.length+d.length<=mH/\∀p g,aT H g->cP K g p (e++d)->Q (.ref p) g
theorem jA :mG X (PX .Add) (GW X.K):=by
 intro d s j H x y u v Q I o m h;have(a,b,q,l,rfl,rfl,g,e,t,k):=h
 cases q with
 |nil=>exact Dg d s j H _ _ u v Q I o m #[a,b,l,rfl,rfl,g,e,k b H (aT.refl _) e]
 |cons x r =>
  exact Ep d s j H _ _ u v Q I o m #[a,b,_,l,rfl,rfl,g,e,(by simp),t,(λz=>by subst z;have:=k a H (aT.refl _);rw[NF]at this;exact this g),λ_ p B=>k p _ (ae B _) (cP.of af)]
end L2
namespace L2
open PySem
theorem Kn (o:PI X tg l j)(m:PI X tg l g):PI X tg l (λe H R=>j e H R\/g e H R):=λd s e H R I h=>h.elim (o d s e H R I) (m d s e H R I)
end L2
namespace G14
open PySem L2
noncomputable def qm(ns:List Str)(o:Str):List Str:=ns.filter (λn=>decide (n≠o))++[o]
noncomputable def gj(ns d:List Str):List Str:=d.foldl qm ns
theorem Bv (ns d:List Str)(o:Str):gj ns (d++[o])=qm (gj ns d) o:=by unfold gj;rw[List.foldl_append];rfl
theorem Dh (ns:List Str)(o:Str):(qm ns o).length<=ns.length+1:=by
 unfold qm;rw[i4];exact Nat.add_le_add_right (Ro _ _) 1
theorem nI :∀(d ns:List Str),(gj ns d).length<=ns.length+d.length
 | [],ns=>lj _
 |o::r,ns=>by
  have h:=nI r (qm ns o);have e:=Dh ns o;show(gj (qm ns o) r).length<=_;rw[Nv];omega
def Di(K:bN):Sp:=λl H Q _=>∃(j:V) (b:Addr) (e d:List Str),l=[j,.ref b]/\Rp K H (.t (e.map .s)) j/\(H b=some (.lst (d.map V.str))\/cP K H b (d.map V.str))/\e.length+d.length<=900 /\
 ∀(v:V) (g:Hp),aT H g->Rp K g (.t ((gj e d).map .s)) v->Q v g
theorem nJ :Nm VW (ak nS):=by decide
theorem yi :Lm VW (ak nS):=by decide
theorem tZ :aZ VW ["names","others"] (ak nS):=by ac_rfl
theorem Dj (F:jq K "bound" "bound" nS f fd)(r:mg "tuple"=none):cA P w K mg base gy 1 f fd ["names","others"] (Di K):=by
 refine F.ok tZ (λvs H Q E h=>?_) (λcdv A outer s H vs Q E hr h=>?_)
 .have(_,_,_,_,rfl,_):=h;rfl
 have(W,b,u,g,rfl,Z,hb,hl,k):=h;refine#[_,(Z5 (Zg NH (Kn (lD (va nJ 1)) (cz (va nJ 1))) (ga tZ.nd yi 2) (Zd (Z4 tZ.nd yi 0 (Zm jA (Z7 cQ r N8 (Z1 (@kT _ _ _ _ _ _ _ _ _ _ _ (ak nS) VW ["name"] [2] rfl rfl rfl (by decide) (cz (va nJ 0)) (λ_ _ _ _=>(Z3 (i:=0) (show(Wc:List Str).Nodup by decide))) (λ_ _ _ _=>(@xE _ _ _ (Zo pI (va (show Nm Wc _ by left) 0) (va (show Nm Wc _ by left) 1)))) (λ_ _ _ _=>(va (show Nm Wc _ by left) 0)) (by intro _;rfl)) aA)) (Zl (Zc (va nJ 2))))))) (Zd (cG (va nJ 0)))),?_]
 right
 right
 refine lQ ?_;intro N0 c0;ext
 have fin:∀e d,(∃(v:V) (m:Option V),e=[some v,some (.ref b),m]/\aT H d/\Rp K d (.t ((gj u (g.take g.length)).map .s)) v)->N0 e d:=by
  rintro e d ⟨v,m,rfl,B,G⟩;rw[Nr]at G;ext;exact k v d B G
 have Y:(g.map V.str).length=g.length:=bM _
 have step:∀(i:Nat) (x:V) (e:St) (d:Hp),(g.map V.str)[i]?=some x->(∃(v:V) (m:Option V),e=[some v,some (.ref b),m]/\aT H d/\Rp K d (.t ((gj u (g.take i)).map .s)) v) ->
   iF 2 x e d λM H2=>(vH (GD (GW K) (Ll (λxs H Q=>∃p N,xs=[V.ref p]/\((bQ K H p N/\∀(l:Addr),H l=none->Q (V.ref l) (upd H l (HO.tup N)))\/cP K H p N/\Q (V.ref p) H)) (oq (uT [Oi "name"].length [2] (Hw K (mO 0)) (iF 0) (B4 (GD LW (mO 0) (mO 1))) (mO 0)) xo)) (yO (oq (mO 2) xo))) (iF 0))
    {nx:=λe d=>∃(v:V) (m:Option V),e=[some v,some (.ref b),m]/\aT H d/\Rp K d (.t ((gj u (g.take (i+1))).map .s)) v,rt:=Q,bk:=N0,ct:=λe d=>∃(v:V) (m:Option V),e=[some v,some (.ref b),m]/\aT H d/\Rp K d (.t ((gj u (g.take (i+1))).map .s)) v} M H2:=by
  rintro i x e d hi ⟨v,m,rfl,B,G⟩;rw[xn]at hi;have(o,ho,rfl):=we.mp hi;have S:i<g.length:=(bH.mp ho).1;have eo:g[i]=o:=(bH.mp ho).2;have eb:gj u (g.take (i+1))=qm (gj u (g.take i)) o:=by rw[mu S,eo,Bv]
  have J:=nI (g.take i) u;rw[I0]at J;rw[eb];generalize gj u (g.take i)=L at G J|-;have(a1,C,rfl,sq,O):=G.aS;obtain rfl:=O.pY;ext;refine gb (xs:=L.map V.str) (λj e C Hd=>(∃y,e=[y,some (.str o)])/\Hd=d/\C=((L.take j).filter (λn=>decide (n≠o))).map V.str) #[#[_,rfl],rfl,rfl] ?_ (by rw[bM];exact Ot (br ())) ?_ ?_ ?_
  .rintro j e C Hd hj ⟨_,_,rfl⟩;rw[bM];exact Nz (Ro _ _) (by rw[I0];omega)
  .rintro j e C Hd hj ⟨_,rfl,_⟩;exact sq
  .rintro j x e C Hd hj ⟨⟨x0,rfl⟩,rfl,rfl⟩;rw[xn]at hj;have(n,hn,rfl):=we.mp hj;have R:j<L.length:=(bH.mp hn).1;have en:L[j]=n:=(bH.mp hn).2
   have et:(L.take (j+1)).filter (λn=>decide (n≠o))=(L.take j).filter (λn=>decide (n≠o))++(if n=o then []else [n]):=by
    rw[mu R,List.filter_append,en]
    by_cases c:n=o<;>simp[c]
   ext;refine bW (λc=>?_) (λc=>?_)
   .have U:¬n=o:=λz=>by subst z;simp at c
    ext;rw[et,if_neg U,i5];rfl
   .have U:n=o:=by simpa using c
    ext;rw[et,if_pos U,NF]
  .rintro e C Hd ⟨_,rfl,rfl⟩ p hp;rw[bM,Nr]at *;have sp:=ae hp (.lst ((L.filter (λn=>decide (n≠o))).map V.str));ext;refine .inl #[bQ.of af,λl hl=>?_];have X:=sp.trans (ae hl (.tup ((L.filter (λn=>decide (n≠o))).map V.str)));have I:=af (H:=upd Hd p (.lst ((L.filter (λn=>decide (n≠o))).map V.str))) (a:=l) (o:=.tup ((L.filter (λn=>decide (n≠o))).map V.str));generalize upd (upd Hd p (.lst ((L.filter (λn=>decide (n≠o))).map V.str))) l (.tup ((L.filter (λn=>decide (n≠o))).map V.str))=H3 at X I|-;ext q hq;have D:=ae hq (.tup [.str o]);have aa:=D _ _ I;have fl:(L.filter (λn=>decide (n≠o))).length<=L.length:=Ro _ _
   have hz:((L.filter (λn=>decide (n≠o))).map V.str).length+[V.str o].length<=mH:=by
    rw[bM];exact Ot (br (by show(L.filter (λn=>decide (n≠o))).length+1<=1000;omega))
   ext p4 H4 s4 q4;refine#[_,_,rfl,B.trans (X.trans (D.trans s4)),?_];have e4:(qm L o).map T.s=((L.filter (λn=>decide (n≠o))).map T.s)++[T.s o]:=by unfold qm;rw[i5];rfl
   rw[e4];exact Rp.t q4 (by have:=bO.strs (K:=K) (H:=H4) (qm L o);unfold qm at this;rw[i5,i5]at this;exact this)
 rcases hb with hb|hb
 .refine .inl ?_;ext;refine xg (xs:=g.map V.str) (λi e d=>∃(v:V) (m:Option V),e=[some v,some (.ref b),m]/\aT H d/\Rp K d (.t ((gj u (g.take i)).map .s)) v) #[W,none,rfl,aT.refl _,Z] (λi e d _ h=>?_) step (by rw[Y];exact fin);have(_,_,_,B,_):=h;exact bQ.of (B _ _ hb)
 .refine .inr ?_;ext;refine eX (xs:=g.map V.str) (λi e d=>∃(v:V) (m:Option V),e=[some v,some (.ref b),m]/\aT H d/\Rp K d (.t ((gj u (g.take i)).map .s)) v) #[W,none,rfl,aT.refl _,Z] (λi e d _ h=>?_) step (by rw[Y];exact fin);have(_,_,_,B,_):=h;exact hb.same B
mutual
noncomputable def vj(ns:List Str):Tm->List (List Str×Tm)
 |.mk h ks=>(ns,.mk h ks)::qo ns (bnd h ks.length) ks
noncomputable def qo(ns:List Str):List (List Str)->List Tm->List (List Str×Tm)
 |b::bs,k::ks=>vj (gj ns b) k++qo ns bs ks
 |_,_=>[]
end
inductive Wn:Tm->Prop
 |mk {h:Hd}{ks:List Tm}:fc h ks.length=true->(∀b∈bnd h ks.length,b.length<=5)->(∀k∈ks,Wn k)->Wn (.mk h ks)
theorem Wn.wf :Wn d->Wf d:=by
 refine Tm.induct (P:=λt=>Wn t->Wf t) (λh ks g w=>?_) d
 cases w with
 |mk a b c=>exact .mk a λk e=>g k e (c k e)
noncomputable abbrev Pl:=List Str×Tm
noncomputable def II(p:Pl):T:=.t [.t (p.1.map .s),enc p.2]
noncomputable def GX(st:List Pl):List Pl:=st.flatMap λp=>vj p.1 p.2
noncomputable def rD:List Pl->Nat
 | []=>0
 |p::r=>p.2.size+rD r
theorem jm :∀a b:List Pl,rD (a++b)=rD a+rD b
 | [],b=>by simp[rD]
 |x::r,b=>by rw[Qv,rD,rD,jm r b];omega
theorem wI :∀a:List Pl,rD a.reverse=rD a
 | []=>rfl
 |x::r=>by rw[PY,jm,wI r];simp only[rD];omega
theorem Aj :∀st:List Pl,st.length<=rD st
 | []=>lj _
 |(ns,.mk h ks)::r=>by
  have:=Aj r;rw[Nv,rD,Tm.ik];omega
theorem vm (d:Tm)(wf:Wf d):(right d).map (·.2)=d.ks:=by
 cases wf with
 |mk ar wk =>
 rename_i h ks
 show(((bnd h ks.length).zip ks).map Prod.snd)=ks;refine List.map_snd_zip ?_
 cases h<;>simp_all[bnd,fc]
theorem qN (d:Tm)(wf:Wf d):(right d).length=d.ks.length:=by
 have z:=congrArg QO (vm d wf)
 rwa [bM]at z
theorem Ak (d:Tm):d.ks.length<d.size:=by
 cases d with
 |mk h ks =>
  rw[Tm.ik];show ks.length<_
  have:ks.length<=Tm.sizes ks:=by
   induction ks with
   |nil=>exact lj _
   |cons k r ih=>rw[Tm.eB,Nv];have:=Tm.size_pos k;omega
  omega
noncomputable def rE(ns:List Str)(d:Tm):List Pl:=(right d).map λq=>(gj ns q.1,q.2)
theorem Al (ns:List Str):∀(bs:List (List Str)) (ks:List Tm),qo ns bs ks=GX ((bs.zip ks).map λq=>(gj ns q.1,q.2))
 | [],ks=>by cases ks<;>(unfold qo;rfl)
 |b::bs,[]=>by unfold qo;rfl
 |b::bs,k::ks=>by
  unfold qo;rw[Qd,Ny,Al ns bs ks];rfl
theorem Dk (ns:List Str)(d:Tm):vj ns d=(ns,d)::GX (rE ns d):=by
 cases d with
 |mk h ks=>unfold vj;rw[Al];rfl
theorem Am (ns:List Str):∀(l:List (List Str×Tm)),rD (l.map λq=>(gj ns q.1,q.2))=Tm.sizes (l.map (·.2))
 | []=>rfl
 |q::r=>by rw[Ny,rD,Ny,Tm.eB,Am ns r]
theorem Fy (w:Wf d):rD (rE ns d)+1=d.size:=by
 unfold rE;rw[Am,vm d w]
 cases d with
 |mk h ks=>rw[Tm.ik];rfl
theorem nV :∀{ks:List Tm}{k:Tm},k∈ks->k.size<=Tm.sizes ks
 |x::r,k,h=>by
  rw[Tm.eB]
  cases h with
  |head=>omega
  |tail _ h=>have:=nV h;omega
theorem An (w:Wn d)(h:ns.length+5*d.size<=900):∀p∈rE ns d,Wn p.2/\p.1.length+5*p.2.size<=900:=by
 intro p l;have(q,j,rfl):=NI.mp l
 cases w with
 |mk a b c =>
  rename_i hd ks
  have e:q∈(bnd hd ks.length).zip ks:=j;have r:=b _ (Pe e).1;have g:=(Pe e).2;have o:=nI q.1 ns;have m:=nV g;rw[Tm.ik]at h;exact#[c _ g,by show(gj ns q.1).length+5*q.2.size<=900;omega]
theorem Bw (w:Wn d):∀q∈right d,q.1.length<=5:=by
 cases w with
 |mk a b c=>exact λq e=>b _ (Pe (show q∈(bnd _ _).zip _ from e)).1
noncomputable def IJ(ps:List (Str×T)):T:=.t (ps.map λp=>.t [.s p.1,p.2])
noncomputable def yj(K:bN):Sp:=λo H Q _=>∃(m l:V) (g:List (Str×T)) (d:Tm),o=[m,l]/\Rp K H (IJ g) m/\Rp K H (enc d) l/\Wn d/\d.size<=160/\g.length<=50 /\
 ∀(p:Addr) (e:Hp) (j:List V),aT H e->H p=none->e p=some (.lst j)->bO K e ((vj (gj [] (g.map (·.1))) d).map II) j->Q (.ref p) e
noncomputable def Ko(K:bN)(H:Hp)(u t:V)(lt q:Addr)(ns:List Str)(o:Tm)(m:Nat)(r:St)(e:Hp):Prop :=
 ∃(g d:List Pl) (j l:List V) (y v:Option V),r=[some u,some t,some (.ref lt),some (.ref q),y,v]/\aT H e/\e lt=some (.lst j)/\bO K e (g.map II) j/\e q=some (.lst l)/\bO K e (d.map II) l/\(∀p∈d,Wn p.2/\p.1.length+5*p.2.size<=900)/\g++GX d.reverse=vj ns o/\g.length+rD d=o.size/\m=rD d
theorem gu :Nm Vu (ak jW):=by decide
theorem nW :Lm Vu (ak jW):=by decide
theorem kY :aZ Vu ["params","term"] (ak jW):=by ac_rfl
theorem Bx (F:jq K "places" "places" jW f fd)(bk:eL P w K mg base "bound" 1 ["names","others"] (Di K) gB bfd)(RI:eL P w K mg base "right_in" 1 ["term"] (vf K) gR rfd):cA P w K mg base gy 2 f fd ["params","term"] (yj K):=by
 refine F.ok kY (λvs H Q E h=>?_) (λcdv A outer s H vs Q E hr h=>?_)
 .have(_,_,_,_,rfl,_):=h;rfl
 have(vp,vt,I,tm,rfl,hp,ht,wf,cf,cj,k):=h;refine#[_,(Z5 (sa kY.nd nW 2 (dB aA)) (Z5 (Z4 kY.nd nW 3 (Zt (Z1 (Zl (Z1 (Z0 bk (Z1 (fH aA) (Z1 (Zf (ak jW) Vu Wd [] (cz (va gu 0)) (λ_ _ _ _=>(Z9 (2) (Ze (Z3 (i:=0) (show(Wd:List Str).Nodup by decide)) (Zs (Z3 (i:=1) (show(Wd:List Str).Nodup by decide)))))) (λ_ _ _ _=>(va (show Nm Wd _ by left) 0))) aA))) (Zc (va gu 1)))) aA))) (Z5 (@sy _ _ _ _ _ _ NH (xh (va gu 3) (λ_=>rfl)) (Z5 (Zp (HS P7 PySem.F.slot_list_pop PySem.F.type_list_pop HV (va gu 3)) (Z9 (2) (Ze (ga kY.nd nW 4) (Zs (ga kY.nd nW 5))))) (Z5 (Zn (Z6 (va gu 2) (Z1 (Zl (Z1 (va gu 4) (Zc (va gu 5)))) aA))) (Zd (Zn (@xr _ _ _ _ _ _ _ _ _ _ _ _ P7 SI SJ uP (va gu 3) (Z1 (@A0 _ _ _ _ _ _ _ _ _ _ _ (Zf (ak jW) Vu ["others","inner"] [4] (@lD _ _ _ _ (Z0 RI (Zc (va gu 5)))) (λ_ _ _ _=>(Z9 (2) (Ze (Z3 (i:=0) (show(VQ:List Str).Nodup by decide)) (Zs (Z3 (i:=1) (show(VQ:List Str).Nodup by decide)))))) (λ_ _ _ _=>(Zl (Z1 (Z0 bk (Z1 (va (show Nm VQ _ by left) 2) (Zc (va (show Nm VQ _ by left) 0)))) (Zc (va (show Nm VQ _ by left) 1)))))) eY eY (dj (pH lE aC))) aA) (by rfl) (by rfl) (by rfl) (by rfl) (by rfl))))))) (Zd (cG (va gu 2)))))),?_]
 right
 right
 have(pa,a2,rfl,bt,a3):=hp.aS;have lp:=a3.length;rw[bM]at lp;ext lt ao;have s1:=ae ao (.lst []);ext p0 a7;have s2:=s1.trans (ae a7 (.tup []));have bi:upd (upd H lt (.lst [])) p0 (.tup []) lt=some (.lst []):=ae a7 _ _ _ af;have ar:upd (upd H lt (.lst [])) p0 (.tup []) p0=some (.tup []):=af;generalize upd (upd H lt (.lst [])) p0 (.tup [])=H2 at s2 bi ar|-;have ab:=cP.same s2 bt;have ac:=a3.same s2;ext;refine gb (xs:=a2) (λi J us Hd=>(∃x y,J=[x,y])/\Hd=H2/\us=((I.take i).map (·.1)).map V.str) #[#[_,_,rfl],rfl,rfl] ?_ (Ot (br ())) ?_ ?_ ?_
 .rintro j J us Hd hj ⟨_,_,rfl⟩;rw[bM,bM,I0];omega
 .rintro j J us Hd hj ⟨_,rfl,_⟩;exact ab
 .rintro j x J us Hd hj ⟨⟨x0,y0,rfl⟩,rfl,rfl⟩;have(y,hy,ry):=ac.get' hj;rw[xn]at hy;have(q,hq,rfl):=we.mp hy;have b0:j<I.length:=(bH.mp hq).1;have aa:I[j]=q:=(bH.mp hq).2;have(qa,u1,u2,rfl,a1,g1,g2):=ry.t2;obtain rfl:=g1.aM;ext;rw[mu b0,aa,i5,i5];rfl
 .rintro J us Hd ⟨_,rfl,rfl⟩ lc hlc;have ec:((I.take a2.length).map (·.1)).map V.str=(I.map (·.1)).map V.str:=by rw[lp,Nr]
  rw[ec];have s3:=ae hlc (.lst ((I.map (·.1)).map V.str));ext
  .exact(Rp.t (cP.of (s3 _ _ ar)) .nil:Rp K _ (.t (([]:List Str).map .s)) _)
  refine#[.inl af,by rw[bM,Qf];omega,λv1 H3 s4 bo=>?_];have az:=s3.trans s4;have s5:=s2.trans az;have bh:=az _ _ bi;clear s3 s4 ab ac ar;ext p1 a6;have W:=ae a6 (.tup [v1,vt]);have D:=W _ _ bh;have aq:upd H3 p1 (.tup [v1,vt]) p1=some (.tup [v1,vt]):=af;have aj:=bo.same W;have s7:=s5.trans W;generalize upd H3 p1 (.tup [v1,vt])=H4 at D aq aj W s7|-;ext v M;have T:=ae M (.lst [.ref p1]);have am:lt≠v:=ay D M
  have ad:H v=none:=by
   cases e:H v with
   |none=>rfl
   |some o=>rw[s7 _ _ e]at M;cases M
  ext;refine#[Ko K H (.ref pa) vt lt v (gj [] (I.map (·.1))) tm,#[tm.size,[],[(gj [] (I.map (·.1)),tm)],[],[.ref p1],none,none,rfl,s7.trans T,T _ _ D,.nil,af,.one (Rp.t (cP.of (T _ _ aq)) (.cons (aj.same T) (.one (ht.same (s7.trans T))))),?_,?_,?_,?_],?_]
  .intro p hp;have hb:=nI (I.map (·.1)) [];rw[bM,Qf]at hb
   cases hp with
   |head=>exact#[wf,by show(gj [] (I.map (·.1))).length+5*tm.size<=900;omega]
   |tail _ h=>cases h
  .simp[GX]
  .simp[rD]
  .simp[rD]
  clear T M aj aq D a6 s7 W H4;rintro m J H' ⟨dn,st,N,us,o1,o2,rfl,sm,h1,r1,h2,r2,as,e1,e2,rfl⟩;have l1:=r1.length;rw[bM]at l1;refine#[_,rfl,_,.inl #[us,bQ.of h2,rfl],?_];rcases Qk st with rfl|⟨st',hd,rfl⟩
  .obtain rfl:=r2.ji;refine Cs rfl ?_;ext;have z:dn=vj (gj [] (I.map (·.1))) tm:=by simpa[GX]using e1
   exact k lt H' N sm ao h1 (by rw[<-z];exact r1)
  .rw[Tn]at *;rw[i5]at r2;have(g,ul,rfl,r3,r4):=r2.split;have(u,q,rfl,ru,rq):=(show bO K H' [II hd] ul from r4).inv;obtain rfl:=rq.ji;have(wh,O):=as hd (by simp);have(B,d):=hd
   replace wh:Wn d:=wh
   replace O:B.length+5*d.size<=900:=O
   have(G,nv,tv,rfl,bm,rn,rt):=(show Rp K H' (.t [.t (B.map .s),enc d]) u from ru).t2
   have hz:dn.length+rD st'+d.size=tm.size:=by
    rw[jm]at e2;simp only[rD]at e2;omega
   have hk:=Ak d;refine LX (by simp) ?_;refine#[λbl b6=>∃m',m' < rD (st'++[(B,d)])/\Ko K H (.ref pa) vt lt v (gj [] (I.map (·.1))) tm m' bl b6,λ_ _ z=>z,?_];have bz:(g++[V.ref G])[(g++[V.ref G]).length-1]?=some (V.ref G):=by simp
   have b4:(g++[V.ref G]).dropLast=g:=List.dropLast_concat;have k3:Kt H' (upd H' v (.lst (g++[V.ref G]).dropLast)):=Kt.lst h2 _;have b3:upd H' v (.lst (g++[V.ref G]).dropLast) lt=some (.lst N):=by rw[au am];exact h1
   have b2:upd H' v (.lst (g++[V.ref G]).dropLast) v=some (.lst (g++[V.ref G]).dropLast):=af;have b8:=bm.kt k3;have ce:N.length<mH:=br ();ext L Z;have k4:Kt (upd H' v (.lst (g++[V.ref G]).dropLast)) (upd (upd H' v (.lst (g++[V.ref G]).dropLast)) L (.tup [nv,tv])):=Kt.same (ae Z _);have be:=ae Z (.tup [nv,tv]) _ _ b3;have ap:=ae Z (.tup [nv,tv]) _ _ b2;have bf:upd (upd H' v (.lst (g++[V.ref G]).dropLast)) L (.tup [nv,tv]) L=some (.tup [nv,tv]):=af
   have ax:aT H (upd (upd H' v (.lst (g++[V.ref G]).dropLast)) L (.tup [nv,tv])):=λb o e=>by
    refine ae Z _ b o ?_;have n2:b≠v:=ay e ad;rw[au n2];exact sm b o e
   have a4:=k3.trans k4;generalize upd (upd H' v (.lst (g++[V.ref G]).dropLast)) L (.tup [nv,tv])=H4 at a4 be ap bf ax|-;rw[b4]at ap;have k5:Kt H4 (upd H4 lt (.lst (N++[V.ref L]))):=Kt.lst be _;have bb:upd H4 lt (.lst (N++[V.ref L])) v=some (.lst g):=by rw[au am.symm];exact ap
   have Y:=a4.trans k5;have bp:=rt.kt Y;have R:=wh.wf;have cm:d.ks.length<=900:=()
   ext p6 H6 av W h6 r6
   have aw:aT H (upd H4 lt (.lst (N++[V.ref L]))):=λb o e=>by
    have n2:b≠lt:=ay e ao;rw[au n2];exact ax b o e
   have bc:upd H4 lt (.lst (N++[V.ref L])) lt=some (.lst (N++[V.ref L])):=af;generalize upd H4 lt (.lst (N++[V.ref L]))=H5 at Y k5 bb bc aw bp W|-;ext;have l6:=r6.length;rw[bM,qN d R]at l6;have bs:=(rn.kt Y).same W;refine kU (K:=K) (a:=p6) (xs:=av) (λi J l Hd=>(∃x y,J=[x,y,some nv])/\aT H6 Hd/\bO K Hd (((right d).take i).map λq=>II (gj B q.1,q.2)) l) #[#[_,_,rfl],aT.refl _,.nil] ?_ (Ot (br ())) ?_ ?_ ?_
   .rintro i J l Hd hi ⟨_,_,r⟩;rw[r.length,bM,I0];omega
   .rintro i J l Hd hi ⟨_,S,_⟩;exact bQ.of (S _ _ h6)
   .rintro i x J l Hd hi ⟨⟨x0,y0,rfl⟩,S,r⟩;have(y,hy,ry):=r6.get' hi;rw[xn]at hy;have(q,hq,rfl):=we.mp hy;have a8:i<(right d).length:=(bH.mp hq).1;have aa:(right d)[i]=q:=(bH.mp hq).2;have bw:q∈right d:=by rw[<-aa];exact NT a8
    have ci:q.1.length<=5:=Bw wh q bw;have(qa,u1,u2,rfl,a1,g1,g2):=(show Rp K H6 (.t [.t (q.1.map .s),enc q.2]) x from ry).t2;have(oa,cd,rfl,bu,bv):=g1.aS;obtain rfl:=bv.pY;have ca:=cP.same S a1;have cb:=cP.same S bu;have cc:=bs.same S;have ch:=Tm.size_pos d;have b7:B.length+5*d.size<=900:=O;have cl:B.length+q.1.length<=900:=()
    ext v7 H7 s7 bn;ext p8 bx;have T:=ae bx (.tup [v7,u2]);have ai:=s7.trans T;ext
    .exact S.trans ai
    rw[mu a8,aa,i5];exact(r.same ai).snoc (Rp.t (cP.of af) (.cons (bn.same T) (.one ((g2.same S).same ai))))
   .rintro J l Hd ⟨_,S,r⟩ p9 hp9;have e9:(right d).take av.length=right d:=by rw[l6,<-qN d R,Nr]
    rw[e9]at r;have s9:=ae hp9 (.lst l);have U:=W.trans (S.trans s9);have l9:=r.length;rw[bM,qN d R]at l9;have a9:=U _ _ bb;have ba:=U _ _ bc;have b1:upd Hd p9 (.lst l) p9=some (.lst l):=af;have r9:=r.same s9;generalize upd Hd p9 (.lst l)=H9 at U a9 ba b1 r9|-;ext
    .rw[xJ,Pj];exact small ()
    rw[xJ];intro al a5;have X:=ae a5 (.lst l.reverse);have ag:=X _ _ a9;have ah:=X _ _ ba;have bg:upd H9 al (.lst l.reverse) al=some (.lst l.reverse):=af;have C:=U.trans X;have a0:=r9.same X;generalize upd H9 al (.lst l.reverse)=H10 at C ag ah bg a0|-;have l3:=r3.length;rw[bM]at l3;have cg:=Aj st';have ck:g.length+l.reverse.length<=mH:=by rw[Pj];exact small ()
    have an:Kt H10 (upd H10 v (.lst (g++l.reverse))):=Kt.lst ag _;have kA:=Y.trans ((Kt.same C).trans an);have kz:=Fy (ns:=B) R;ext
    .exact(show rD st'+rD (rE B d)<rD (st'++[(B,d)]) by rw[jm];have:rD [(B,d)]=d.size:=rfl;omega)
    refine#[dn++[(B,d)],st'++(rE B d).reverse,N++[.ref L],g++l.reverse,_,_,rfl,?_,?_,?_,af,?_,?_,?_,?_,?_]
    .intro b o e;have n2:b≠v:=ay e ad;rw[au n2];exact C b o (aw b o e)
    .rw[au am];exact ah
    .rw[i5];exact(r1.kt kA).snoc (Rp.t ((cP.of bf).kt (k5.trans ((Kt.same C).trans an))) (.cons (rn.kt kA) (.one (rt.kt kA))))
    .rw[i5,UL];refine(r3.kt kA).append ?_;have b5:(rE B d).map II=(right d).map λq=>II (gj B q.1,q.2):=by unfold rE;rw[Oa];rfl
     rw[b5];exact(a0.kt an).reverse
    .intro p hp;rcases L0.mp hp with h|h
     .exact as p (NK _ h)
     .exact An wh O p (List.mem_reverse.mp h)
    .rw[T4,List.reverse_reverse];have bj:dn++GX (st'++[(B,d)]).reverse=vj (gj [] (I.map (·.1))) tm:=e1;rw[T4]at bj;rw[<-bj];simp only[GX,NU,PY,List.reverse_nil,PM,OY,SR,NF,Od,Qv];rw[Dk];simp[GX]
    .rw[i4,jm,wI];have:[(B,d)].length=1:=rfl;omega
    .rw[jm,wI]
end G14
namespace G14
open PySem L2
def Un(xs:List Str):Prop:=∀(i j:Nat) (x:Str),xs[i]?=some x->xs[j]?=some x->i=j
noncomputable def lets:List Nat:=(Oi "abcdefghijklmnopqrstuvwxyz").cps.toList
theorem Fz :∀i<26,∀j<26,lets[i]?=lets[j]?->i=j:=by decide
theorem Dl :lets.length=26:=by decide
def uv(e:List Nat)(d:Int)(i:Nat)(x:Str):Prop:=∃c r,eK lets ((d+7*(i:Int)) % 26)=some c/\x.cps.toList=e++c::r
theorem uv.un (hi:i<26)(y:j<26)(a:uv g d i x)(b:uv g d j x):i=j:=by
 have(c,r,p,t):=a;have(B,v,o,m):=b;rw[t]at m;have e:=List.append_cancel_left m;injection e with e _;subst e
 have f:∀n:Int,0<=n->n<26->eK lets n=lets[n.toNat]?:=λn z h=>by
  have l:n.toNat<lets.length:=by rw[Dl];omega
  have u:n=((n.toNat:Nat):Int):=()
  have q:eK lets ((n.toNat:Nat):Int)=some lets[n.toNat]:=aH (my l);rw[<-u]at q;rw[q,my l]
 rw[f _ () ()]at p o;have:=Fz _ () _ () (p.trans o.symm);omega
theorem uv.snoc (a:uv e d i x)(y:Str):uv e d i (x++y):=by
 have(c,r,j,g):=a;refine#[c,r++y.cps.toList,j,?_];show(x.cps++y.cps).toList=_;rw[RQ,g];simp
theorem uv.M0 (m:xs.length<=26)(h:∀j x,xs[j]?=some x->uv e d j x):Un xs:=λi j x l g=>by
 have:=(bH.mp l).1;have:=(bH.mp g).1;exact uv.un () () (h i x l) (h j x g)
theorem uv.last (I:(xs++[g,t]).length<=26)(M:0<y.length)(h:∀j x,(xs++[g,t])[j]?=some x->uv l d j x):Un (xs++[g,g++y]):=by
 have H:xs.length+2<=26:=by simpa using I
 have L:uv l d xs.length g:=h xs.length g (by simp);have v:uv l d xs.length (g++y):=L.snoc y
 have u:g++y≠g:=λz=>by
  have:=congrArg S4 z;rw[Ry]at this;omega
 have m:∀j x,j<xs.length+1->(xs++[g,g++y])[j]?=some x->uv l d j x:=λj x N e=>by
  refine h j x ?_
  by_cases c:j<xs.length
  .rw[N9 c]at e|-;exact e
  .have:j=xs.length:=()
   subst this;simp at e|-;exact e
 intro i j x p o;have G:=(bH.mp p).1;have D:=(bH.mp o).1;have C:(xs++[g,g++y]).length=xs.length+2:=by simp
 rw[C]at G D
 have lst:∀k x,k=xs.length+1->(xs++[g,g++y])[k]?=some x->x=g++y:=λk x J e=>by
  subst J;rw[NR ()]at e;simp at e;exact e.symm
 by_cases B:i<xs.length+1
 .by_cases r:j<xs.length+1
  .exact uv.un () () (m i x B p) (m j x r o)
  .have q:=lst j x () o;subst q;have:=uv.un () () (m i _ B p) v;subst this;exact absurd (by simpa using p) u.symm
 .by_cases r:j<xs.length+1
  .have q:=lst i x () p;subst q;have:=uv.un () () (m j _ r o) v;subst this;exact absurd (by simpa using o) u.symm
  .omega
def Lo(x:Str):Prop:=∀c∈x.cps.toList,c<1000
theorem Lo.append (a:Lo x)(b:Lo y):Lo (x++y):=λc h=>by
 have d:c∈(x.cps++y.cps).toList:=h;rw[RQ]at d;rcases L0.mp d with h|h
 .exact a c h
 .exact b c h
theorem Lo.slice (a:Lo x)(l u:Option Int):Lo (O8 x l u):=λc h=>by
 unfold O8 at h
 split at h
 .exact a c h
 .rw[List.toList_toArray]at h;have(i,_,e):=R0.mp h;refine a c ?_;rw[RB];exact Array.mem_of_getElem? e
theorem Ao :∀c∈lets,c<1000:=by decide
theorem Lo.one (h:c∈lets):Lo ⟨#[c]⟩:=λd hd=>by
 have:d=c:=by simpa using hd
 rw[this];exact Ao c h
theorem Lo.q (b:Bool):Lo (Ss "q" (if b then 1 else 0)):=by
 have h:∀b:Bool,((Ss "q" (if b then 1 else 0)).cps.toList.all (· < 1000))=true:=by decide
 intro c d;have:=NS.mp (h b) c d
 simpa using this
theorem Lo.q1 :Lo (Oi "q"):=by
 have h:((Oi "q").cps.toList.all (· < 1000))=true:=by decide
 intro c d;have:=NS.mp h c d
 simpa using this
def Aq:Sp:=λg H Q _=>∃(f:Addr) (m:Nat),g=[.ref f,.int m]/\1<=m/\m<=26/\cM H f /\
 ∀(r:Addr) (e:Hp) (d:List Str),Ext f H e->H r=none->e r=some (.lst (d.map V.str))->d.length=m->(∀x∈d,x.length<=20/\Lo x)->Un d->Q (.ref r) e
theorem Ext.free (e:Ext f H d)(h:d l=none):H l=none:=by
 cases q:H l with
 |none=>rfl
 |some o =>
  by_cases n:l=f
  .subst n;have(a,b,z):=e.2;rw[h]at z;cases z
  .rw[e.1 l o n q]at h;cases h
structure Kp(P:IF) (w:Nn) (K:bN) (mg:Str->Option eF) (base:Heap) (C:Addr) (m:Str) (k:Nat) (ps:List Str) (sp:Sp) (f:Addr) (fd:L1):Prop where
 ok:cA P w K mg base gy k f fd ps sp
 m:Meth K C m f
 bd:Binds K fd ps []
 c:GF K C
abbrev Df:=Str×List (Str×Kk)×Tm
def Wo(x:Str):Prop:=x.length<=20/\Lo x
def HW:Hd->Prop
 |.name x=>Wo x
 |.tag t=>Wo t
 |.call f=>Wo f
 |.mat arms=>∀a∈arms,Wo a.1/\∀x∈a.2,Wo x
 |.fold x _=>Wo x
 |_=>True
inductive Ta:Tm->Prop
 |mk {h:Hd}{ks:List Tm}:tW h->HW h->(∀k∈ks,Ta k)->Ta (.mk h ks)
def Kq(d:Df):Prop:=Wn d.2.2/\Ta d.2.2/\d.2.2.size<=80/\d.2.1.length<=10
noncomputable def jB(kl:Kl):List (Str×Nat)->List Int->List Int->List Df->Option Flt
 |_,_,_,[]=>none
 |ds,gs,os,d::r=>if d.1∈ds.map (·.1)then some (.tw,d.1)else match cX (kl.map (·.1)) [] os d.2.1 with
  |.error f=>some f
  |.ok os'=>match iN kl ds gs (vj (gj [] (d.2.1.map (·.1))) d.2.2)with
   |.error f=>some f
   |.ok gs'=>jB kl (ds++[(d.1,d.2.1.length)]) gs' os' r
theorem vy {kl:Kl}{ds:List (Str×Nat)}{gs g:List Int}{dl:List Df}{i:Nat}{d:Df}(h:dl[i]?=some d):jB kl ds gs g (dl.drop i)=if d.1∈ds.map (·.1)then some (.tw,d.1)else match cX (kl.map (·.1)) [] g d.2.1 with
  |.error f=>some f
  |.ok os'=>match iN kl ds gs (vj (gj [] (d.2.1.map (·.1))) d.2.2)with
   |.error f=>some f
   |.ok gs'=>jB kl (ds++[(d.1,d.2.1.length)]) gs' os' (dl.drop (i+1)):=by
 have e:=(bH.mp h).1;have j:dl.drop i=d::dl.drop (i+1):=by rw[NJ e,(bH.mp h).2]
 rw[j];rfl
noncomputable def cy(kl:Kl)(dl:List Df):Option Flt:=match cO [] [] kl with
 |some f=>some f
 |none=>jB kl [] [] [] dl
theorem By {kl:Kl}{ds:List (Str×Nat)}{gs:List Int}{ps:List (List Str×Tm)}{i:Nat}{p:List Str×Tm}(h:ps[i]?=some p):iN kl ds gs (ps.drop i)=match eO kl ds gs p.1 p.2.hd p.2.ks.length with
  |.error f=>.error f
  |.ok gs'=>iN kl ds gs' (ps.drop (i+1)):=by
 have d:=(bH.mp h).1;have e:ps.drop i=p::ps.drop (i+1):=by rw[NJ d,(bH.mp h).2]
 rw[e];rfl
theorem yk (e:eO kl ds gs ns h n=.ok j):j.length<=gs.length+1:=by
 have same:∀{g:List Int},(Except.ok (ε:=Flt) gs)=.ok g->g.length<=gs.length+1:=λ{g} q=>by cases q;exact OC _
 cases h with
 |name x =>
  have e:(if x∈ns then Except.ok gs else .error (Er.nn,x))=.ok j:=e
  by_cases c:x∈ns
  .rw[if_pos c]at e;exact same e
  .rw[if_neg c]at e;cases e
 |tag t =>
  have e:(match jJ kl t with
   |none=>Except.error (Er.nn,t)
   |some y=>if n=y.2.2.length then Except.ok gs else .error (.wr,t))=.ok j:=e
  cases q:jJ kl t with
  |none=>rw[q]at e;cases e
  |some y =>
   rw[q]at e;have e:(if n=y.2.2.length then Except.ok gs else .error (Er.wr,t))=.ok j:=e
   by_cases c:n=y.2.2.length
   .rw[if_pos c]at e;exact same e
   .rw[if_neg c]at e;cases e
 |call t =>
  have e:(match ds.find? (λd=>decide (d.1=t))with
   |none=>Except.error (Er.nn,t)
   |some y=>if n=y.2 then Except.ok gs else .error (.wr,t))=.ok j:=e
  cases q:ds.find? (λd=>decide (d.1=t))with
  |none=>rw[q]at e;cases e
  |some y =>
   rw[q]at e;have e:(if n=y.2 then Except.ok gs else .error (Er.wr,t))=.ok j:=e
   by_cases c:n=y.2
   .rw[if_pos c]at e;exact same e
   .rw[if_neg c]at e;cases e
 |mat arms =>
  have e:(match gx kl arms with
   |some f=>Except.error f
   |none=>Except.ok gs)=.ok j:=e
  cases q:gx kl arms with
  |none=>rw[q]at e;exact same e
  |some y=>rw[q]at e;cases e
 |fold x y =>
  have e:(if x=y then .error (Er.tw,x)else Except.ok gs)=.ok j:=e
  by_cases c:x=y
  .rw[if_pos c]at e;cases e
  .rw[if_neg c]at e;exact same e
 |gap m =>
  have e:(if m∈gs then .error (Er.tw,("?":Str))else Except.ok (gs++[m]))=.ok j:=e
  by_cases c:m∈gs
  .rw[if_pos c]at e;cases e
  .rw[if_neg c]at e
   cases e
   rw[i4];exact lj _
 |num _=>exact same e
 |op _=>exact same e
 |row=>exact same e
 |more=>exact same e
 |first=>exact same e
 |others=>exact same e
 |long=>exact same e
 |ife=>exact same e
 |lt _=>exact same e
def LM(p:List Str×Tm):Prop:=fc p.2.hd p.2.ks.length=true/\tW p.2.hd/\p.2.size<=80/\p.1.length+5*p.2.size<=900
theorem FA :Wn d->Ta d->d.size<=80->∀ns:List Str,ns.length+5*d.size<=900->∀p∈vj ns d,LM p:=by
 refine Tm.induct (P:=λd=>Wn d->Ta d->d.size<=80->∀ns:List Str,ns.length+5*d.size<=900->∀p∈vj ns d,LM p) (λh ks o w t g ns l p hp=>?_) d;rw[Dk]at hp;rcases Nc.mp hp with rfl|hp
 .cases w with
  |mk a b c =>
   cases t with
   |mk x _ y=>exact#[a,x,g,l]
 .have(q,j,hp):=Px.mp hp;have(m,l2):=An w l q j;have(z,r,rfl):=NI.mp j;have e:z.2∈ks:=(Pe (show z∈(bnd h ks.length).zip ks from r)).2
  cases t with
  |mk x _ y =>
   have:=nV e;rw[Tm.ik]at g;exact o _ e m (y _ e) () _ l2 p hp
theorem FE (ns:List Str)(d:Tm)(w:Wn d):(vj ns d).length=d.size:=by
 revert ns
 refine Tm.induct (P:=λd=>Wn d->∀ns,(vj ns d).length=d.size) (λh ks p w ns=>?_) d w
 have g:∀(bs:List (List Str)) (l:List Tm),bs.length=l.length->(∀k∈l,k∈ks)->(∀k∈l,Wn k)->(qo ns bs l).length=Tm.sizes l:=by
  intro bs
  induction bs with
  |nil=>intro l e _ _;obtain rfl:l=[]:=P6.mp e.symm;unfold qo;rfl
  |cons b bs ihb =>
   intro l e o m
   cases l with
   |nil=>cases e
   |cons k l =>
    unfold qo;rw[i4,p k (o k (.head _)) (m k (.head _)),ihb l (by simpa using e) (λx j=>o x (.tail _ j)) (λx j=>m x (.tail _ j)),Tm.eB]
 cases w with
 |mk a b c =>
  unfold vj;rw[Nv,Tm.ik,g _ ks ?_ (λ_ h=>h) c]
  cases h<;>simp_all[bnd,fc]
mutual
noncomputable def uD(kl:Kl)(ds:List (Str×Nat)):List Int->List Str->Tm->Except Flt (List Int)
 |gs,ns,.mk h ks=>match eO kl ds gs ns h ks.length with
  |.error f=>.error f
  |.ok gs'=>jF kl ds gs' ns (bnd h ks.length) ks
noncomputable def jF(kl:Kl)(ds:List (Str×Nat)):List Int->List Str->List (List Str)->List Tm->Except Flt (List Int)
 |gs,ns,b::bs,k::ks=>match uD kl ds gs (ns++b) k with
  |.error f=>.error f
  |.ok gs'=>jF kl ds gs' ns bs ks
 |gs,_,_,_=>.ok gs
end
theorem uc (kl:Kl)(ds:List (Str×Nat))(gs:List Int)(ns:List Str)(h:Hd)(ks:List Tm):uD kl ds gs ns (.mk h ks)=match eO kl ds gs ns h ks.length with
  |.error f=>.error f
  |.ok gs'=>jF kl ds gs' ns (bnd h ks.length) ks:=by unfold uD;rfl
theorem jn (kl:Kl)(ds:List (Str×Nat))(gs:List Int)(ns b:List Str)(bs:List (List Str))(k:Tm)(ks:List Tm):jF kl ds gs ns (b::bs) (k::ks)=match uD kl ds gs (ns++b) k with
  |.error f=>.error f
  |.ok gs'=>jF kl ds gs' ns bs ks:=by
 conv=>lhs;unfold jF
theorem j5 (kl:Kl)(ds:List (Str×Nat))(gs:List Int)(ns:List Str)(bs:List (List Str)):jF kl ds gs ns bs []=.ok gs:=by
 unfold jF
 cases bs<;>rfl
theorem Dm {kl:Kl}{ds:List (Str×Nat)}{gs:List Int}{ns:List Str}{bs:List (List Str)}{ks:List Tm}{i:Nat}{b:List Str}{k:Tm}(e:bs[i]?=some b)(d:ks[i]?=some k):jF kl ds gs ns (bs.drop i) (ks.drop i)=match uD kl ds gs (ns++b) k with
  |.error f=>.error f
  |.ok gs'=>jF kl ds gs' ns (bs.drop (i+1)) (ks.drop (i+1)):=by
 have j:bs.drop i=b::bs.drop (i+1):=by rw[NJ (bH.mp e).1,(bH.mp e).2]
 have g:ks.drop i=k::ks.drop (i+1):=by rw[NJ (bH.mp d).1,(bH.mp d).2]
 rw[j,g,jn]
theorem yl (kl:Kl)(ds:List (Str×Nat)):∀(a b:List (List Str×Tm)) (gs:List Int),iN kl ds gs (a++b)=match iN kl ds gs a with
  |.error f=>.error f
  |.ok gs'=>iN kl ds gs' b
 | [],b,gs=>rfl
 |p::r,b,gs=>by
  show(match eO kl ds gs p.1 p.2.hd p.2.ks.length with
   |.error f=>Except.error f
   |.ok gs'=>iN kl ds gs' (r++b))=match(match eO kl ds gs p.1 p.2.hd p.2.ks.length with
   |.error f=>Except.error f
   |.ok gs'=>iN kl ds gs' r)with
   |.error f=>Except.error f
   |.ok gs'=>iN kl ds gs' b
  cases eO kl ds gs p.1 p.2.hd p.2.ks.length with
  |error f=>rfl
  |ok gs'=>exact yl kl ds r b gs'
theorem Dn :x∈qm ns o↔x∈ns\/x=o:=by
 unfold qm;rw[L0,Td,EF];constructor
 .rintro(⟨h,_⟩|h)
  .exact .inl h
  .exact .inr h
 .rintro(h|h)
  .by_cases c:x=o
   .exact .inr c
   .exact .inl #[h,decide_eq_true c]
  .exact .inr h
theorem ud :∀{d ns:List Str}{x:Str},x∈gj ns d↔x∈ns\/x∈d
 | [],ns,x=>by
  show x∈ns↔_;exact#[.inl,λh=>h.elim id nofun]
 |o::r,ns,x=>by
  show x∈gj (qm ns o) r↔_;rw[ud,Dn,Nc,or_assoc]
theorem BA (e:∀x,x∈ns↔x∈d):eO kl ds gs ns h n=eO kl ds gs d h n:=by
 cases h with
 |name x =>
  show(if x∈ns then Except.ok gs else .error (Er.nn,x))=if x∈d then Except.ok gs else .error (Er.nn,x)
  by_cases c:x∈ns
  .rw[if_pos c,if_pos ((e x).mp c)]
  .rw[if_neg c,if_neg (λz=>c ((e x).mpr z))]
 |_=>rfl
theorem IK (g:Tm):∀(gs:List Int) (ns d:List Str),(∀x,x∈ns↔x∈d)->iN kl ds gs (vj ns g)=uD kl ds gs d g:=by
 refine Tm.induct (P:=λg=>∀(gs:List Int) (ns d:List Str),(∀x,x∈ns↔x∈d)->iN kl ds gs (vj ns g)=uD kl ds gs d g) (λh ks o gs ns d e=>?_) g
 have j:∀(l:List Tm),(∀k∈l,k∈ks)->∀(bs:List (List Str)) (gs:List Int),iN kl ds gs (qo ns bs l)=jF kl ds gs d bs l:=by
  intro l
  induction l with
  |nil=>intro _ bs gs;rw[j5];cases bs<;>(unfold qo;rfl)
  |cons k r ihl =>
   intro m bs gs
   cases bs with
   |nil=>unfold qo jF;rfl
   |cons b bs =>
    unfold qo;rw[yl,jn,o k (m k (.head _)) gs (gj ns b) (d++b) (λx=>by rw[ud,L0,e x])]
    cases uD kl ds gs (d++b) k with
    |error f=>rfl
    |ok gs'=>exact ihl (λx p=>m x (.tail _ p)) bs gs'
 rw[uc];unfold vj
 show(match eO kl ds gs ns h ks.length with
   |.error f=>Except.error f
   |.ok gs'=>iN kl ds gs' (qo ns (bnd h ks.length) ks))=_
 rw[BA e]
 cases eO kl ds gs d h ks.length with
 |error f=>rfl
 |ok gs'=>exact j ks (λ_ h=>h) _ gs'
noncomputable def nK(S:mC)(H:Hp)(ns:List Str)(bs:List (List Str))(vs:List V):Prop:=vs.length=bs.length/\∀(i:Nat) (b:List Str),bs[i]?=some b->∃a,vs[i]?=some (.ref a)/\(a≠S.lg/\a≠S.lo)/\H a=some (.lst ((ns++b).map V.str))
theorem FF (d:H a=some (.lst (ns.map V.str)))(e:a≠S.lg/\a≠S.lo):nK S H ns (Ng m []) (Ng m (.ref a)):=by
 refine#[by rw[OQ,OQ],λi b g=>?_];have j:i<m:=by have:=(bH.mp g).1;rwa [OQ]at this
 have l:b=[]:=(Um.mp (Nf g)).2;subst l;exact#[a,by rw[P4,if_pos j],e,by rw[NF];exact d]
theorem wJ :nK S H ns [] []:=#[rfl,λi b d=>by simp at d]
theorem kZ (n:a≠S.lg/\a≠S.lo)(h:H a=some (.lst ((ns++b).map V.str)))(o:nK S H ns bs vs):nK S H ns (b::bs) (.ref a::vs):=by
 refine#[by rw[Nv,Nv,o.1],λi c d=>?_]
 cases i with
 |zero =>
  obtain rfl:b=c:=by simpa using d
  exact#[a,rfl,n,h]
 |succ i=>rw[List.getElem?_cons_succ]at d|-;exact o.2 i c d
theorem nK.same (o:nK S H ns bs vs)(s:aT H H'):nK S H' ns bs vs:=#[o.1,λi b d=>by
 have(a,j,g,e):=o.2 i b d;exact#[a,j,g,s _ _ e]]
theorem Dp (o:nK S H ns bs vs)(n:a≠S.lg/\a≠S.lo)(h:H a=some (.lst ((ns++b).map V.str))):nK S H ns (bs++[b]) (vs++[.ref a]):=by
 refine#[by rw[i4,i4,o.1];rfl,λi c d=>?_]
 by_cases g:i<bs.length
 .rw[N9 g]at d;rw[N9 (by rw[o.1];exact g)];exact o.2 i c d
 .rw[NR ()]at d
  have e:i-bs.length=0:=by
   have:=(bH.mp d).1;rw[Rj]at this;omega
  rw[e]at d;obtain rfl:b=c:=by simpa using d
  refine#[a,?_,n,h];rw[NR (by rw[o.1];omega),o.1,e];rfl
theorem eG.ym (h:eG m S j tg ds gs g H)(x:iA S H d)(e:H a=some (.lst xs))(n:a≠S.lg/\a≠S.lo):d a=some (.lst xs):=by
 have(o,t1,_):=h.ht;have(p,l,_):=h.hd;exact x a _ (λq=>by rw[q,h.hk]at e;cases e) (λq=>by rw[q,t1]at e;cases e) (λq=>by rw[q,l]at e;cases e) n.2 n.1 e
noncomputable def ue(K:bN)(n:Nat):Sp:=λy H Q _=>∃(r:Hp) (S:mC) (v:V) (d q:Addr) (g:Kl) (o:List (Str×Nat)) (m u:List Int) (e:Tm) (p:List Str),y=[.ref d,v,.ref q]/\eG r S g (rB g) o m u H/\S.d=d/\Rp K H (enc e) v/\Wn e/\Ta e/\e.depth<n/\e.size<=80/\H q=some (.lst (p.map V.str))/\(q≠S.lg/\q≠S.lo)/\p.length+5*e.size<=900/\m.length+e.size<=900/\wV g/\(jc g).Nodup /\
 (∀f,uD g o m p e=.error f->∀t j,rQ r S o.length j->iA S H j->mK j (some f) t->Q t j)/\(∀l,uD g o m p e=.ok l->∀j,eG r S g (rB g) o l u j->iA S H j->l.length<=m.length+e.size->Q .eN j)
structure L8(H0:Hp) (S:mC) (kl:Kl) (ds:List (Str×Nat)) (gs gs' os:List Int) (ns:List Str) (bs:List (List Str)) (ks:List Tm) (i:Nat) (H H2:Hp):Prop where
 k:eG H0 S kl (rB kl) ds gs' os H2
 t:iA S H H2
 e:jF kl ds gs ns bs ks=jF kl ds gs' ns (bs.drop i) (ks.drop i)
 l:gs'.length+Tm.sizes (ks.drop i)<=gs.length+Tm.sizes ks
end G14
namespace G14
open PySem L2
def qp(K:bN):Sp:=λj H Q _=>∃(v:V) (d:Tm),j=[v]/\Rp K H (enc d) v/\Wf d/\d.size<=900 /\
 ∀(p:Addr) (e:Hp) (g:List V),aT H e->H p=none->e p=some (.lst g)->bO K e (d.ks.map enc) g->Q (.ref p) e
theorem Dq (xs:List V)(j:Nat):ju xs (some (j:Int)) none=xs.drop j:=by
 unfold ju;rw[HT.j9,HT.sD];rcases Uv j xs.length with h|h
 .rw[PN h,Ol (by rw[N7];omega)]
 .rw[SS h,Qa h,Qa (lj _)];simp
theorem FG (xs:List V)(j:Nat)(e:1<=j)(d:1<=xs.length):¬(HT.ir xs.length 0 (some (j:Int))=0/\HT.ir xs.length xs.length none=xs.length):=λz=>by
 have:=z.1;rw[HT.j9]at this;omega
theorem yn (J:arms.length=ks.length)(L:cP K H0 u vs)(hr:bO K H0 (Oj oS arms ks) vs)(B:ks.length<=1000)(k:∀(p:Addr) (q:List V),H0 p=none->bO K H0 ks q->Q (.ref p) (upd H0 p (.lst q))):
  mw (zE K u) (Ej K 3 (su (iF 0) (su (iF 1) (su (iF 2) Hs)))) uS (mO 2) Q [none,none,none] H0:=by
 have l:=hr.length;rw[OD,J,Ra]at l;refine gb (xs:=vs) (λi g e m=>(∃x y z,g=[x,y,z])/\m=H0/\bO K H0 (ks.take i) e) #[#[none,none,none,rfl],rfl,.nil] ?_ (small ()) ?_ ?_ ?_
 .rintro i g e m C ⟨_,_,r⟩;rw[r.length,I0];omega
 .rintro i g e m C ⟨_,rfl,_⟩;exact L
 .rintro i x g e m hx ⟨⟨R,O,N,rfl⟩,rfl,r⟩;have(y,v,G):=hr.get' hx;have C:i<vs.length:=(bH.mp hx).1;have o:i<arms.length:=()
  have j:i<ks.length:=()
  rw[Rl,my o,my j]at v
  cases v
  have(I,H,rfl,D,d):=(show Rp K _ (.t [_,_,_]) x from G).aS;have(t1,q1,rfl,X,d):=d.inv;have(t2,U,rfl,W,d):=d.inv;have(t3,S,rfl,M,d):=d.inv;obtain rfl:=d.ji;refine#[I,_,rfl,D,rfl,_,_,rfl,_,_,rfl,_,_,rfl,rfl,?_];refine#[_,rfl,#[_,_,_,rfl],rfl,?_];rw[mu j];exact r.snoc M
 .rintro g e m ⟨_,rfl,r⟩ p hp;rw[Ol ()]at r;exact k p e hp r
theorem FH (xs:List d)(y:d):eK (xs++[y]) (-1)=some y:=by
 unfold eK vL;rw[if_neg (by decide),if_pos (by rw[i4];simp;omega),Pu,show(-1+(((xs++[y]).length:Nat):Int)).toNat=xs.length by rw[i4];simp;omega];simp
theorem FI (o:fc hd ks.length=true):∃e rest,sJ hd (ks.map enc)=.t (.s e::rest) /\
  (nR (.str e) [.str "row",.str "tag",.str "call"]=true->∃d,rest=d++[.t (ks.map enc)])/\(decide (V.str e=.str "match")=true->∃arms,hd=.mat arms) /\
  (decide (V.str e=.str "fold")=true->∃x y,hd=.fold x y)/\(nR (.str e) [.str "num",.str "name",.str "gap"]=true->ks=[]) /\
  (¬nR (.str e) [.str "row",.str "tag",.str "call"]=true->¬decide (V.str e=.str "match")=true->¬decide (V.str e=.str "fold")=true->¬nR (.str e) [.str "num",.str "name",.str "gap"]=true ->
   ∃d,rest=d++ks.map enc/\(d.length=0/\nR (.str e) [.str "op",.str "let"]=false\/d.length=1/\nR (.str e) [.str "op",.str "let"]=true)):=by
 cases hd<;>refine#[_,_,rfl,λc=>?_,λc=>?_,λc=>?_,λc=>?_,λm l j g=>?_]
 all_goals first
  |exact absurd c (by decide)
  |exact absurd (by decide) m
  |exact absurd (by decide) l
  |exact absurd (by decide) j
  |exact absurd (by decide) g
  |exact#[[],rfl]
  |exact#[[_],rfl]
  |exact#[_,rfl]
  |exact#[_,_,rfl]
  |exact#[[],rfl,.inl #[rfl,by decide]]
  |exact#[[_],rfl,.inr #[rfl,by decide]]
  |simpa[fc]using o
theorem cS :Nm VX (ak jY):=by decide
theorem yo :aZ VX VX (ak jY):=by ac_rfl
theorem BB (F:jq K "_law_within" "_law_within" jY f fd)(r:mg "list"=none)(M:mg "int"=none):cA P w K mg base gy 1 f fd VX (qp K):=by
 refine F.ok yo (λvs H Q E h=>?_) (λcdv A outer s H vs Q E hr h=>?_)
 .have(v,tm,rfl,_):=h;rfl
 have(v,tm,rfl,hv,wf,aa,k):=h;refine#[_,(Z5 (Zb (Zh gq (Z8 aP (va cS 0)) (Zl (Z1 aG (c8 aG (Zc aG)))) (by with_unfolding_all rfl)) (Zd (Zu (Z7 iS r O1 (Z1 (iI aP (va cS 0) (pH lE aC) (λ_ _=>rfl)) aA))))) (Z5 (Zb (Zh bV (Z8 aP (va cS 0)) aG (bI _)) (Zd (Zu (Zm iT (Zt (Z1 (Z8 aP (va cS 0)) aA)) (Zf (ak jY) VX Vi [] (@cz _ _ _ _ (Z8 aP (va cS 0))) (λ_ _ _ _=>(Z9 (3) (Ze (Z3 (i:=0) (show(Vi:List Str).Nodup by decide)) (Ze (Z3 (i:=1) (show(Vi:List Str).Nodup by decide)) (Zs (Z3 (i:=2) (show(Vi:List Str).Nodup by decide))))))) (λ_ _ _ _=>(va (show Nm Vi _ by left) 2))))))) (Z5 (Zb (Zh bV (Z8 aP (va cS 0)) aG (bI _)) (Zd (Zu (Zt (Z1 (Z8 aP (va cS 0)) (Z1 (Z8 aP (va cS 0)) (Z1 (Z8 aP (va cS 0)) aA))))))) (Z5 (Zb (Zh gq (Z8 aP (va cS 0)) (Zl (Z1 aG (c8 aG (Zc aG)))) (by with_unfolding_all rfl)) (Zd (cG (dB aA)))) (Zd (Zu (Z7 iS r O1 (Z1 (@dX _ _ _ _ _ _ _ _ _ _ vJ (va cS 0) (@dj _ _ _ (Zm dR aC (Z7 iH M OF (Z1 (@jo _ _ _ _ _ _ _ _ gq (Z8 aP (va cS 0)) (Zl (c8 aG (Zc aG))) (by with_unfolding_all rfl)) aA)))) eY) aA)))))))),?_]
 right
 cases wf with
 |mk ar wk =>
 rename_i hd ks
 have wf:Wf (.mk hd ks):=.mk ar wk;rw[cY]at hv;have C:ks.length<900:=Ni (Ak (.mk hd ks)) aa;have nE:(ks.map enc).length=ks.length:=bM _;have S0:∀(p:Addr) (o:HO) (H:Hp),H p=none->aT H (upd H p o):=λp o H h=>ae h o;have(L,rest,he,h1,h2,h3,h4,h5):=FI ar;rw[he]at hv;have(a,vs,rfl,hS,hr):=hv.aS;have(v0,wr,rfl,e0,hq):=hr.inv;obtain rfl:=e0.aM;refine tJ ?_;intro N1 N2 N3 N4 d1 d2 d3 d4;refine#[_,rfl,a,_,0,_,rfl,rfl,hS,aH (j:=0) rfl,(by show 3<=mH;decide),λp1 ag=>#[p1,_,rfl,.inr (cP.of af),rfl,rfl,_,rfl,?_]];have D:=S0 p1 (.tup [.str "row",.str "tag",.str "call"]) H ag;generalize upd H p1 (.tup [.str "row",.str "tag",.str "call"])=H1 at D|-;have g:=hS.same D;have f1:∀{l},H1 l=none->H l=none:=D.free;refine bW (λc1=>?_) (λc1=>?_)
 .have(N,rfl):=h1 c1;have(t,u,rfl,ai,q):=bO.split hq;have(vb,_,rfl,eb,m):=q.inv;obtain rfl:=m.ji;have(b,u,rfl,J,O):=eb.aS;refine#[_,rfl,_,rfl,a,_,-1,_,rfl,rfl,g,FH (V.str L::t) (V.ref b),b,_,rfl,.inr (J.same D),λl U=>?_];exact k l _ u (D.trans (ae U _)) (f1 U) af (O.same (D.trans (ae U _)))
 refine d1 _ _ ?_;refine#[_,rfl,a,_,0,_,rfl,rfl,g,aH (j:=0) rfl,rfl,_,rfl,?_];refine bW (λc2=>?_) (λc2=>?_)
 .have(arms,rfl):=h2 c2;have W:ks.length=arms.length+1:=by simpa[fc]using ar
  match ks,W with
  |k0::kr,W =>
  have ah:arms.length=kr.length:=by simpa using W.symm
  unfold sJ at he
  cases he
  have(S,q1,rfl,e1,q):=bO.inv hq;have(v2,q2,rfl,e2,m):=bO.inv q;obtain rfl:=m.ji;have(b,u,rfl,J,O):=e2.aS;refine#[_,rfl,a,_,1,_,rfl,rfl,g,rfl,(by show 1<=mH;decide),λG B=>?_];have d:=D.trans (ae B (.lst [S]));refine#[_,rfl,a,_,2,_,rfl,rfl,hS.same d,rfl,b,rfl,#[_,J.same d],?_];refine yn (arms:=arms) (ks:=kr.map enc) (by rw[bM];exact ah) (J.same d) (by exact O.same d) (by rw[bM];have:=C;simp at this;omega) λp t T r4=>?_;have z2:upd (upd H1 G (.lst [S])) p (.lst t) G=some (.lst [S]):=(ae T _) _ _ af;have l4:=r4.length;rw[bM]at l4;refine#[G,p,_,_,rfl,rfl,z2,af,small (by have:=C;simp at this;show 1+_<=1000;omega),λp5 R=>?_];have Y:=d.trans ((ae T (.lst t)).trans (ae R (.lst ([S]++t))));refine k p5 _ _ Y ((d.trans (ae T (.lst t))).free R) af ?_;exact .cons (e1.same Y) (r4.same ((ae T _).trans (ae R _)))
 refine d2 _ _ ?_;refine#[_,rfl,a,_,0,_,rfl,rfl,g,aH (j:=0) rfl,rfl,_,rfl,?_];refine bW (λc3=>?_) (λc3=>?_)
 .have(x,y,rfl):=h3 c3;have W:ks.length=3:=by simpa[fc]using ar
  match ks,W with
  | [k0,k1,k2],W =>
  unfold sJ at he
  cases he
  have(S,q1,rfl,e1,q):=bO.inv hq;have(v2,q2,rfl,e2,m):=bO.inv q;have(v3,q3,rfl,e3,ad):=bO.inv m;have(v4,q4,rfl,e4,ac):=bO.inv ad;have(v5,q5,rfl,e5,ab):=bO.inv ac;obtain rfl:=ab.ji;refine#[_,rfl,a,_,1,_,rfl,rfl,g,rfl,_,rfl,a,_,4,_,rfl,rfl,g,rfl,_,rfl,a,_,5,_,rfl,rfl,g,rfl,(by show 3<=mH;decide),λG B=>?_];have d:=D.trans (ae B (.lst [S,v4,v5]));exact k G _ _ d (f1 B) af (.cons (e1.same d) (.cons (e4.same d) (.one (e5.same d))))
 refine d3 _ _ ?_;refine#[_,rfl,a,_,0,_,rfl,rfl,g,aH (j:=0) rfl,(by show 3<=mH;decide),λG B=>#[G,_,rfl,.inr (cP.of af),rfl,rfl,_,rfl,?_]];have d:=D.trans (S0 G (.tup [.str "num",.str "name",.str "gap"]) _ B);generalize upd H1 G (.tup [.str "num",.str "name",.str "gap"])=H2 at d|-;refine bW (λc4=>?_) (λc4=>?_)
 .obtain rfl:=h4 c4;refine#[Nu _,λp3 I=>?_];exact k p3 _ _ (d.trans (ae I _)) (d.free I) af .nil
 refine d4 _ _ ?_;have(N,rfl,T):=h5 c1 c2 c3 c4;have(t,u,rfl,m,q):=bO.split hq;have lw:=m.length
 have hn:(1+(if nR (.str L) [.str "op",.str "let"]=true then 1 else 0):Int)=((N.length+1:Nat):Int):=by
  rcases T with⟨l,e⟩|⟨l,e⟩<;>rw[l,e]<;>rfl
 have hc:∀X:Int,X=((N.length+1:Nat):Int)->ju (.str L::(t++u)) (some X) none=u/\¬(HT.ir (V.str L::(t++u)).length 0 (some X)=0/\HT.ir (V.str L::(t++u)).length (V.str L::(t++u)).length none=(V.str L::(t++u)).length):=λX e=>by
  rw[e];refine#[?_,FG _ _ () (by simp)];rw[Dq,<-lw];exact List.drop_left (l₁:=.str L::t)
 refine#[_,rfl,_,rfl,a,_,0,_,rfl,rfl,hS.same d,aH (j:=0) rfl,(by show 2<=mH;decide),λp3 I=>#[p3,_,rfl,.inr (cP.of af),rfl,rfl,.inr #[_,rfl,_,_,rfl,rfl,_,rfl,?_]]];have s3:=d.trans (S0 p3 (.tup [.str "op",.str "let"]) _ I);refine#[a,_,rfl,hS.same s3,(hc _ hn).2,λp4 Z=>?_];refine#[p4,u,rfl,.inr (cP.of (af.trans (congrArg (λz=>some (HO.tup z)) (hc _ hn).1))),λl U=>?_];have Y:=(s3.trans (ae Z _)).trans (ae U (.lst u));exact k l _ u Y ((s3.trans (ae Z _)).free U) af (q.same Y)
theorem aO :Nm Ve (ak bY):=by decide
theorem eS :Lm Ve (ak bY):=by decide
theorem dS :aZ Ve Vf (ak bY):=by ac_rfl
theorem rR {P:IF}{w:Nn}{K:bN}{mg:Str->Option eF}{base:Heap}{gW gH:Addr}{wfd hfd:L1}{n j:Nat}(hj:1<=j){f:Addr}{cdv:eF}{A:Nx}{outer:List OJ}{s:fy}{H1:Hp}{E:XK}(WI:eL P w K mg base "_law_within" 1 VX (qp K) gW wfd)(an:eL P w K mg base "_law_term_fault" j Vf (ue K n) gH hfd)(I:mg "zip"=none)(hr:di j (A.deeper (Np "_law_term_fault" (ak bY) s.heap.objs.size f cdv))){D:L2.Ends}{H0 H:Hp}{S:mC}{kl:Kl}{ds:List (Str×Nat)}{gs os:List Int}{v fv:V}{la ls:Addr}{h:Hd}{ks:List Tm}{ns:List Str}{vs:List V}{o1 o2:Option V}(sc:eG H0 S kl (rB kl) ds gs os H)(hv:Rp K H (enc (.mk h ks)) v)(wf:Wn (.mk h ks))(ta:Ta (.mk h ks))(hd:(Tm.mk h ks).depth<n+1)(hz:(Tm.mk h ks).size<=80)(hl:ns.length+5*(Tm.mk h ks).size<=900)(hg:gs.length+Tm.sizes ks<=900)(hB:wV kl)(hnd:(jc kl).Nodup)(hs:H ls=some (.lst vs))(hsf:ls≠S.lg/\ls≠S.lo)(L:nK S H ns (bnd h ks.length) vs)(kf:∀f,jF kl ds gs ns (bnd h ks.length) ks=.error f->∀z m,rQ H0 S ds.length m->iA S H m->mK m (some f) z->D.rt z m)(ko:∀g,jF kl ds gs ns (bnd h ks.length) ks=.ok g->∀m,eG H0 S kl (rB kl) ds g os m->iA S H m->g.length<=gs.length+Tm.sizes ks->D.rt .eN m):
  ja (Zi gy Ve "_law_term_fault" (ak bY) H1).nN ((bh bY).drop 6) D [some (.ref S.d),some v,some (.ref la),some fv,some (.ref ls),o1,o2] H:=by
 refine d7 ((Z5 (Zg NH (Ii K rfl (by left) I (Z1 (Z0 WI (Zc (va aO 1))) (Zc (va aO 4)))) (Z9 (2) (Ze (ga dS.nd eS 5) (Zs (ga dS.nd eS 6)))) (Z5 (Z4 dS.nd eS 3 (Z0 an (Z1 (va aO 0) (Z1 (va aO 5) (Zc (va aO 6)))))) (Zd (Zb (Zo rL (va aO 3) gv) (Zd (cG (va aO 3))))))) (b9 (cG gv)))) ?_
 right
 right
 have aa:=wf.wf;have aq:(Tm.mk h ks).size<=900:=()
 ext lw H2 Y O U h2 r2;have l2:=r2.length;rw[bM]at l2;have ao:Y.length=ks.length:=l2;have Q:=O _ _ hs;have b1:nT K false H2 lw Y:=bQ.of h2;have b2:nT K false H2 ls vs:=bQ.of Q;have r:=sc.ext O;have ad:lw≠S.lg/\lw≠S.lo:=#[(ay sc.hg U).symm,(ay sc.ho U).symm];have(az,L):=L
 have ai:(bnd h ks.length).length=ks.length:=by
  cases aa with
  |mk ar wk=>cases h<;>simp_all[bnd,fc]
 have T:min Y.length vs.length=ks.length:=()
 ext;refine E1 (xs:=Y) (ys:=vs) (λi M u=>(∃o3 o1 o2,M=[some (.ref S.d),some v,some (.ref la),o3,some (.ref ls),o1,o2])/\∃g,L8 H0 S kl ds gs g os ns (bnd h ks.length) ks i H2 u) #[#[_,_,_,rfl],gs,r,iA.refl _ _,rfl,lj _] ?_ ?_ ?_ ?_
 .rintro i M u hi ⟨_,g,o⟩;exact bQ.of (r.ym o.t h2 ad)
 .rintro i M u hi ⟨_,g,o⟩;exact bQ.of (r.ym o.t Q hsf)
 .rintro i x y M u p hx hy ⟨⟨_,_,_,rfl⟩,g,o⟩ hp;have(t,ht,rt):=r2.get' hx;rw[xn]at ht;have(kd,W,rfl):=we.mp ht;have C:ks[i]?=some kd:=W;have X:i<ks.length:=(bH.mp C).1;obtain⟨b,hb⟩:∃b,(bnd h ks.length)[i]?=some b:=#[_,my (by rw[ai];exact X)];have G:=o.e;rw[Dm hb C]at G;have(J,ho,ag,R):=L i b hb;rw[hy]at ho;obtain rfl:=Nk ho;have B:kd∈ks:=Nf C
  have a1:b.length<=5:=by
   cases wf with
   |mk a bb c=>exact bb b (Nf hb)
  have as:Wn kd:=by
   cases wf with
   |mk a b c=>exact c kd B
  have aw:Ta kd:=by
   cases ta with
   |mk a _ b=>exact b kd B
  have a0:kd.depth<n:=by have:=Tm.AZ (h:=h) (ks:=ks) B;omega
  have ax:=nV B;have av:Tm.sizes ks+1=(Tm.mk h ks).size:=by rw[Tm.ik]
  have ap:kd.size<=80:=()
  have sp:=ae hp (.tup [x,.ref J]);have ab:=o.k.ext sp;have ac:=(rt.kt (r.uz o.t)).same sp;have g4:upd u p (.tup [x,.ref J]) J=some (.lst ((ns++b).map V.str)):=sp _ _ (r.ym o.t (O _ _ R) ag);have z1:(ns++b).length+5*kd.size<=900:=by rw[i4];omega
  have am:ks.drop i=kd::ks.drop (i+1):=by rw[NJ X,(bH.mp C).2]
  have l3:=o.l;rw[am,Tm.eB]at l3;have z2:g.length+kd.size<=900:=()
  have t3:iA S H u:=(iA.of O).trans o.t
  have fE:∀f,uD kl ds g (ns++b) kd=.error f->∀z m,rQ H0 S ds.length m->iA S (upd u p (.tup [x,.ref J])) m->mK m (some f) z->D.rt z m:=λf hf z m w' N Z=>by
   rw[hf]at G;exact kf f G z m w' ((t3.same sp).trans N) Z
  have aj:upd u p (.tup [x,.ref J]) p=some (.tup [x,.ref J]):=af;generalize upd u p (.tup [x,.ref J])=H4 at sp ab ac g4 fE aj|-;ext
  .intro f hf z m w' N Z;have fin:=fE f hf z m w' N Z;have(q,rfl,hq):=Z;ext;exact fin
  .intro al ah m k' N l';rw[ah]at G;have fin:L8 H0 S kl ds gs al os ns (bnd h ks.length) ks (i+1) H2 m:=#[k',(o.t.same sp).trans N,G,()];ext;exact fin
 .rintro M u ⟨⟨_,_,_,rfl⟩,g,o⟩;have G:=o.e;rw[T,NL,j5]at G;have l3:=o.l;rw[T,NL]at l3;have fin:=ko g G u o.k ((iA.of O).trans o.t) (Nz (Pr _ _) l3);ext;exact fin
theorem Dr {ks: List Tm}(e : fc h ks.length = true): (∃ (d : Str) (r : List T), sJ h (ks.map enc) = .t (.s d :: r) ∧ d ≠ "let" ∧ d ≠ "fold" ∧ d ≠ "match" ∧ bnd h ks.length = Ng ks.length []) ∨ (∃ arms, h = .mat arms) ∨ (∃ x, h = .lt x) ∨ ∃ x y, h = .fold x y := by
  cases h
  case mat arms => exact .inr (.inl #[_, rfl])
  case lt x => exact .inr (.inr (.inl #[_, rfl]))
  case fold x y => exact .inr (.inr (.inr #[_, _, rfl]))
  case num n => obtain rfl : ks = [] := by simpa [fc] using e
                exact .inl #[_, _, rfl, by decide, by decide, by decide, rfl]
  case name x => obtain rfl : ks = [] := by simpa [fc] using e
                 exact .inl #[_, _, rfl, by decide, by decide, by decide, rfl]
  case gap n => obtain rfl : ks = [] := by simpa [fc] using e
                exact .inl #[_, _, rfl, by decide, by decide, by decide, rfl]
  all_goals exact .inl #[_, _, rfl, by decide, by decide, by decide, rfl]
theorem Ds (h:l a=some (.lst vs))(g:vs.length<=1000)(k:∀(p:Addr),l p=none->Q (.ref p) (upd l p (.lst (Ng vs.length (.ref m))))):mw (GC K a) (iF 0) uS (mO 1) Q [none,some (.ref m)] l:=by
 refine kU (xs:=vs) (λi d e j=>(∃x,d=[x,some (.ref m)])/\j=l/\e=Ng i (.ref m)) #[#[none,rfl],rfl,rfl] ?_ (small g) ?_ ?_ ?_
 .rintro i d e j hi ⟨_,_,rfl⟩;rw[OQ];exact lj _
 .rintro i d e j hi ⟨_,rfl,_⟩;exact bQ.of h
 .rintro i x d e j hx ⟨⟨o,rfl⟩,rfl,rfl⟩;ext;rw[List.replicate_succ']
 .rintro d e j ⟨_,rfl,rfl⟩ p hp;exact k p hp
theorem IL (hj:4<=j)(F:jq K "_law_term_fault" "_law_term_fault" bY f fd)(WI:eL P w K mg base "_law_within" 1 VX (qp K) gW wfd)(ck:eL P w K mg base "_law_itself_fault" 4 Vf (tX K) gI ifd)(aw:eL P w K mg base "_law_term_fault" j Vf (ue K n) gH hfd)(D:mg "zip"=none)(an:mg "list"=none):
  cA P w K mg base gy (j+1) f fd Vf (ue K (n+1)):=by
 refine F.ok dS (λvs H Q E h=>?_) (λcdv A outer s H vs Q E hr h=>?_)
 .have(_,_,_,_,_,_,_,_,_,_,_,rfl,_):=h;rfl
 have(H0,S,v,d,e,kl,ds,gs,os,tm,g,rfl,sc,rfl,hv,wf,ta,hd,hz,b7,ad,hl,hg,hB,av,kf,ko):=h;refine#[_,(Z5 (Z4 dS.nd eS 3 (Z0 ck (Z1 (va aO 0) (Z1 (va aO 1) (Zc (va aO 2)))))) (Z5 (Zb (Zo rL (va aO 3) gv) (Zd (cG (va aO 3)))) (Z5 (@nh _ _ _ _ _ _ _ _ _ _ _ _ _ _ _ (ak bY) Ve ["_law_inner"] [2] rfl rfl rfl (by decide) (@lD _ _ _ _ (Z0 WI (Zc (va aO 1)))) (λ_ _ _ _=>(Z3 (i:=0) (show(["_law_inner","_law_around"]:List Str).Nodup by decide))) (λ_ _ _ _=>fZ) (λ_ _ _ _=>(va (show Nm ["_law_inner","_law_around"] _ by left) 1)) (ga dS.nd eS 4) (by kernel_rfl) (by intro _;rfl)) (Z5 (Zb (Zh bV (Z8 aP (va aO 1)) aG (bI _)) (Zd (Zp (Zm iT (va aO 2) (Zt (Z1 (Z8 aP (va aO 1)) aA))) (mR (va aO 4) aC set_list)))) (Z5 (Zb (Zh bV (Z8 aP (va aO 1)) aG (bI _)) (Zd (Zp (Zm iT (va aO 2) (Zt (Z1 (Z8 aP (va aO 1)) (Z1 (Z8 aP (va aO 1)) aA)))) (mR (va aO 4) aC set_list)))) (Z5 (Zb (Zh bV (Z8 aP (va aO 1)) aG (bI _)) (Zd (Z4 dS.nd eS 4 (Zm iT (Zt (Zc (va aO 2))) (Zf (ak bY) Ve Vi [2] (@cz _ _ _ _ (Z8 aP (va aO 1))) (λ_ _ _ _=>(Z9 (3) (Ze (Z3 (i:=0) (show(Vr:List Str).Nodup by decide)) (Ze (Z3 (i:=1) (show(Vr:List Str).Nodup by decide)) (Zs (Z3 (i:=2) (show(Vr:List Str).Nodup by decide))))))) (λ_ _ _ _=>(Zm iT (va (show Nm Vr _ by left) 3) (Z7 (uB K rfl) an O1 (Zc (va (show Nm Vr _ by left) 1)))))))))) cK)))))),?_]
 right
 right
 have bw:=wf.wf;have hk:=Ak tm;have(h,ks):=tm;have al:fc h ks.length=true:=by cases bw with|mk a b=>exact a
 have cj:tW h:=by cases ta with|mk a _ b=>exact a
 have ct:Tm.sizes ks+1=(Tm.mk h ks).size:=by rw[Tm.ik]
 have cb:ks.length<(Tm.mk h ks).size:=hk;have lk:ks.length<=900:=()
 have l:g.length<=900:=()
 have lg:gs.length<=900:=()
 have cs:(Tm.mk h ks).size<=900:=()
 have eT:=uc kl ds gs g h ks;ext
 .intro f hf v' H' s' ft;rw[hf]at eT;have fin:=kf f eT v' H' ((sc.ext s').w (lj _)) (iA.of s') ft;have(q,rfl,hq):=ft;ext;exact fin
 intro ai bo H1 m t1;rw[bo]at eT;have be:uD kl ds gs g (.mk h ks)=jF kl ds ai g (bnd h ks.length) ks:=eT;have cq:=yk bo;have ar:=hv.kt (sc.uz t1);have Z:=sc.ym t1 b7 ad;have ab:ai.length+Tm.sizes ks<=900:=()
 have aq:∀{Ha:Hp},iA S H1 Ha->∀f,jF kl ds ai g (bnd h ks.length) ks=.error f->∀v' H',rQ H0 S ds.length H'->iA S Ha H'->mK H' (some f) v'->Q v' H':=λta f hf v' H' w' t' ft=>kf f (be.trans hf) v' H' w' ((t1.trans ta).trans t') ft;have ap:∀{Ha:Hp},iA S H1 Ha->∀aj,jF kl ds ai g (bnd h ks.length) ks=.ok aj->∀H',eG H0 S kl (rB kl) ds aj os H'->iA S Ha H'->aj.length<=ai.length+Tm.sizes ks->Q .eN H':=λta aj hf H' k' t' l'=>ko aj (be.trans hf) H' k' ((t1.trans ta).trans t') ();clear kf ko eT be;ext lw H2 ws s2 cw h2 r2;have l2:=r2.length;rw[bM]at l2;have bi:ws.length=ks.length:=l2;have c0:bQ K H2 lw ws:=bQ.of h2;ext;refine Ds h2 (by rw[bi];omega) λp bj=>?_;rw[bi];have s3:=ae bj (.lst (Ng ks.length (.ref e)));have J:=s2.trans s3;have N:upd H2 p (.lst (Ng ks.length (.ref e))) p=some (.lst (Ng ks.length (.ref e))):=af;have C:H1 p=none:=s2.free bj;have a3:p≠S.lg/\p≠S.lo:=#[(ay m.hg C).symm,(ay m.ho C).symm];generalize upd H2 p (.lst (Ng ks.length (.ref e)))=H3 at s3 J N|-;have bz:=m.ext J;have ah:=ar.same J;have Y:=J _ _ Z;rcases Dr al with⟨fm,r,he,n1,n2,n3,hb⟩|⟨arms,rfl⟩|⟨x,rfl⟩|⟨x,y,rfl⟩
 .have B:=ah;rw[cY,he]at B;have(a,co,rfl,hS,b6):=B.aS;have(v0,q0,rfl,e0,cu):=b6.inv;obtain rfl:=e0.aM;have a0:=Js (V.str fm) q0;ext;refine Cs (Fv n1) ?_;ext;refine Cs (Fv n2) ?_;ext;refine Cs (Fv n3) ?_;ext;refine rR () WI aw D (hr.mono ()) bz ah wf ta hd hz hl ab hB av N a3 (by rw[hb];exact FF Y ad) (aq (iA.of J)) (ap (iA.of J))
 .obtain⟨k0,kr,rfl⟩:∃k0 kr,ks=k0::kr:=by
   cases ks with
   |nil=>simp[fc]at al
   |cons k0 kr=>exact#[_,_,rfl]
  have bn:arms.length=kr.length:=by
   have:kr.length+1=arms.length+1:=by simpa[fc]using al
   omega
  have B:=ah;rw[cY]at B;have(a,u1,u2,u3,rfl,hS,g1,g2,g3):=(show Rp K H3 (.t [.s "match",enc k0,.t (Oj oS arms (kr.map enc))]) v from B).t3;obtain rfl:=g1.aM;have(aa,ch,rfl,ci,bv):=g3.aS;have ax:=bv.length;rw[OD,bM,bn,Ra]at ax;ext l1 ca;have M:=ae ca (.lst [.ref e]);have a2:=J.trans M;have bs:upd H3 l1 (.lst [.ref e]) l1=some (.lst [.ref e]):=af;generalize upd H3 l1 (.lst [.ref e])=H4 at M a2 bs|-;have bt:=ci.same M;have bu:=bv.same M;have bm:=M _ _ Y;have bx:=m.ext a2;have cy:=hS.same M;have cx:kr.length+1<(Tm.mk (Hd.mat arms) (k0::kr)).size:=cb;ext;refine gb (K:=K) (xs:=ch) (λi σ O Hd=>(∃x y z,σ=[x,y,z,some (.ref e)])/\aT H4 Hd/\nK S Hd g ((arms.map (·.2)).take i) O) #[#[_,_,_,rfl],aT.refl _,wJ] ?_ (Ot (br ())) ?_ ?_ ?_
  .rintro i σ O Hd hi ⟨_,_,o⟩;rw[o.1,I0];omega
  .rintro i σ O Hd hi ⟨_,sd,_⟩;exact bt.same sd
  .rintro i u σ O Hd hi ⟨⟨x0,y0,z0,rfl⟩,sd,ow⟩;have(y,hy,ry):=bu.get' hi;have(am,kj,a9,rfl):=jO hy;have cc:=(bH.mp a9).1
   have cg:(arms.map (·.2)).take (i+1)=(arms.map (·.2)).take i++[am.2]:=by
    rw[mu (by rw[bM];exact cc),Rt,(bH.mp a9).2]
   have cr:=(cj arms rfl).2 am (Nf a9);have(qa,w1,w2,w3,rfl,b0,e1,e2,e3):=ry.t3;obtain rfl:=e1.aM;have(na,cp,rfl,b1,b2):=e2.aS;obtain rfl:=b2.pY;have cl:=b0.same sd;have cm:=b1.same sd;have bk:=sd _ _ bm;have lc:(g.map V.str).length+(am.2.map V.str).length<=mH:=small (by rw[bM,bM];omega);ext l5 b8;have R:=ae b8 (.lst (am.2.map V.str));have h5:upd Hd l5 (.lst (am.2.map V.str)) l5=some (.lst (am.2.map V.str)):=af;generalize upd Hd l5 (.lst (am.2.map V.str))=H5 at R h5|-;have cn:=R _ _ bk;ext l6 a8;have ea:g.map V.str++am.2.map V.str=(g++am.2).map V.str:=by rw[i5]
   rw[ea];have s6:=ae a8 (.lst ((g++am.2).map V.str));have h6:upd H5 l6 (.lst ((g++am.2).map V.str)) l6=some (.lst ((g++am.2).map V.str)):=af;have bf:=(bx.ext sd).ext R;have b4:l6≠S.lg/\l6≠S.lo:=#[(ay bf.hg a8).symm,(ay bf.ho a8).symm];generalize upd H5 l6 (.lst ((g++am.2).map V.str))=H6 at s6 h6|-;refine#[#[_,_,_,rfl],sd.trans (R.trans s6),?_];rw[cg];exact Dp (ow.same (R.trans s6)) b4 h6
  .rintro σ O Hd ⟨_,sd,ow⟩ lc hlc;have s7:=ae hlc (.lst O);have cf:upd Hd lc (.lst O) lc=some (.lst O):=af;have ao:=ow.same s7;have ce:=s7 _ _ (sd _ _ bs);have a1:=a2.trans (sd.trans s7);rw[ax,<-bn,<-bM (as:=arms) (·.2),Nr]at ao;have b5:=ao.1;rw[bM]at b5;have cv:[V.ref e].length+O.length<=mH:=small (by show 1+O.length<=1000;omega);generalize upd Hd lc (.lst O)=H7 at s7 cf ao ce a1|-;ext l8 a7;have s8:=ae a7 (.lst ([.ref e]++O));have ac:=a1.trans s8;have bp:upd H7 l8 (.lst ([.ref e]++O)) l8=some (.lst (.ref e::O)):=af;have bg:=m.ext a1;have b3:l8≠S.lg/\l8≠S.lo:=#[(ay bg.hg a7).symm,(ay bg.ho a7).symm];have bh:=ao.same s8;generalize upd H7 l8 (.lst ([.ref e]++O))=H8 at s8 ac bp bh|-;have bl:H8 e=some (.lst ((g++[]).map V.str)):=by rw[NF];exact ac _ _ Z
   ext;refine rR () WI aw D (hr.mono ()) (m.ext ac) (ar.same ac) wf ta hd hz hl ab hB av bp b3 (kZ (b:=[]) ad bl bh) (aq (iA.of ac)) (ap (iA.of ac))
 .have(k0,k1,rfl):=G14.l2 (show ks.length=2 by simpa[fc]using al);have B:=ah;rw[cY]at B;have(a,u1,u2,u3,u4,rfl,hS,g1,g2,g3,g4):=(show Rp K H3 (.t [.s "let",.s x,enc k0,enc k1]) v from B).t4;obtain rfl:=g1.aM;obtain rfl:=g2.aM
  replace N:H3 p=some (.lst [.ref e,.ref e]):=N
  ext lx a6;have M:=ae a6 (.lst [.str x]);have bb:upd H3 lx (.lst [.str x]) lx=some (.lst [.str x]):=af;have W:=M _ _ N;have bc:=M _ _ Y;have I:=J.trans M;generalize upd H3 lx (.lst [.str x])=H4 at M bb bc W I|-;have lc:(g.map V.str).length+([.str x]:List V).length<=mH:=small (by rw[bM];show g.length+1<=_;omega);ext l L;have ea:g.map V.str++[.str x]=(g++[x]).map V.str:=by simp
  rw[ea];have R:=ae L (.lst ((g++[x]).map V.str));have h5:upd H4 l (.lst ((g++[x]).map V.str)) l=some (.lst ((g++[x]).map V.str)):=af;have ag:p≠l:=ay W L;have U:=R _ _ W;have T:=I.trans R;have a4:l≠S.lg/\l≠S.lo:=#[(ay (m.ext I).hg L).symm,(ay (m.ext I).ho L).symm];generalize upd H4 l (.lst ((g++[x]).map V.str))=H5 at R h5 U T|-;have az:=(m.ext T).other m C U [.ref e,.ref l];have k6:Kt H5 (upd H5 p (.lst [.ref e,.ref l])):=Kt.lst U _;have cd:cP K (upd H5 p (.lst ([V.ref e,V.ref e].set 1 (V.ref l)))) a _:=((hS.same M).same R).kt k6;have G:aT H1 (upd H5 p (.lst [.ref e,.ref l])):=T.n9 C _;have h6:upd H5 p (.lst [.ref e,.ref l]) p=some (.lst [.ref e,.ref l]):=af;have ba:upd H5 p (.lst [.ref e,.ref l]) l=some (.lst ((g++[x]).map V.str)):=by rw[au ag.symm];exact h5
  have X:upd H5 p (.lst [.ref e,.ref l]) e=some (.lst ((g++[]).map V.str)):=by rw[NF];exact G _ _ Z
  have a5:=ar.same G;ext;refine rR () WI aw D (hr.mono ()) az a5 wf ta hd hz hl ab hB av h6 a3 (kZ ad X (kZ a4 ba wJ)) (aq (iA.of G)) (ap (iA.of G))
 .have(k0,k1,k2,rfl):=G14.l3 (show ks.length=3 by simpa[fc]using al);have B:=ah;rw[cY]at B;have(a,O,rfl,hS,rs):=(show Rp K H3 (.t [.s "fold",enc k0,.s x,.s y,enc k1,enc k2]) v from B).aS;have(u1,q1,rfl,g1,rs):=rs.inv;have(u2,q2,rfl,g2,rs):=rs.inv;have(u3,q3,rfl,g3,rs):=rs.inv;have(u4,q4,rfl,g4,rs):=rs.inv;have(u5,q5,rfl,g5,rs):=rs.inv;have(u6,q6,rfl,g6,rs):=rs.inv;obtain rfl:=rs.ji;obtain rfl:=g1.aM;obtain rfl:=g3.aM;obtain rfl:=g4.aM
  replace N:H3 p=some (.lst [.ref e,.ref e,.ref e]):=N
  ext lx a6;have M:=ae a6 (.lst [.str x,.str y]);have bb:upd H3 lx (.lst [.str x,.str y]) lx=some (.lst [.str x,.str y]):=af;have W:=M _ _ N;have bc:=M _ _ Y;have I:=J.trans M;generalize upd H3 lx (.lst [.str x,.str y])=H4 at M bb bc W I|-;have lc:(g.map V.str).length+([.str x,.str y]:List V).length<=mH:=small (by rw[bM];show g.length+2<=_;omega);ext l L;have ea:g.map V.str++[.str x,.str y]=(g++[x,y]).map V.str:=by simp
  rw[ea];have R:=ae L (.lst ((g++[x,y]).map V.str));have h5:upd H4 l (.lst ((g++[x,y]).map V.str)) l=some (.lst ((g++[x,y]).map V.str)):=af;have ag:p≠l:=ay W L;have U:=R _ _ W;have T:=I.trans R;have a4:l≠S.lg/\l≠S.lo:=#[(ay (m.ext I).hg L).symm,(ay (m.ext I).ho L).symm];generalize upd H4 l (.lst ((g++[x,y]).map V.str))=H5 at R h5 U T|-;have az:=(m.ext T).other m C U [.ref e,.ref e,.ref l];have k6:Kt H5 (upd H5 p (.lst [.ref e,.ref e,.ref l])):=Kt.lst U _;have cd:cP K (upd H5 p (.lst ([V.ref e,V.ref e,V.ref e].set 2 (V.ref l)))) a _:=((hS.same M).same R).kt k6;have G:aT H1 (upd H5 p (.lst [.ref e,.ref e,.ref l])):=T.n9 C _;have h6:upd H5 p (.lst [.ref e,.ref e,.ref l]) p=some (.lst [.ref e,.ref e,.ref l]):=af;have ba:upd H5 p (.lst [.ref e,.ref e,.ref l]) l=some (.lst ((g++[x,y]).map V.str)):=by rw[au ag.symm];exact h5
  have X:upd H5 p (.lst [.ref e,.ref e,.ref l]) e=some (.lst ((g++[]).map V.str)):=by rw[NF];exact G _ _ Z
  have a5:=ar.same G;ext;refine rR () WI aw D (hr.mono ()) az a5 wf ta hd hz hl ab hB av h6 a3 (kZ ad X (kZ ad X (kZ a4 ba wJ))) (aq (iA.of G)) (ap (iA.of G))
def K8(n:Nat)(dl:List Df):Prop:=dl.length<=8/\∀d∈dl,Kq d/\d.2.2.depth<n
def Dt(K:bN)(n:Nat):Sp:=λl H Q _=>∃(v:V) (d:Kl) (e:List Df),l=[v]/\Rp K H (.t [.t (d.map gZ),.t (e.map jl)]) v/\wV d/\K8 n e/\∀j g,aT H g->mK g (cy d e) j->Q j g
noncomputable def oK(kl:Kl)(ds:List (Str×Nat))(gs:List Int)(d:Df)(r:List Df):Except Flt (List Int)->Option Flt
 |.error f=>some f
 |.ok os'=>match uD kl ds gs (d.2.1.map (·.1)) d.2.2 with
  |.error f=>some f
  |.ok gs'=>jB kl (ds++[(d.1,d.2.1.length)]) gs' os' r
theorem vz {dl:List Df}(h:dl[i]?=some d):jB kl ds gs e (dl.drop i)=if d.1∈ds.map (·.1)then some (.tw,d.1)else oK kl ds gs d (dl.drop (i+1)) (cX (kl.map (·.1)) [] e d.2.1):=by
 rw[vy h]
 by_cases c:d.1∈ds.map (·.1)
 .rw[if_pos c,if_pos c]
 .rw[if_neg c,if_neg c]
  cases cX (kl.map (·.1)) [] e d.2.1 with
  |error f=>rfl
  |ok os' =>
   unfold oK;dsimp only;rw[IK d.2.2 gs (gj [] (d.2.1.map (·.1))) (d.2.1.map (·.1)) (λx=>by rw[ud];exact#[λh=>h.elim nofun id,.inr])]
   first|done|rfl
inductive IP(H0:Hp) (S:mC) (kl:Kl) (dl:List Df) (i:Nat) (v:V) (H:Hp):Prop
 |bad (f:Flt):cy kl dl=some f->rQ H0 S i H->mK H (some f) v->IP H0 S kl dl i v H
 |good (ds:List (Str×Nat)) (gs os:List Int):v=.eN->eG H0 S kl (rB kl) ds gs os H->ds.length<=i->gs.length<=80*i->os.length<=10*i->(jc kl).Nodup->cy kl dl=jB kl ds gs os (dl.drop i)->IP H0 S kl dl i v H
inductive Kr(H0:Hp) (S:mC) (kl:Kl) (dl:List Df) (i:Nat) (d:Df) (l:Option Addr) (j:Nat) (v:V) (H:Hp):Prop
 |bad (f:Flt) (p:Addr):cy kl dl=some f->rQ H0 S i H->v=.ref p->H p=some (.lst [.str (IB f.1),.str f.2])->l≠some p->Kr H0 S kl dl i d l j v H
 |good (ds:List (Str×Nat)) (gs os:List Int):v=.eN->eG H0 S kl (rB kl) ds gs os H->ds.length<=i->gs.length<=80*i->os.length<=10*i+j->(jc kl).Nodup->d.1∉ds.map (·.1)->(∀a,l=some a->∃ds' gs' os' HB,eG H0 S kl (rB kl) ds' gs' os' HB/\HB a=none)->cy kl dl=oK kl ds gs d (dl.drop (i+1)) (cX (kl.map (·.1)) ((d.2.1.take j).map (·.1)) os (d.2.1.drop j))->Kr H0 S kl dl i d l j v H
structure Ma(H0:Hp) (S:mC) (kl:Kl) (dl:List Df) (i:Nat) (H2:Hp) (fv:V) (H3:Hp):Prop where
 k:Kt H2 H3
 s:IP H0 S kl dl i fv H3
structure LN(H0:Hp) (S:mC) (kl:Kl) (dl:List Df) (i:Nat) (d:Df) (l:Addr) (q:Nat) (H2:Hp) (fv:V) (H3:Hp):Prop where
 k:Kt H2 H3
 h:H3 l=some (.lst (((d.2.1.take q).map (·.1)).map V.str))
 s:Kr H0 S kl dl i d (some l) q fv H3
theorem BC (h:fM g e k=.ok d):d.length<=e.length+1:=by
 unfold fM at h
 split at h
 .split at h
  .cases h;exact OC _
  .cases h
 .split at h
  .cases h
  .cases h
   rw[i4];exact lj _
 .cases h;exact OC _
theorem rQ.other {n:Nat}(h:rQ d S n H)(e:d b=none)(l:H b=some (.lst xs))(o:HO):rQ d S n (upd H b o):=by
 have(m,j,p):=h.hd;have g:∀{c:Addr}{u:List (Key×V)},H c=some (.dK u)->c≠b:=λq z=>by rw[z,l]at q;cases q
 exact#[h.n,h.sm.n9 e o,by rw[au (g h.sd)];exact h.sd,m,by rw[au (g j)];exact j,p]
theorem Du {kvs:List (Key×V)}:(putK kvs k v).length<=kvs.length+1:=by
 unfold putK
 split
 .rw[bM];exact OC _
 .rw[i4];exact lj _
@[irreducible] noncomputable def Dv:Stmt:=(bh cZ).getD 4 (.Pass #[0,0,0,0])
@[irreducible] noncomputable def Dw:Stmt:=(bh cZ).getD 5 (.Pass #[0,0,0,0])
@[irreducible] noncomputable def FJ:List Expr:=match(bh cZ).getD 4 (.Pass #[0,0,0,0])with
 |.Assign _ (.List es _) _=>es
 |_=>[]
@[irreducible] noncomputable def FL:List Expr:=match(bh cZ).getD 5 (.Pass #[0,0,0,0])with
 |.Assign _ (.BinOp _ _ (.List es _) _) _=>es
 |_=>[]
@[irreducible] noncomputable def posK (i:Nat):Pos:=match(bh cZ).getD 4 (.Pass #[0,0,0,0]),(bh cZ).getD 5 (.Pass #[0,0,0,0])with
 |.Assign [.Name _ a] (.List _ b) c,.Assign [.Name _ d] (.BinOp (.Name _ e) _ (.List _ f) g) h=>[a,b,c,d,e,f,g,h].getD i a
 |_,_=>#[0,0,0,0]
noncomputable def Ar:List Str:=["num","row","kind","def","more","first","others","long","match","if","let","fold","call"]
noncomputable def As:List Str:=["gap","in","world","fault","left"]
theorem FN :Dv=.Assign [.Name "_law_kept" (posK 0)] (.List FJ (posK 1)) (posK 2):=by unfold Dv FJ posK;kernel_rfl
theorem FO :Dw=.Assign [.Name "_law_kept" (posK 3)] (.BinOp (.Name "_law_kept" (posK 4)) .Add (.List FL (posK 5)) (posK 6)) (posK 7):=by unfold Dw FL posK;kernel_rfl
theorem M1 :strsOf FJ=some Ar:=by unfold FJ;kernel_rfl
theorem M3 :strsOf FL=some As:=by unfold FL;kernel_rfl
theorem zo :bh cZ=(bh cZ).take 4++(Dv::Dw::(bh cZ).drop 6):=by unfold Dv Dw;kernel_rfl
theorem Ks (hn:X.N.Nodup)(d:Lm X.N X.env.scope)(g:X.N[7]?=some ("_law_kept":Str))(e:X.fn "_law_kept"=true):PS X Dv (vH (HK (Cp Ar)) (iF 7)):=by
 rw[FN];exact sa hn d 7 (dB (zN M1)) g rfl (.inl e)
theorem Ku (hn:X.N.Nodup)(g:Lm X.N X.env.scope)(e:Nm X.N X.env.scope)(d:X.N[7]?=some ("_law_kept":Str))(j:X.fn "_law_kept"=true):PS X Dw (vH (GD JT (mO 7) (HK (Cp As))) (iF 7)):=by
 rw[FO];exact sa hn g 7 (bS iT (va e 7 d) (dB (zN M3))) d rfl (.inl j)
theorem IQ (xs:List d)(a b:d):eK (xs++[a,b]) (-2)=some a:=by
 unfold eK vL;have l:(xs++[a,b]).length=xs.length+2:=by simp
 rw[l,if_neg (by decide),if_pos ()];have e:(-2+((xs.length+2:Nat):Int)).toNat=xs.length:=()
 rw[Pu,e];simp
theorem IS (n m:Nat)(h:n=m+1):vL n (-1)=some m:=by
 unfold vL;rw[if_neg (by decide),if_pos ()]
 congr 1
 omega
theorem bj :Nm Vb (ak cZ):=by decide
theorem fV :Lm Vb (ak cZ):=by decide
theorem eI :aZ Vb U7 (ak cZ):=by ac_rfl
theorem Dy (F:jq K "_law_names" "_law_names" cZ f fd)(TK:eL P w K mg base "_law_take" 1 U7 cC gT tfd)(z_range:mg "range"=none)(L:mg "len"=none)(ab:mg "int"=none):
  cA P w K mg base gy 2 f fd U7 Aq:=by
 refine F.ok eI (λvs H Q E h=>?_) (λcdv A outer s H vs Q E hr h=>?_)
 .have(v,tm,rfl,_):=h;rfl
 have(r,m,rfl,m1,m2,hf,k):=h;rw[zo];refine#[_,(Z5 (sa eI.nd fV 2 aG) (Z5 (Z4 eI.nd fV 3 (@xr _ _ _ _ _ _ _ _ _ _ _ _ PySem.F.plainAttrs_str PySem.F.slot_str_join PySem.F.type_str_join EG aG (Z1 (Zf (ak cZ) Vb ["_law_k"] [0,2] (Zq (Z1 (Z0 TK (c8 (va bj 0) (Zc aC))) aA)) (λ_ _ _ _=>(Z3 (i:=0) (show(VS:List Str).Nodup by decide))) (λ_ _ _ _=>(Zk vN (va (show Nm VS _ by left) 2) (Z0 TK (c8 (va (show Nm VS _ by left) 1) (Zc aC)))))) aA) (by kernel_rfl) (by kernel_rfl) (by kernel_rfl) (by kernel_rfl) (by kernel_rfl))) (Z5 (@yG _ _ (4) (5) _ _ _ _ _ _ _ _ _ _ _ rfl eI.nd rfl rfl (by decide) rfl rfl (Z1 (Z0 TK (c8 (va bj 0) (Zc aC))) (Z1 (Z0 TK (Z1 (va bj 0) (Z1 (Zm dR (Z2 pQ L Nl (Zc (va bj 3))) aC) aA))) aA)) (by rfl) (by rfl)) (Z5 (Z4 eI.nd fV 6 (Z0 TK (c8 (va bj 0) (Zc aC)))) (Z5 (Ks eI.nd fV rfl rfl) (Z5 (Ku eI.nd fV bj rfl rfl) (Z5 (sa eI.nd fV 8 (dB aA)) (Z5 (Zg NH (Zq (Zc (va bj 1))) (ga eI.nd fV 9) (Z5 (Z4 eI.nd fV 10 (Zk vN (va bj 2) (Zm iR (Zm dR (va bj 4) (bS kF aC (va bj 9))) aC))) (Z5 (Z4 eI.nd fV 11 (Zm lF (Zm lF (@dX _ _ _ _ _ _ _ _ _ _ Co (va bj 3) eY (dj (va bj 5))) (va bj 10)) (@dX _ _ _ _ _ _ _ _ _ _ Co (va bj 3) (dj (va bj 5)) (@dj _ _ _ (Zm iR (bS dR (va bj 6) (va bj 9)) aC))))) (Zd (Zn (Z6 (va bj 8) (Z1 (Zm lF (va bj 11) (Zm yX aG (Z7 iH ab OF (Z1 (jo gq (va bj 11) (va bj 7) (by with_unfolding_all rfl)) aA)))) aA))))))) (Z5 (Zb (PW.pt (@gz _ _ _ _ _ _ _ (Zo pJ (va bj 1) aC) (@gz _ _ _ _ _ _ _ (Zh mS (Z2 pQ L Nl (Z1 (iI bx (va bj 8) (pH lE aC) (λ_ _=>rfl)) aA)) aC (bI _)) (@fz _ _ _ _ (Zh bV (Z0 TK (c8 (va bj 0) (Zc aC))) aC (bI _)))))) (Zd (Zp (Zm lF (iI bx (va bj 8) (pH lE aC) (λ_ _=>rfl)) aG) (mR (va bj 8) (pH lE aC) set_list)))) (Zd (cG (va bj 8)))))))))))),?_]
 right
 refine#[rfl,_,rfl,r,5,rfl,by decide,by decide,hf,λq H2 q0 q6 e2=>?_];refine#[_,rfl,(),(),?_];have n7:(q:Int).toNat<=4:=()
 refine lJ (n:=q.toNat) (λi σ vs Hc=>(∃v,σ=[v,some (.ref r),some (.str "abcdefghijklmnopqrstuvwxyz")])/\Ext r H2 Hc/\∃J:List Nat,vs=(J.map λc=>(⟨#[c]⟩:Str)).map V.str/\J.length=i/\∀c∈J,c<1000)
  #[#[none,rfl],Ext.refl e2.2,[],rfl,rfl,λ_ h=>nomatch h] (λi σ vs Hc _ ⟨_,_,J,e,el,_⟩=>by rw[e,bM,bM];omega) (small ()) ?_ ?_
 .rintro i' σ vs Hc hi' ⟨⟨v,rfl⟩,ext,J,rfl,as,ah⟩;refine#[_,rfl,_,rfl,r,26,rfl,by decide,by decide,ext.2,λd H3 d0 d1 av=>?_];have(c,R,al):=atS (z:="abcdefghijklmnopqrstuvwxyz") d0 d1;refine#[_,d,c,rfl,rfl,(by decide),R,?_];exact#[#[_,rfl],ext.trans av,J++[c],by rw[i5,i5];rfl,by rw[i4,as];rfl,λc' h=>by rcases L0.mp h with h|h;exact ah c' h;rw[EF.mp h];exact Ao c al]
 rintro σ vs Hc ⟨⟨v,rfl⟩,ext,J,rfl,as,ah⟩ p hp;refine#[_,p,_,rfl,rfl,bQ.of af,?_,?_]
 .have z:(Oi "").length=0:=by decide
  rw[Cv,z];omega
 rw[ER];have ad:Ext r H (upd Hc p (.lst ((J.map λc=>(⟨#[c]⟩:Str)).map V.str))):=(e2.trans ext).new hp _;have ly:(⟨J.toArray⟩:Str).length<=4:=by rw[Ic];omega
 have hy:Lo ⟨J.toArray⟩:=λc h=>ah c (by simpa using h);generalize upd Hc p (.lst ((J.map λc=>(⟨#[c]⟩:Str)).map V.str))=H4 at ad|-;generalize(⟨J.toArray⟩:Str)=y at ly hy|-;refine#[_,rfl,r,26,rfl,by decide,by decide,ad.2,λd1 H5 b1 c1 e5=>?_];refine#[_,rfl,_,rfl,_,rfl,small (),_,_,rfl,rfl,r,_,rfl,(),(),e5.2,λB H6 b2 c2 e6=>?_];refine#[_,_,rfl,?_];refine#[_,rfl,r,5,rfl,by decide,by decide,e6.2,λd3 H7 b3 c3 e7=>?_];have x7:Ext r H H7:=ad.trans (e5.trans (e6.trans e7));have a0:Ar.length<=100:=by decide
 have az:As.length<=100:=by decide
 refine#[by rw[bM];exact small (),λp8 a1=>?_];refine#[_,rfl,by rw[bM];exact small (),λp9 Z=>?_];generalize Ar=ks1 at a0 Z|-;generalize As=ks2 at az Z|-;refine#[p8,p9,_,_,rfl,rfl,(ae Z _) _ _ af,af,by rw[bM,bM];exact small (),λg ap=>?_];have T:Ext r H (upd (upd (upd H7 p8 (.lst (ks1.map V.str))) p9 (.lst (ks2.map V.str))) g (.lst (ks1.map V.str++ks2.map V.str))):=((x7.new a1 _).new Z _).new ap _;have am:upd (upd (upd H7 p8 (.lst (ks1.map V.str))) p9 (.lst (ks2.map V.str))) g (.lst (ks1.map V.str++ks2.map V.str)) g=some (.lst ((ks1++ks2).map V.str)):=by rw[af,i5]
 generalize upd (upd (upd H7 p8 (.lst (ks1.map V.str))) p9 (.lst (ks2.map V.str))) g (.lst (ks1.map V.str++ks2.map V.str))=H10 at T am|-;refine#[Nu _,λl hl=>?_];have aj:H l=none:=Ext.free T hl;have ac:l≠r:=λz=>by subst z;have(a,b,z):=T.2;rw[hl]at z;cases z
 have an:g≠l:=ay am hl;have ax:Ext r H (upd H10 l (.lst [])):=T.new hl _;refine#[_,rfl,_,rfl,(),(),?_]
 refine iG (n:=m) (λi σ Hi=>∃(I:List Str) (v9 W U:Option V),σ=[some (.ref r),some (.int m),some (.str "abcdefghijklmnopqrstuvwxyz"),some (.str y),some (.int d1),some (.int B),some (.int d3),some (.ref g),some (.ref l),v9,W,U]/\I.length=i/\((∀x∈I,x.length<=10)/\(∀x∈I,Lo x)/\∀j x,I[j]?=some x->uv (O8 y none (some B)).cps.toList d1 j x)/\Hi l=some (.lst (I.map V.str))/\Hi g=some (.lst ((ks1++ks2).map V.str))/\Ext r H Hi)
  #[[],none,none,none,rfl,rfl,#[(λ_ h=>nomatch h),(λ_ h=>nomatch h),(λj x h=>by simp at h)],af,by rw[au an];exact am,ax] ?_ ?_
 .rintro i σ Hi hi ⟨I,v9,W,U,rfl,t,⟨Y,O,aa⟩,D,ag,xi⟩;have hm:0<=(d1+7*(0+(i:Int))) % 26/\(d1+7*(0+(i:Int))) % 26<26:=()
  have(c,R,al):=atS (z:="abcdefghijklmnopqrstuvwxyz") (r:=(d1+7*(0+(i:Int))) % 26) hm.1 hm.2;refine#[_,rfl,_,rfl,_,rfl,_,_,rfl,rfl,.inl #[by decide,by decide],_,_,rfl,rfl,_,_,rfl,rfl,(by show(0:Int)<26;decide),_,_,c,rfl,rfl,(by decide),R,?_];have la:=Uo y none (some B);have lb:=Uo y (some B) (some ((d3+(0+(i:Int))) % 5));refine#[_,rfl,_,rfl,_,rfl,_,rfl,small (),_,rfl,_,_,rfl,rfl,small (by show _+1<=1000;omega),?_];refine#[_,rfl,_,rfl,_,rfl,_,rfl,_,rfl,_,_,rfl,rfl,_,_,rfl,rfl,(by show(0:Int)<5;decide),_,rfl,_,rfl,small (),?_];have lc:(O8 y none (some B)++(⟨#[c]⟩:Str)).length=(O8 y none (some B)).length+1:=by rw[Ry];rfl
  refine#[_,_,rfl,rfl,small (),?_];have ln:(O8 y none (some B)++(⟨#[c]⟩:Str)++O8 y (some B) (some ((d3+(0+(i:Int))) % 5))).length<=9:=by rw[Ry];omega
  have ar:Lo (O8 y none (some B)++(⟨#[c]⟩:Str)++O8 y (some B) (some ((d3+(0+(i:Int))) % 5))):=((hy.slice _ _).append (Lo.one al)).append (hy.slice _ _)
  have aq:uv (O8 y none (some B)).cps.toList d1 i (O8 y none (some B)++(⟨#[c]⟩:Str)++O8 y (some B) (some ((d3+(0+(i:Int))) % 5))):=by
   refine uv.snoc #[c,[],?_,?_] _
   .rw[Rc]at R;exact R
   .show((O8 y none (some B)).cps++#[c]).toList=_;rw[RQ]
  generalize O8 y none (some B)++(⟨#[c]⟩:Str)++O8 y (some B) (some ((d3+(0+(i:Int))) % 5))=nm at ln aq ar|-;refine#[_,rfl,.inl #[rfl,_,bQ.of D],_,rfl,_,rfl,_,rfl,g,_,rfl,.inl (bQ.of ag),rfl,iM _,.inr #[_,rfl,?_]];generalize nR (V.str nm) ((ks1++ks2).map V.str)=b;have ao:(Oi "q").length=1:=by decide
  have lq:(Ss (Oi "q") (if b=true then 1 else 0)).length<=1:=by have:=JY b "q";rw[ao]at this;exact this
  have a3:(Ss (Oi "q") (if(if false=true then !b else b)=true then 1 else 0)).length<=1:=lq;refine#[_,_,rfl,rfl,by split<;>omega,by split<;>omega,?_,?_]
  .rw[ao];exact small (by cases b<;>decide)
  refine#[_,_,rfl,rfl,small (),?_];refine#[l,_,_,rfl,rfl,D,by rw[bM];exact br (),?_];refine#[I++[nm++Ss "q" (if b then 1 else 0)],_,_,_,rfl,by rw[i4,t];rfl,#[λx C=>?_,λx C=>?_,λj x C=>?_],by rw[af,i5];rfl,by rw[au an];exact ag,?_]
  .rcases L0.mp C with h|h
   .exact Y x h
   .rw[EF.mp h,Ry];omega
  .rcases L0.mp C with h|h
   .exact O x h
   .rw[EF.mp h];exact ar.append (Lo.q b)
  .by_cases cj:j<I.length
   .rw[N9 cj]at C;exact aa j x C
   .have hj:j=i:=by have:=(bH.mp C).1;rw[i4]at this;simp at this;omega
    subst hj;rw[NR (),t,S9]at C;simp at C;rw[<-C];exact aq.snoc _
  .refine#[λb o nb e=>?_,?_]
   .rw[au (ay e aj)];exact xi.1 b o nb e
   .have(a,b,z):=xi.2;exact#[a,b,by rw[au ac.symm];exact z]
 .rintro σ Hi ⟨I,v9,W,U,rfl,t,⟨Y,O,aa⟩,D,ag,xi⟩;have fin:∀(Hf:Hp) (G:List Str),Ext r H Hf->Hf l=some (.lst (G.map V.str))->G.length=m->(∀x∈G,x.length<=20/\Lo x)->Un G->Q (.ref l) Hf:=λHf G a b c d=>k l Hf G a aj b c d;have X:∀{Hf:Hp}(G:List Str),Ext r H Hf->Hf l=some (.lst (G.map V.str))->G.length=m->(∀x∈G,x.length<=20/\Lo x)->Un G->Jy (mO 8) {nx:=λ_ H'=>Q .eN H',rt:=Q} [some (.ref r),some (.int m),some (.str "abcdefghijklmnopqrstuvwxyz"),some (.str y),some (.int d1),some (.int B),some (.int d3),some (.ref g),some (.ref l),v9,W,U] Hf:=λG a b c d u=>#[_,rfl,fin _ G a b c d u];have un:Un I:=uv.M0 () aa;have S:∀x∈I,x.length<=20/\Lo x:=λx C=>#[Nz (Y x C) (by decide),O x C];refine#[_,rfl,_,_,rfl,rfl,_,rfl,bW (λc=>?_) (λc=>?_)]
  .have c1:1<m:=by have z:(1:Int)<(m:Int):=of_decide_eq_true c;omega
   obtain⟨M,N,x1,rfl⟩:∃M N x1,I=M++[N,x1]:=by
    rcases Qk I with rfl|⟨a,x1,rfl⟩
    .simp at t;omega
    rcases Qk a with rfl|⟨b,N,rfl⟩
    .simp at t;omega
    exact#[b,N,x1,by simp]
   have l2:N.length<=10:=Y N (by simp);have a2:eK ((M++[N,x1]).map V.str) (-2)=some (.str N):=by rw[i5];exact IQ _ _ _
   refine#[_,rfl,_,rfl,l,_,_,_,rfl,rfl,bQ.of D,a2,_,rfl,small (),_,_,rfl,rfl,_,rfl,bW (λc=>?_) (λc=>?_)]
   .refine#[_,rfl,r,4,rfl,by decide,by decide,xi.2,λd4 a4 _ _ aw=>?_];have xj:=xi.trans aw;have ai:=aw.1 l _ ac D;refine#[rfl,_,rfl,bW (λc=>?_) (λc=>?_)]
    .refine#[_,rfl,_,rfl,l,_,_,_,rfl,rfl,bQ.of ai,a2,_,_,rfl,rfl,small (by show _+1<=1000;omega),?_];refine#[_,rfl,_,rfl,l,_,_,M.length+1,rfl,rfl,ai,?_,?_]
     .exact IS _ _ (by simp)
     refine X (M++[N,N++Oi "q"]) ?_ ?_ ?_ ?_ (uv.last () (by decide) aa)
     .refine#[λb o nb e=>?_,?_]
      .rw[au (ay e aj)];exact xj.1 b o nb e
      .have(a,b,z):=xj.2;exact#[a,b,by rw[au ac.symm];exact z]
     .rw[af];simp
     .rw[<-t];simp
     .intro x C;simp at C;rcases C with h|rfl|rfl
      .exact S x (by simp[h])
      .exact#[(),O _ (by simp)]
      .refine#[?_,(O N (by simp)).append Lo.q1];rw[Ry];have:(Oi "q").length=1:=by decide
       omega
    .exact X _ xj ai t S un
   .exact X _ xi D t S un
  .exact X _ xi D t S un
theorem Au {xs:List Str}(d:cM H f)(h:H l=some (.lst (xs.map V.str))):l≠f:=λz=>by
 have(p,q,e):=d;rw[<-z,h]at e;injection e with e;injection e with e
 cases xs with
 |nil=>cases e
 |cons y ys=>rw[Ny]at e;injection e with e;cases e
theorem Kk.ki :∀{k:Kk},k.ok xs↔k.core.ok xs
 |.num=>Iff.rfl
 |.kd _=>Iff.rfl
 |.op _=>Iff.rfl
 |.row k=>Kk.ki (k:=k)
def FP(ah:List Str)(e:List Int)(k:Kk)(d:List Int):Prop:=(d=e/\k.ok ah)\/∃o g,e=g++[o]/\e.length<4/\k.core=.op ((o+7) % 100)/\d=e++[(o+7) % 100]
def lW(K:bN):Sp:=λo H Q _=>∃(f m e:Addr) (l:List Str) (j:List Int),o=[.ref f,.ref m,.ref e]/\cM H f/\H m=some (.lst (l.map V.str))/\l.length<=100/\H e=some (.lst (j.map V.int))/\e≠f/\j.length<=100 /\
 ∀(v:V) (g:Hp) (k:Kk) (d:List Int),dZ [e] f H g->g e=some (.lst (d.map V.int))->Rp K g (jI k) v->FP l j k d->Q v g
theorem bC :Nm Vn (ak dF):=by decide
theorem eV :Lm Vn (ak dF):=by decide
theorem dU :aZ Vn Vl (ak dF):=by ac_rfl
theorem FQ {P:IF}{w:Nn}{K:bN}{mg:Str->Option eF}{base:Heap}{gT:Addr}{tfd:L1}{f:Addr}{cdv:eF}{A:Nx}{outer:List OJ}{s:fy}{O:Hp}{E:XK}(W:eL P w K mg base "_law_take" 1 U7 cC gT tfd)(z_range:mg "range"=none)(hr:di 1 (A.deeper (Np "_law_named_kind" (ak dF) s.heap.objs.size f cdv))){D:L2.Ends}{H:Hp}{fe:Addr}{v:V}{k0:Kk}{o1 o2 o3 y:Option V}(hf:cM H fe)(r:Rp K H (jI k0) v)(k:∀e G d,Ext fe H G->Rp K G (jI d) e->d.core=k0.core->D.rt e G):
  ja (Zi gy Vn "_law_named_kind" (ak dF) O).nN ((bh dF).drop 4) D [some (.ref fe),o1,o2,o3,some v,y] H:=by
 refine d7 ((Z5 (Zg NH (Zq (Z1 (Zk bx (Zt (Z1 aC (Z1 aC (c8 aC (Zc aC))))) (Z0 W (c8 (va bC 0) (Zc aC)))) aA)) (ga dU.nd eV 5) (Zd (Z4 dU.nd eV 4 (Zl (Z1 aG (Zc (va bC 4))))))) (Zd (cG (va bC 4))))) ?_
 right
 right
 ext l L;have u:=ae L (.lst [.int 0,.int 0,.int 1,.int 2]);have M:upd H l (.lst [.int 0,.int 0,.int 1,.int 2]) l=some (.lst [.int 0,.int 0,.int 1,.int 2]):=af;have B:=hf.same u;have R:=bB hf L;generalize upd H l (.lst [.int 0,.int 0,.int 1,.int 2])=O at u M B|-;ext m N T S I;have Y:bQ K N l [.int 0,.int 0,.int 1,.int 2]:=bQ.of (I.1 _ _ R M);have g:Ext fe H N:=((Ext.refl hf).same u).trans I;have(z,X,j):=oV (xs:=[V.int 0,.int 0,.int 1,.int 2]) (k:=m) T S
 obtain⟨n,rfl,U⟩:∃n:Nat,z=.int n/\n<=2:=by
  simp only[Nc,NB,or_false]at j;rcases j with rfl|rfl|rfl|rfl
  .exact#[0,rfl,()]
  .exact#[0,rfl,()]
  .exact#[1,rfl,()]
  .exact#[2,rfl,()]
 ext;refine iG (n:=n) (λi q o=>∃e d y,q=[some (.ref fe),o1,o2,o3,some e,y]/\(Ext fe H o/\Rp K o (jI d) e/\d.core=k0.core)) #[v,k0,_,rfl,g,r.kt (g.kt hf),rfl] ?_ ?_
 .rintro i q o hi ⟨e,d,_,rfl,t,r3,C⟩;ext p J;have Q:=ae J (.tup [.str "row",e]);exact#[_,.row d,_,rfl,t.same Q,Rp.new (K:=K) J (.cons .s (.one r3)),C]
 .rintro q o ⟨e,d,_,rfl,t,r3,C⟩;ext;exact k _ _ d t r3 C
theorem Dz (F:jq K "_law_named_kind" "_law_named_kind" dF f fd)(TK:eL P w K mg base "_law_take" 1 U7 cC gT tfd)(z_range:mg "range"=none)(d:mg "len"=none):cA P w K mg base gy 2 f fd Vl (lW K):=by
 refine F.ok dU (λvs H Q E h=>?_) (λcdv A outer s H vs Q E hr h=>?_)
 .have(_,_,_,_,_,rfl,_):=h;rfl
 have(u,U,j,R,B,rfl,Z,J,ag,I,r,ac,k):=h;refine#[_,(Z5 (Z4 dU.nd eV 3 (Z0 TK (c8 (va bC 0) (Zc aC)))) (Z5 (sa dU.nd eV 4 aG) (Z5 (Zb (PW.pt (@gz _ _ _ _ _ _ _ (Zo bV (va bC 3) aC) (@fz _ _ _ _ (Zh pJ (Z2 aJ d Nl (Zc (va bC 1))) aC (bI _))))) (Zd (Z4 dU.nd eV 4 (Zl (Z1 aG (Z1 (Zk bx (va bC 1) (Z0 TK (Z1 (va bC 0) (Z1 (Z2 aJ d Nl (Zc (va bC 1))) aA)))) aA)))))) (Z5 (Zb (PW.pt (@gz _ _ _ _ _ _ _ (Zo bV (va bC 3) aC) (@fz _ _ _ _ (@B5 _ _ _ _ _ _ _ _ _ _ _ _ mS mS aC (Z2 aJ d Nl (Zc (va bC 2))) aC (by with_unfolding_all rfl))))) (Z5 (Zn (Z6 (va bC 2) (Z1 (Zm iR (Zm dR (iI bx (va bC 2) (pH lE aC) (λ_ _=>rfl)) aC) aC) aA))) (Zd (Z4 dU.nd eV 4 (Zl (Z1 aG (Z1 (iI bx (va bC 2) (pH lE aC) (λ_ _=>rfl)) aA))))))) cK)))),?_]
 right
 right
 refine tJ ?_;intro N1 N2 N3 N4 c1 c2 C N;have G:=Au Z J;ext fm H1 an am y;have aj:=y.2;have aa:=y.1 _ _ G J;have ak:=y.1 _ _ r I;have f1:dZ [j] u H H1:=Ext.sX Z y
 have fin:∀{v:V}{e:Hp}{k0:Kk}{q:List Int}{D:Option V},dZ [j] u H e->e j=some (.lst (q.map V.int))->Rp K e (jI k0) v->(∀g:Kk,g.core=k0.core->FP R B g q)->N4 [some (.ref u),some (.ref U),some (.ref j),some (.int fm),some v,D] e:=λ{v e k0 q D} M h2 r2 ok=>by
  refine Cut.go N ?_;exact FQ TK z_range hr M.ff r2 λv' H' g x' r' m=>k v' H' g q (M.ext x') (x'.1 _ _ r h2) r' (ok g m)
 clear N
 have z:∀{v:V}{k0:Kk}{e:Hp}{D:Option V},Ext u H e->Rp K e (jI k0) v->(∀g:Kk,g.core=k0.core->g.ok R)->N3 [some (.ref u),some (.ref U),some (.ref j),some (.int fm),some v,D] e:=λ{v k0 e D} x2 r2 ok=>by
  have L:=x2.1 _ _ r I;have M:dZ [j] u H e:=Ext.sX Z x2;have same:N4 [some (.ref u),some (.ref U),some (.ref j),some (.int fm),some v,D] e:=fin M L r2 λg m=>.inl #[rfl,ok g m];have lm:(B.map V.int).length=B.length:=bM _;ext;refine bW (λc=>?_) (λc=>?_)
  .ext;refine bW (λC=>?_) (λC=>?_)
   .ext;refine bW (λN=>?_) (λN=>?_)
    .have O:(0:Int)<((B.map V.int).length:Int):=of_decide_eq_true C;have ao:((B.map V.int).length:Int)<4:=of_decide_eq_true N
     obtain⟨l,o,rfl⟩:∃l o,B=l++[o]:=by
      rcases Qk B with rfl|⟨a,b,rfl⟩
      .simp at O
      .exact#[a,b,Tn]
     have al:eK ((l++[o]).map V.int) (-1)=some (.int o):=by rw[i5];exact sE _ _
     have ap:eK ((l++[o]).map V.int++[.int ((o+7) % 100)]) (-1)=some (.int ((o+7) % 100)):=sE _ _;have ll:((l++[o]).map V.int).length<mH:=br ();have ab:bQ K (upd e j (.lst ((l++[o]).map V.int++[.int ((o+7) % 100)]))) j ((l++[o]).map V.int++[.int ((o+7) % 100)]):=bQ.of af;have f3:dZ [j] u H (upd e j (.lst ((l++[o]).map V.int++[.int ((o+7) % 100)]))):=M.upd (EF.mpr rfl) r L;have h3:upd e j (.lst ((l++[o]).map V.int++[.int ((o+7) % 100)])) j=some (.lst ((l++[o]++[(o+7) % 100]).map V.int)):=by rw[af,i5 (l₁:=l++[o])];rfl
     ext p hp;have s4:=ae hp (.tup [.str "open",.int ((o+7) % 100)]);exact fin (k0:=.op ((o+7) % 100)) (f3.same s4) (s4 _ _ h3) (Rp.new (K:=K) hp (.cons .s (.one .i))) λg m=>.inr #[o,l,rfl,(),m,rfl]
    .ext;exact same
   .ext;exact same
  .ext;exact same
 clear C;ext;refine bW (λc=>?_) (λc=>?_)
 .ext;refine bW (λC=>?_) (λC=>?_)
  .have O:(0:Int)<((R.map V.str).length:Int):=of_decide_eq_true C;have ad:((R.map V.str).length:Int)<1073741824:=by rw[bM];omega
   ext r5 H5 T S x5;have h5:=x5.1 _ _ G aa;have(v5,ai,Y):=oV (xs:=R.map V.str) T S;have(y5,W,rfl):=NI.mp Y;ext p6 X;have s6:=ae X (.tup [.str "kind",.str y5]);exact z (k0:=.kd y5) (y.trans (x5.same s6)) (Rp.t (cP.of af) (.cons .s (.one .s))) (λg m=>by rw[Kk.ki,m];exact W)
  .ext;exact z (k0:=.num) y .s (λg m=>by rw[Kk.ki,m];exact True.intro)
 .ext;exact z (k0:=.num) y .s (λg m=>by rw[Kk.ki,m];exact True.intro)
def Kv(xs:List Str)(t:Str×List Kk):Prop:=t.2.length<=2/\∀c∈t.2,c.ok xs
structure BD(xs:List Str) (kl:Kl):Prop where
 nm:kl.map (·.1)=xs.take kl.length
 tg:jc kl=(xs.drop 3).take (jc kl).length
 pt:∀i k,kl[i]?=some k->1<=k.2.length/\k.2.length<=3/\∀t∈k.2,Kv (xs.take i) t
def Av(K:bN):Sp:=λl H Q _=>∃(f j:Addr) (d:List Str),l=[.ref f,.ref j]/\cM H f/\H j=some (.lst (d.map V.str))/\d.length=24 /\
 ∀(v:V) (g:Hp) (e:Kl),Ext f H g->BD d e->e.length<=3->Rp K g (.t (e.map gZ)) v->Q v g
structure M4(K:bN) (f lf:Addr) (xs:List Str) (H:Hp) (i:Nat) (at_:Int) (H':Hp):Prop where
 x:∃(kl:Kl) (vs:List V),dZ [] f H H'/\H' lf=some (.lst vs)/\bO K H' (kl.map gZ) vs/\kl.length=i/\BD xs kl/\at_=3+(jc kl).length/\(jc kl).length<=3*i
structure HJ(K:bN) (f lo:Addr) (xs:List Str) (H:Hp) (i Js j:Nat) (at_:Int) (H':Hp):Prop where
 x:∃(own:List (Str×List Kk)) (us:List V),dZ [lo] f H H'/\H' lo=some (.lst us)/\bO K H' (own.map kI) us/\own.length=j/\own.map (·.1)=((xs.drop 3).drop Js).take j/\(∀t∈own,Kv (xs.take i) t)/\at_=3+Js+j
structure HP(K:bN) (f:Addr) (xs:List Str) (H:Hp) (i:Nat) (us:List V) (H':Hp):Prop where
 x:∃(ps:List Kk),dZ [] f H H'/\bO K H' (ps.map jI) us/\ps.length=i/\∀c∈ps,c.ok xs
theorem dh :Nm Vj (ak jR):=by decide
theorem iD :Lm Vj (ak jR):=by decide
theorem ie :aZ Vj VT (ak jR):=by ac_rfl
theorem DA (F:jq K "_law_heads" "_law_heads" jR f fd)(TK:eL P w K mg base "_law_take" 1 U7 cC gT tfd)(ba:eL P w K mg base "_law_named_kind" 2 Vl (lW K) gA afd)(z_range:mg "range"=none)(p:mg "tuple"=none):cA P w K mg base gy 3 f fd VT (Av K):=by
 refine F.ok ie (λvs H Q E h=>?_) (λcdv A outer s H vs Q E hr h=>?_)
 .have(_,_,_,rfl,_):=h;rfl
 have(U,ln,xs,rfl,hf,hn,hx,k):=h;refine#[_,(Z5 (sa ie.nd iD 2 (dB aA)) (Z5 (sa ie.nd iD 3 aC) (Z5 (Zg NH (Zq (Z1 (Z0 TK (c8 (va dh 0) (Zc aC))) aA)) (ga ie.nd iD 4) (Z5 (sa ie.nd iD 5 (dB aA)) (Z5 (Zg NH (Zq (Z1 (Zm dR aC (Z0 TK (c8 (va dh 0) (Zc aC)))) aA)) (ga ie.nd iD 6) (Z5 (@nh _ _ _ _ _ _ _ _ _ _ _ _ _ _ _ (ak jR) Vj ["_law_i"] [0,1,4] rfl rfl rfl (by decide) (Zq (Z1 (Z0 TK (c8 (va dh 0) (Zc aC))) aA)) (λ_ _ _ _=>(Z3 (i:=0) (show(Vx:List Str).Nodup by decide))) (λ_ _ _ _=>fZ) (λ_ _ _ _=>(Z0 ba (Z1 (va (show Nm Vx _ by left) 1) (Z1 (@dX _ _ _ _ _ _ _ _ _ _ (Cu K rfl) (va (show Nm Vx _ by left) 2) eY (dj (va (show Nm Vx _ by left) 3))) (Zc (dB aA)))))) (ga ie.nd iD 7) (by kernel_rfl) (by intro _;rfl)) (Z5 (Zn (Z6 (va dh 5) (Z1 (Zl (Z1 (iI bx (va dh 1) (va dh 3) (λ_ _=>rfl)) (Z1 (Z7 cQ p N8 (Zc (va dh 7))) aA))) aA))) (Zd (Z4 ie.nd iD 3 (bS dR (va dh 3) aC)))))) (Zd (Zn (Z6 (va dh 2) (Z1 (Zl (Z1 (iI bx (va dh 1) (va dh 4) (λ_ _=>rfl)) (Z1 (Z7 cQ p N8 (Zc (va dh 5))) aA))) aA))))))) (Zd (Zu (Z7 cQ p N8 (Zc (va dh 2)))))))),?_]
 right
 right
 ext lf am;have s1:=ae am (.lst []);have h1:upd H lf (.lst []) lf=some (.lst []):=af;generalize upd H lf (.lst [])=H1 at s1 h1|-;have f1:dZ [] U H H1:=(dZ.refl hf).same s1;have bt:=f1.ff;ext m H2 m0 m1 x2;have f2:=f1.ext x2;have aa:=bB hf am;have h2:=x2.1 _ _ aa h1;have C:=Au hf hn;ext;refine iG (n:=m.toNat) (λi N H3=>(∃(G:Int) (y4 y5 y6 y7:Option V),N=[some (.ref U),some (.ref ln),some (.ref lf),some (.int G),y4,y5,y6,y7]/\G14.M4 K U lf xs H i G H3)) #[3,_,_,_,_,rfl,#[[],[],f2,h2,.nil,rfl,#[rfl,rfl,λi k h=>by cases h],rfl,Nu _]] ?_ ?_
 .rintro i N H3 hi ⟨G,_,_,_,_,rfl,⟨kl,vs,f3,h3,r3,lk,ok,ha,a5⟩⟩;have a2:=f3.ff;ext Y T;have s4:=ae T (.lst []);have h4:upd H3 Y (.lst []) Y=some (.lst []):=af;generalize upd H3 Y (.lst [])=H4 at s4 h4|-;have f4:=f3.same s4;have a1:=f4.ff;ext m5 H5 bi bh x5;have f5:=f4.ext x5;have Z:=bB a2 T;have ag:lf≠Y:=ay h3 T;have h5:=x5.1 _ _ Z h4;have a7:=x5.1 _ _ aa (s4 _ _ h3);have r5:=(r3.same s4).kt (x5.kt a1);have aj:=x5.1 _ _ C (s4 _ _ (f3.CA C hn));have L:ln≠Y:=ay (f3.CA C hn) T;ext;refine iG (n:=(1+m5).toNat) (λj N H6=>(∃(G:Int) (y6 y7:Option V),N=[some (.ref U),some (.ref ln),some (.ref lf),some (.int G),some (.int (0+(i:Int))),some (.ref Y),y6,y7]/\HJ K U Y xs H5 i (jc kl).length j G H6)) #[G,_,_,rfl,#[[],[],dZ.refl f5.ff,h5,.nil,rfl,rfl,λt h=>(nomatch h),()]] ?_ ?_
  .rintro j N H6 hj ⟨d,_,_,rfl,⟨own,X,f6,h6,r6,ai,ac,ad,a4⟩⟩;have a0:=f6.ff;ext m7 H7 bg bf x7;have f7:=f6.ext x7;ext;refine lJ (n:=m7.toNat) (λi7 N X H8=>(∃y,N=[y,some (.ref U),some (.ref ln),some (.int (0+(i:Int)))])/\HP K U (xs.take i) H7 i7 X H8) #[#[_,rfl],#[[],dZ.refl x7.2,.nil,rfl,λc h=>by cases h]] ?_ (small ()) ?_ ?_
   .rintro i7 N X H8 h ⟨_,⟨ps,_,r,e,_⟩⟩;rw[r.length,bM,e];exact lj _
   .rintro i7 N us7 H8 hi7 ⟨⟨_,rfl⟩,⟨ps,f8,r8,l8,o8⟩⟩;have bn:H8 ln=some (.lst (xs.map V.str)):=f8.CA C (f7.jE L C aj);have bs:=f8.ff;have e0:ju (xs.map V.str) none (some (0+(i:Int)))=(xs.take i).map V.str:=by rw[Rc,iL,Po]
    ext l9 az;rw[e0];have s9:=ae az (.lst ((xs.take i).map V.str));have h9:upd H8 l9 (.lst ((xs.take i).map V.str)) l9=some (.lst ((xs.take i).map V.str)):=af;generalize upd H8 l9 (.lst ((xs.take i).map V.str))=H9 at s9 h9|-;have f9:=f8.same s9;ext lq al;have sq:=ae al (.lst []);have hq:upd H9 lq (.lst []) lq=some (.lst (([]:List Int).map V.int)):=af;have ax:=sq _ _ h9;generalize upd H9 lq (.lst [])=Hq at sq hq ax|-;have fq:=f9.same sq;have bp:=fq.ff;have be:lq≠U:=bB f9.ff al;have bj:(xs.take i).length<=100:=by rw[I0];omega
    have l0:([]:List Int).length<=100:=Nu _;ext bc W ap bb as _ I aw
    have an:ap.ok (xs.take i):=by
     rcases aw with⟨_,z⟩|⟨o,ot,z,_⟩
     .exact z
     .cases ot<;>cases z
    have a9:dZ [] U H7 W:=(fq.more.trans as).drop (f9.free al nofun)
    ext;exact#[ps++[ap],a9,by rw[i5];exact(((r8.same s9).same sq).kt as.kt).snoc I,by rw[i4,l8];rfl,λc hc=>(L0.mp hc).elim (o8 c) (λh=>by rw[EF.mp h];exact an)]
   .rintro N us7 H8 ⟨⟨_,rfl⟩,⟨ps,f8,r8,l8,o8⟩⟩ p9 hp9;have s9:=ae hp9 (.lst us7);have h9:upd H8 p9 (.lst us7) p9=some (.lst us7):=af;have r9:=r8.same s9;generalize upd H8 p9 (.lst us7)=H9 at s9 h9 r9|-;have f9:=f8.same s9;have ao:H9 Y=some (.lst X):=f9.CA Z (x7.1 _ _ Z h6);have bl:X.length<mH:=br (by rw[r6.length,bM];omega);have bm:H9 ln=some (.lst (xs.map V.str)):=f9.CA C (f7.jE L C aj);have a3:d.toNat<xs.length:=()
    have ar:eK (xs.map V.str) d=some (.str xs[d.toNat]):=by
     have:=aH (xs:=xs.map V.str) (j:=d.toNat) (v:=.str xs[d.toNat]) (by rw[xn,my a3];rfl);rw[show((d.toNat:Nat):Int)=d by omega]at this;exact this
    ext;refine .inl #[bQ.of h9,λB g=>?_];have q:=ae g (.tup us7);have I:=Rp.new (K:=K) g r9;have R:=q _ _ ao;generalize upd H9 B (.tup us7)=W at q I R|-;ext J D;have u:=ae D (.tup [.str xs[d.toNat],.ref B]);have O:=Rp.new (K:=K) (xs:=[.s xs[d.toNat],.t (ps.map jI)]) D (.cons .s (.one I));have M:=u _ _ R;generalize upd W J (.tup [.str xs[d.toNat],.ref B])=H11 at u O M|-;have ab:=(f9.same q).same u;have a8:dZ [Y] U H5 H11:=f7.trans ab.more;have S:=Kt.lst (l:=Y) M (.lst (X++[.ref J]));ext;refine#[own++[(xs[d.toNat],ps)],X++[.ref J],a8.upd (EF.mpr rfl) Z M,af,?_,by rw[i4,ai];rfl,?_,λt hm=>(L0.mp hm).elim (ad t) (λh=>by rw[EF.mp h];exact#[by show ps.length<=2;omega,o8]),()]
    .rw[i5];exact(((r6.kt (x7.kt a0)).kt ab.kt).kt S).snoc (O.kt S)
    .rw[i5,ac,mu (by rw[N7,N7];omega),UB,UB];have ei:d.toNat=3+((jc kl).length+j):=()
     simp only[ei];rfl
  .rintro N H6 ⟨d,_,_,rfl,⟨own,X,f6,h6,r6,ai,ac,ad,a4⟩⟩;have a6:=f6.jE ag aa a7;have av:=r5.kt f6.kt;have bo:H6 ln=some (.lst (xs.map V.str)):=f6.jE L C aj;have bk:vs.length<mH:=br (by rw[r3.length,bM];omega);have aq:i<xs.length:=()
   have ar:eK (xs.map V.str) (0+(i:Int))=some (.str xs[i]):=by
    rw[Rc];exact aH (by rw[xn,my aq];rfl)
   ext;refine .inl #[bQ.of h6,λB g=>?_];have q:=ae g (.tup X);have I:=Rp.new (K:=K) g r6;have R:=q _ _ a6;generalize upd H6 B (.tup X)=W at q I R|-;ext J D;have u:=ae D (.tup [.str xs[i],.ref B]);have O:=Rp.new (K:=K) (xs:=[.s xs[i],.t (own.map kI)]) D (.cons .s (.one I));have M:=u _ _ R;generalize upd W J (.tup [.str xs[i],.ref B])=H11 at u O M|-;have ab:dZ [] U H H11:=((f5.more.trans f6).drop (f3.free T nofun)).same (q.trans u)
   have S:=Kt.lst (l:=lf) M (.lst (vs++[.ref J]));ext
   have et:jc (kl++[(xs[i],own)])=jc kl++own.map (·.1):=by
    unfold jc;rw[NU];simp
   have ah:(own.map (·.1)).length=own.length:=bM _;refine#[kl++[(xs[i],own)],vs++[.ref J],ab.Cz am aa M,af,?_,by rw[i4,lk];rfl,#[?_,?_,?_],?_,?_]
   .rw[i5];exact((av.same (q.trans u)).kt S).snoc (O.kt S)
   .rw[i5,ok.nm,i4,lk,show [(xs[i],own)].length=1 from rfl,mu aq];rfl
   .rw[et,i4,ah,ac,ok.tg,I0,N7,PN ()]
    conv=>lhs;rw[ai.symm]
    rw[List.take_add]
   .intro i' k' e'
    by_cases c:i' < kl.length
    .rw[N9 c]at e';exact ok.pt i' k' e'
    .rw[NR ()]at e'
     have:i'=i:=by
      have:=(bH.mp e').1;have:[(xs[i],own)].length=1:=rfl;omega
     subst this;rw[lk,S9]at e'
     cases e'
     exact#[by show 1<=own.length;omega,by show own.length<=3;omega,ad]
   .rw[et,i4,ah];omega
   .rw[et,i4,ah];omega
 .rintro N H3 ⟨G,_,_,_,_,rfl,⟨kl,vs,f3,h3,r3,lk,ok,ha,a5⟩⟩;ext;refine .inl #[bQ.of h3,λB g=>?_];have q:=ae g (.tup vs);exact k _ _ kl (f3.same q).ex ok () (Rp.new (K:=K) g r3)
def Gd(kl:Kl)(ds:List (Str×Nat))(ns:List Str)(g g':List Int)(j:Tm):Prop:=∀e:List Int,(∀x∈e,x∈g)->∃d,uD kl ds e ns j=.ok d/\∀x∈d,x∈g'
def GY(kl:Kl)(ds:List (Str×Nat))(ns:List Str)(g g':List Int)(bs:List (List Str))(ks:List Tm):Prop:=∀e:List Int,(∀x∈e,x∈g)->∃d,jF kl ds e ns bs ks=.ok d/\∀x∈d,x∈g'
theorem Aw :GY kl ds ns g g bs []:=λd h=>#[d,j5 ..,h]
theorem DB (h:Gd kl ds (ns++b) g g1 k)(hs:GY kl ds ns g1 g2 bs ks):GY kl ds ns g g2 (b::bs) (k::ks):=λo m=>by
 have(e,q,l):=h o m;have(d,p,j):=hs e l;exact#[d,by rw[jn,q];exact p,j]
theorem GZ (ht:∀d,eO kl ds d ns h ks.length=.ok d)(hs:GY kl ds ns g g' (bnd h ks.length) ks):Gd kl ds ns g g' (.mk h ks):=λd j=>by
 have(x,e,m):=hs d j;exact#[x,by rw[uc,ht d];exact e,m]
theorem IT (h:n∉g):Gd kl ds ns g (g++[n]) (.mk (.gap n) []):=λd e=>by
 refine#[d++[n],?_,λx hx=>?_]
 .rw[uc]
  show(match(if n∈d then Except.error (Er.tw,("?":Str))else .ok (d++[n]))with
   |.error f=>Except.error f
   |.ok gs'=>jF kl ds gs' ns (bnd (.gap n) 0) [])=_
  rw[if_neg (λz=>h (e n z))];exact j5 ..
 .rcases L0.mp hx with hx|hx
  .exact L0.mpr (.inl (e x hx))
  .exact L0.mpr (.inr hx)
theorem Gd.wk (h:Gd kl ds ns g g1 d)(m:∀x∈g1,x∈g2):Gd kl ds ns g g2 d:=λo l=>by
 have(x,e,q):=h o l;exact#[x,e,λy j=>m y (q y j)]
theorem GY.wk (h:GY kl ds ns g g1 bs ks)(m:∀x∈g1,x∈g2):GY kl ds ns g g2 bs ks:=λl j=>by
 have(x,e,q):=h l j;exact#[x,e,λy d=>m y (q y d)]
noncomputable def oZ(f0:Int)(m:Nat):List Int:=(Pc m).map λ(k:Nat)=>(f0+11*(k:Int)) % 100
theorem FT (h:m<=m'):∀x∈oZ f0 m,x∈oZ f0 m':=λx d=>by
 have(k,e,rfl):=NI.mp d;exact NI.mpr #[k,Py.mpr (Ni (Py.mp e) h),rfl]
theorem wK (f0:Int)(m:Nat):oZ f0 (m+1)=oZ f0 m++[(f0+11*(m:Int)) % 100]:=by
 unfold oZ;rw[RN,i5];rfl
theorem IU (h:m<5):(f0+11*(m:Int)) % 100∉oZ f0 m:=λz=>by
 have(k,g,e):=NI.mp z;have d:=Py.mp g;omega
theorem IV (f0:Int)(m:Nat):(oZ f0 m).length=m:=by
 unfold oZ;rw[bM,Rf]
structure lX(kl:Kl) (ds:List (Str×Nat)) (f0:Int) (ns:List Str) (m m' z d:Nat) (tm:Tm):Prop where
 wn:Wn tm
 ta:Ta tm
 sz:tm.size<=z
 dp:tm.depth<=d
 gd:Gd kl ds ns (oZ f0 m) (oZ f0 m') tm
 mm:m<=m'
structure jC(kl:Kl) (ds:List (Str×Nat)) (f0:Int) (ns:List Str) (bs:List (List Str)) (m m' z d:Nat) (ks:List Tm):Prop where
 wn:∀k∈ks,Wn k
 ta:∀k∈ks,Ta k
 sz:Tm.sizes ks<=z
 dp:∀k∈ks,k.depth<=d
 gd:GY kl ds ns (oZ f0 m) (oZ f0 m') bs ks
 mm:m<=m'
theorem jC.nil (h:m<=m1):jC kl ds f0 ns bs m m1 0 d []:=#[(λ_ h=>nomatch h),(λ_ h=>nomatch h),(by simp[Tm.sizes]),(λ_ h=>nomatch h),Aw.wk (FT h),h]
theorem jC.cons {ds:List (Str×Nat)}{f0:Int}{ns:List Str}{m m1 m2 z z1 d:Nat}{b:List Str}{bs:List (List Str)}{k:Tm}{ks:List Tm}(h:lX kl ds f0 (ns++b) m m1 z d k)(t:jC kl ds f0 ns bs m1 m2 z1 d ks):jC kl ds f0 ns (b::bs) m m2 (z+z1) d (k::ks) :=
 #[λx g=>(Nc.mp g).elim (λe=>e▸h.wn) (t.wn x),λx g=>(Nc.mp g).elim (λe=>e▸h.ta) (t.ta x),by rw[Tm.eB];have:=h.sz;have:=t.sz;omega,λx g=>(Nc.mp g).elim (λe=>e▸h.dp) (t.dp x),DB h.gd t.gd,Nz h.mm t.mm]
theorem jC.jh (h:lX kl ds f0 ns m m1 z d k)(t:jC kl ds f0 ns bs m1 m2 z1 d ks):jC kl ds f0 ns ([]::bs) m m2 (z+z1) d (k::ks):=jC.cons (b:=[]) (by rw[NF];exact h) t
theorem qO :∀{ks:List Tm},(∀k∈ks,k.depth<=d)->Tm.mY ks<=d
 | [],_=>by rw[Tm.mY];exact Nu _
 |k::r,h=>by rw[Tm.mY];exact Nat.max_le.mpr #[h k (.head _),qO λx e=>h x (.tail _ e)]
theorem lX.FU (l:fc h ks.length=true)(j:∀b∈bnd h ks.length,b.length<=5)(o:tW h)(g:HW h)(ht:∀e,eO kl ds e ns h ks.length=.ok e)(t:jC kl ds f0 ns (bnd h ks.length) m m1 z d ks)(p:z+1<=z1):lX kl ds f0 ns m m1 z1 (d+1) (.mk h ks):=by
 refine#[.mk l j t.wn,.mk o g t.ta,by rw[Tm.ik];have:=t.sz;omega,?_,GZ ht t.gd,t.mm]
 cases ks with
 |nil=>rw[Tm.depth];exact Nu _
 |cons k r=>rw[Tm.oU];exact Pw (qO t.dp)
theorem lX.leaf (o:fc h 0=true)(l:∀b∈bnd h 0,b.length<=5)(p:tW h)(j:HW h)(ht:∀e,eO kl ds e ns h 0=.ok e)(g:1<=z):lX kl ds f0 ns m m z d (.mk h []):=by
 refine#[.mk o l (λ_ h=>nomatch h),.mk p j (λ_ h=>nomatch h),by rw[Tm.ik];simp[Tm.sizes];exact g,by rw[Tm.depth];exact Nu _,GZ ht Aw,lj _]
theorem lX.gap (h:m<5)(g:1<=z):lX kl ds f0 ns m (m+1) z d (.mk (.gap ((f0+11*(m:Int)) % 100)) []):=by
 refine#[.mk rfl (λb j=>by cases j) (λ_ h=>nomatch h),.mk (λ_ e=>nomatch e) True.intro (λ_ h=>nomatch h),by rw[Tm.ik];simp[Tm.sizes];exact g,by rw[Tm.depth];exact Nu _,?_,OC _]
 rw[wK];exact IT (IU h)
theorem lX.wk (h:lX kl ds f0 ns m m1 z d g)(j:z<=e)(hd:d<=d'):lX kl ds f0 ns m m1 e d' g:=#[h.wn,h.ta,Nz h.sz j,Nz h.dp hd,h.gd,h.mm]
theorem ig (q:∀arms,h≠.mat arms):tW h:=λarms e=>absurd e (q arms)
theorem lY :∀b∈(Ng n ([]:List Str)),b.length<=5:=λb e=>by rw[(Um.mp e).2];exact Nu _
def yC(k:Kk):Prop:=∀x,k.core=.kd x->Wo x
def Eb(k:Str×List (Str×List Kk)):Prop:=1<=k.2.length/\k.2.length<=3/\(∀t∈k.2,t.2.length<=2)/\Wo k.1/\∀t∈k.2,Wo t.1/\∀c∈t.2,yC c
def G0(d:Df):Prop:=Wo d.1/\∀p∈d.2.1,Wo p.1/\yC p.2
structure G1(kl:Kl):Prop where
 nk:(kl.map (·.1)).Nodup
 nt:(jc kl).Nodup
 l3:kl.length<=3
 pt:∀k∈kl,1<=k.2.length/\k.2.length<=3/\∀t∈k.2,t.2.length<=2
 nw:∀k∈kl,Wo k.1/\∀t∈k.2,Wo t.1
noncomputable def wW(kl:Kl):List (Str×Nat):=kl.flatMap λk=>k.2.map λt=>(t.1,t.2.length)
theorem lZ {g:Type}(d:g->Str):∀{l:List g}{x:g},(l.map d).Nodup->x∈l->l.find? (λy=>decide (d y=d x))=some x
 |y::r,x,hn,hx=>by
  rw[Ny,O5]at hn;rw[Oe];rcases Nc.mp hx with rfl|hx
  .rw[decide_eq_true rfl]
  .have:d y≠d x:=λe=>hn.1 (e▸NY hx);rw[decide_eq_false this];exact lZ d hn.2 hx
theorem Ax (h:G1 kl)(d:k∈kl)(ht:t∈k.2):jJ kl t.1=some (t.1,k.1,t.2):=by
 unfold jJ;have:=lZ (λx:Str×Str×List Kk=>x.1) (l:=tl kl) (x:=(t.1,k.1,t.2)) (by rw[oW];exact h.nt) (Px.mpr #[k,d,NI.mpr #[t,ht,rfl]]);exact this
theorem Kw (h:G1 kl)(d:k∈kl):Aa kl k.1=some k:=lZ (λk:Str×List (Str×List Kk)=>k.1) h.nk d
theorem IW (h:G1 kl)(d:p∈wW kl):∃y,jJ kl p.1=some y/\y.2.2.length=p.2:=by
 have(k,g,d):=Px.mp d;have(t,e,rfl):=NI.mp d;exact#[_,Ax h g e,rfl]
theorem DC (h:G1 kl):(wW kl).length<=9:=by
 have:∀l:Kl,(∀k∈l,k.2.length<=3)->(wW l).length<=l.length*3:=by
  intro l
  induction l with
  |nil=>intro _;exact Nu _
  |cons k r ih =>
   intro d;have m:=d k (.head _);have j:=ih λx e=>d x (.tail _ e);unfold wW at j|-;rw[OY,i4,bM,Nv,S7];omega
 have:=this kl λk g=>(h.pt k g).2.1;have:=h.l3;omega
theorem FW (h:G1 kl)(m:k∈kl){d:List (Str×List Kk)}(z:d.Perm k.2)(D:arms.map (·.1)=d.map (·.1))(M:∀(i:Nat) (a:Str×List Str) (t:Str×List Kk),arms[i]?=some a->d[i]?=some t->a.2.length=t.2.length/\cH [] a.2=none):gx kl arms=none:=by
 have g:arms.length=d.length:=by have:=congrArg QO D;rwa [bM,bM]at this
 have J:d.length=k.2.length:=z.length_eq;have R:=(h.pt k m).1
 have j:∀a∈arms,∃t,t∈k.2/\t.1=a.1/\a.2.length=t.2.length/\cH [] a.2=none:=λa L=>by
  have(i,B):=NV L;have o:i<d.length:=by rw[<-g];exact(bH.mp B).1
  have G:=my o
  have e:a.1=(d[i]).1:=by
   have q:=congrArg (λl=>l[i]?) D;simp only[xn,B,G,RK]at q;exact Nk q
  have(q1,p):=M i a _ B G;exact#[d[i],z.mem_iff.mp (NT o),e.symm,q1,p]
 cases arms with
 |nil=>rw[Qf]at g;omega
 |cons a r =>
  have I:(a::r).find? (λb=>decide ((jJ kl b.1).isSome=false))=none:=by
   rw[PF];intro b C;have(t,v,e,_):=j b C;rw[<-e,Ax h m v];simp
  have(Q,u,O,_):=j a (.head _)
  have N:((((jJ kl a.1).bind λy=>Aa kl y.2.1).map λk=>k.2.map (·.1)).getD [])=k.2.map (·.1):=by
   rw[<-O,Ax h m u];show(((Aa kl k.1).map λk=>k.2.map (·.1)).getD [])=_;rw[Kw h m];rfl
  have H:((a::r).map (·.1)).isPerm (k.2.map (·.1))=true:=by
   rw[Th,D];exact z.map _
  have fs:(a::r).findSome? (jz kl)=none:=by
   rw[List.findSome?_eq_none_iff];intro b C;have(t,v,e,q1,p):=j b C;unfold jz;rw[<-e,Ax h m v];dsimp only;rw[if_pos q1,p];rfl
  unfold gx;dsimp only;rw[I];dsimp only;rw[N,if_pos H];exact fs
structure Sn where
 kd:Addr
 ln:Addr
 ld:Addr
 lg:Addr
 lt:Addr
 f0:Int
noncomputable def zp(S:Sn):List (Key×V):=[(ky "kinds",.ref S.kd),(ky "names",.ref S.ln),(ky "defs",.ref S.ld),(ky "gaps",.ref S.lg),(ky "first",.int S.f0),(ky "tags",.ref S.lt)]
noncomputable def DE(p:Str×Nat):T:=.t [.s p.1,.i p.2]
structure fk(K:bN) (H:Hp) (f d:Addr) (S:Sn) (kl:Kl) (nm:List Str) (ds:List (Str×Nat)) (m:Nat):Prop where
 sd:H d=some (.dK (zp S))
 kd:Rp K H (.t (kl.map gZ)) (.ref S.kd)
 ln:H S.ln=some (.lst (nm.map V.str))
 l6:nm.length=6
 un:Un nm
 ld:∃vs,H S.ld=some (.lst vs)/\bO K H (ds.map DE) vs
 lt:∃vs,H S.lt=some (.lst vs)/\bO K H ((wW kl).map DE) vs
 lg:H S.lg=some (.lst ((oZ S.f0 m).map V.int))
 m5:m<=5
 f0:0<=S.f0/\S.f0<100
 ff:cM H f
 nf:d≠f/\S.ln≠f/\S.ld≠f/\S.lg≠f/\S.lt≠f
 ng:S.ln≠S.lg/\S.ld≠S.lg/\S.lt≠S.lg
 kk:G1 kl
 dn:(ds.map (·.1)).Nodup
 dl:ds.length<=8
 d3:∀p∈ds,p.2<=3
 nw:∀x∈nm,Wo x
 dw:∀p∈ds,Wo p.1
theorem fk.go (s:fk K H f d S kl nm ds m)(fr:dZ [S.lg] f H H')(q:H' S.lg=some (.lst ((oZ S.f0 m').map V.int)))(r:m'<=5):fk K H' f d S kl nm ds m':=by
 have(p,o,l,D,j):=s.nf;have(v,u,t):=s.ng;have(y,C,B):=s.ld;have(e,t1,t2):=s.lt;have g:d≠S.lg:=jr s.sd s.lg nofun
 exact#[fr.jE g p s.sd,s.kd.kt fr.kt,fr.jE v o s.ln,s.l6,s.un,#[y,fr.jE u l C,B.kt fr.kt],#[e,fr.jE t j t1,t2.kt fr.kt],q,r,s.f0,fr.ff,s.nf,s.ng,s.kk,s.dn,s.dl,s.d3,s.nw,s.dw]
theorem fk.ext (s:fk K H f d S kl nm ds m)(e:Ext f H H'):fk K H' f d S kl nm ds m:=s.go (Ext.sX s.ff e) (e.1 _ _ s.nf.2.2.2.1 s.lg) s.m5
theorem fk.same (s:fk K H f d S kl nm ds m)(e:aT H H'):fk K H' f d S kl nm ds m:=s.ext ((Ext.refl s.ff).same e)
theorem fk.get (s:fk K H f d S kl nm ds m)(e:cV (zp S) (ky y)=some v):cu H d (.str y) (some v):=by
 have h:=cu.k (k:=ky y) s.sd;rw[e]at h;exact h
theorem yp (S:Sn):cV (zp S) (ky "kinds")=some (.ref S.kd):=by kernel_rfl
theorem uf (S:Sn):cV (zp S) (ky "names")=some (.ref S.ln):=by kernel_rfl
theorem wL (S:Sn):cV (zp S) (ky "defs")=some (.ref S.ld):=by kernel_rfl
theorem Ay (S:Sn):cV (zp S) (ky "gaps")=some (.ref S.lg):=by kernel_rfl
theorem DF (S:Sn):cV (zp S) (ky "first")=some (.int S.f0):=by kernel_rfl
theorem Az (S:Sn):cV (zp S) (ky "tags")=some (.ref S.lt):=by kernel_rfl
structure Kx(K:bN) (f d:Addr) (S:Sn) (kl:Kl) (nm:List Str) (ds:List (Str×Nat)) (ns:List Str) (m z dp:Nat) (H H':Hp) (v:V) (tm:Tm) (m':Nat):Prop where
 sc:fk K H' f d S kl nm ds m'
 fr:dZ [S.lg] f H H'
 r:Rp K H' (enc tm) v
 g:lX kl ds S.f0 ns m m' z dp tm
def wM(K:bN):Sp:=λq H Q _=>∃(f d g:Addr) (S:Sn) (l:Kl) (j:List Str) (o:List (Str×Nat)) (e:List Str) (m:Nat),q=[.ref f,.ref d,.ref g]/\fk K H f d S l j o m/\H g=some (.lst (e.map V.str))/\g≠f/\e.length<=100/\(∀x∈e,Wo x) /\
 ∀(v:V) (p:Hp) (r:Tm) (t:Nat),Kx K f d S l j o e m 1 0 H p v r t->Q v p
def fB(K:bN)(n:Nat):Sp:=λt H Q _=>∃(f d l:Addr) (g e:Int) (S:Sn) (p:Kl) (o:List Str) (q:List (Str×Nat)) (j:List Str) (m:Nat),t=[.ref f,.ref d,.ref l,.int g,.int e]/\fk K H f d S p o q m/\H l=some (.lst (j.map V.str))/\l≠f/\l≠S.lg/\0<=g/\g<=100/\0<=e/\e<n/\j.length+2*e.toNat<=80/\(∀x∈j,Wo x) /\
 ∀(v:V) (r:Hp) (u:Tm) (y:Nat),Kx K f d S p o q j m (max g.toNat 1) e.toNat H r v u y->Q v r
def ug(K:bN)(n:Nat):Sp:=λt H Q _=>∃(f d l:Addr) (e g:Int) (S:Sn) (o:Kl) (p:List Str) (q:List (Str×Nat)) (j:List Str) (m:Nat),t=[.ref f,.ref d,.ref l,.int e,.int g]/\fk K H f d S o p q m/\0<o.length/\H l=some (.lst (j.map V.str))/\l≠f/\l≠S.lg/\1<=e/\e<=100/\0<=g/\g<n/\j.length+2+2*g.toNat<=80/\(∀x∈j,Wo x) /\
 ∀(v:V) (r:Hp) (u:Tm) (y:Nat),Kx K f d S o p q j m (4*e.toNat+1) (g.toNat+1) H r v u y->Q v r
theorem bD :Nm Vo (ak bX):=by decide
theorem rJ :Lm Vo (ak bX):=by decide
theorem mF :aZ Vo VE (ak bX):=by ac_rfl
theorem FY {P:IF}{w:Nn}{K:bN}{mg:Str->Option eF}{base:Heap}{gT:Addr}{tfd:L1}{f:Addr}{cdv:eF}{A:Nx}{outer:List OJ}{s:fy}{H1:Hp}{E:XK}(TK:eL P w K mg base "_law_take" 1 U7 cC gT tfd)(hr:di 1 (A.deeper (Np "_law_named_leaf" (ak bX) s.heap.objs.size f cdv))){D:L2.Ends}{H:Hp}{fe d la:Addr}{fm:Int}{S:Sn}{kl:Kl}{nm:List Str}{ds:List (Str×Nat)}{ns:List Str}{m:Nat}(sc:fk K H fe d S kl nm ds m)(fm0:0<=fm)(fm5:fm<5)(k:∀(v:V) (Z:Hp) (tm:Tm) (m':Nat),Kx K fe d S kl nm ds ns m 1 0 H Z v tm m'->D.rt v Z):
  ja (Zi gy Vo "_law_named_leaf" (ak bX) H1).nN ((bh bX).drop 3) D [some (.ref fe),some (.ref d),some (.ref la),some (.int fm)] H:=by
 refine d7 ((Zd (Zu (Zk bx (Zt (Z1 (Zl (Z1 aG (Z1 (Z0 TK (c8 (va bD 0) (Zc aC))) aA))) (Z1 (Zl (Z1 aG (Zc (fH aA)))) aA))) (bS iR (va bD 3) aC))))) ?_
 right
 right
 have hf:=sc.ff;ext r Y r0 r1 x2;ext l C;have T:=ae C (.tup [.str "num",.int r]);have r3:Rp K (upd Y l (.tup [.str "num",.int r])) (enc (.mk (.num r) [])) (.ref l):=by rw[cY];exact Rp.new (K:=K) C (.cons .s (.one .i))
 generalize upd Y l (.tup [.str "num",.int r])=H3 at T r3|-;ext o B;have O:=ae B (.tup []);have r4:Rp K (upd H3 o (.tup [])) (.t []) (.ref o):=Rp.new (K:=K) B .nil;generalize upd H3 o (.tup [])=H4 at O r4|-;ext g y;have N:=ae y (.tup [.str "row",.ref o]);have W:Rp K (upd H4 g (.tup [.str "row",.ref o])) (enc (.mk .row [])) (.ref g):=by rw[cY];exact Rp.new (K:=K) (xs:=[.s "row",.t []]) y (.cons .s (.one r4))
 have u:=(r3.same O).same N;generalize upd H4 g (.tup [.str "row",.ref o])=H5 at N W u|-;ext L Q;have J:=ae Q (.lst [.ref l,.ref g]);have h6:bQ K (upd H5 L (.lst [.ref l,.ref g])) L [.ref l,.ref g]:=bQ.of af;have M:Ext fe H (upd H5 L (.lst [.ref l,.ref g])):=(((x2.same T).same O).same N).same J;have U:=W.same J;have q:=u.same J;generalize upd H5 L (.lst [.ref l,.ref g])=H6 at J h6 M U q|-;have p:=sc.ext M;have X:dZ [S.lg] fe H H6:=Ext.sX sc.ff M;have I:D.rt (.ref l) H6:=k _ _ _ m #[p,X,q,.leaf rfl (λb R=>by cases R) (ig λ_ z=>nomatch z) True.intro (λ_=>rfl) (lj _)]
 have G:D.rt (.ref g) H6:=k _ _ _ m #[p,X,U,.leaf rfl (λb R=>by cases R) (ig λ_ z=>nomatch z) True.intro (λ_=>rfl) (lj _)]
 have em:fm % 2=0\/fm % 2=1:=()
 rcases em with e|e
 .have a0:eK [V.ref l,V.ref g] (fm % 2)=some (.ref l):=by rw[e];exact aH (j:=0) rfl
  ext;exact I
 .have a0:eK [V.ref l,V.ref g] (fm % 2)=some (.ref g):=by rw[e];exact aH (j:=1) rfl
  ext;exact G
theorem FZ {P:IF}{w:Nn}{K:bN}{mg:Str->Option eF}{base:Heap}{gT:Addr}{tfd:L1}{f:Addr}{cdv:eF}{A:Nx}{outer:List OJ}{s:fy}{R:Hp}{E:XK}(B:eL P w K mg base "_law_take" 1 U7 cC gT tfd)(e:mg "len"=none)(hr:di 1 (A.deeper (Np "_law_named_leaf" (ak bX) s.heap.objs.size f cdv))){D:L2.Ends}{H:Hp}{fe d la:Addr}{fm:Int}{S:Sn}{kl:Kl}{nm:List Str}{ds:List (Str×Nat)}{ns:List Str}{m:Nat}(sc:fk K H fe d S kl nm ds m)(hla:H la=some (.lst (ns.map V.str)))(nla:la≠fe)(lns:ns.length<=100)(wns:∀x∈ns,Wo x)(fm0:0<=fm)(fm5:fm<5)(k:∀(v:V) (C:Hp) (G:Tm) (m':Nat),Kx K fe d S kl nm ds ns m 1 0 H C v G m'->D.rt v C):
  ja (Zi gy Vo "_law_named_leaf" (ak bX) R).nN ((bh bX).drop 2) D [some (.ref fe),some (.ref d),some (.ref la),some (.int fm)] H:=by
 refine d7 ((Z5 (Zb (PW.pt (@gz _ _ _ _ _ _ _ (Zo mS (va bD 3) aC) (@fz _ _ _ _ (Zh pJ (Z2 aJ e Nl (Zc (va bD 2))) aC (bI _))))) (Zd (Zu (Zl (Z1 aG (Z1 (Zk bx (va bD 2) (Z0 B (Z1 (va bD 0) (Z1 (Z2 aJ e Nl (Zc (va bD 2))) aA)))) aA)))))) cK)) ?_
 right
 right
 refine lQ ?_;intro Q y;have last:Q [some (.ref fe),some (.ref d),some (.ref la),some (.int fm)] H:=Cut.go y (FY B hr sc fm0 fm5 k);clear y;have X:=sc.ff;ext;refine bW (λc=>?_) (λc=>?_)
 .ext;refine bW (λu=>?_) (λu=>?_)
  .have O:(0:Int)<((ns.map V.str).length:Int):=of_decide_eq_true u;have J:((ns.map V.str).length:Int)<1073741824:=by rw[bM];omega
   ext U Z p o t;have Y:=t.1 _ _ nla hla;have(T,L,q):=oV (xs:=ns.map V.str) p o;have(l,g,rfl):=NI.mp q;ext W j;have I:=ae j (.tup [.str "name",.str l]);have r:=t.same I;exact k _ _ (.mk (.name l) []) m #[sc.ext r,Ext.sX sc.ff r,by rw[cY];exact Rp.new (K:=K) j (.cons .s (.one .s)),.leaf rfl (λb M=>by cases M) (ig λ_ z=>nomatch z) (wns l g) (λN=>by show(if l∈ns then Except.ok N else _)=_;rw[if_pos g]) (lj _)]
  .ext;exact last
 .ext;exact last
theorem DG {T:L1}(F:jq K "_law_named_leaf" "_law_named_leaf" bX f T)(X:eL P w K mg base "_law_take" 1 U7 cC gT tfd)(e:mg "len"=none):cA P w K mg base gy 2 f T VE (wM K):=by
 refine F.ok mF (λY H Q E h=>?_) (λcdv A outer s H Y Q E hr h=>?_)
 .have(_,_,_,_,_,_,_,_,_,rfl,_):=h;rfl
 have(L,d,la,S,kl,nm,ds,ns,m,rfl,y,I,o,D,B,k):=h;refine#[_,(Z5 (Z4 mF.nd rJ 3 (Z0 X (c8 (va bD 0) (Zc aC)))) (Z5 (Zb (PW.pt (@gz _ _ _ _ _ _ _ (Zo bV (va bD 3) aC) (@fz _ _ _ _ (Zh mS (Z2 aJ e Nl (Z1 (Zj (va bD 1)) aA)) aC (bI _))))) (Z5 (Zn (Z6 (Zj (va bD 1)) (Z1 (Zm iR (Zm dR (Zj (va bD 1)) (Zm kF aC (Z2 aJ e Nl (Z1 (Zj (va bD 1)) aA)))) aC) aA))) (Zd (Zu (Zl (Z1 aG (Z1 (Zk bx (Zj (va bD 1)) (pH lE aC)) aA))))))) cK)),?_]
 right
 right
 have hf:=y.ff;refine j0 ?_;intro N1 N2 c1 t;ext fm u J ac z;have j:=y.ext z;have q:=z.1 _ _ o I;have W:dZ [S.lg] L H u:=Ext.sX y.ff z;have rest:N2 [some (.ref L),some (.ref d),some (.ref la),some (.int fm)] u:=Cut.go t (FZ X e hr j q o D B J () λv H' Z m' g=>k v H' Z m' #[g.sc,W.trans g.fr,g.r,g.g]);clear t;have gg:=j.get (Ay S);have g1:=j.get (DF S);have hg:=j.lg;have G:((oZ S.f0 m).map V.int).length=m:=by rw[bM,IV]
 have m5:=j.m5;ext;refine bW (λc=>?_) (λc=>?_)
 .ext;refine bW (λt=>?_) (λt=>?_)
  .have ad:(((oZ S.f0 m).map V.int).length:Int)<5:=of_decide_eq_true t;have O:m<5:=()
   have ll:((oZ S.f0 m).map V.int).length<mH:=br ();have C:=j.nf.2.2.2.1;have em:(S.f0+11*(((oZ S.f0 m).map V.int).length:Int)) % 100=(S.f0+11*(m:Int)) % 100:=by rw[G]
   have U:dZ [S.lg] L H (upd u S.lg (.lst ((oZ S.f0 m).map V.int++[.int ((S.f0+11*(((oZ S.f0 m).map V.int).length:Int)) % 100)]))):=W.upd (EF.mpr rfl) C hg;have R:upd u S.lg (.lst ((oZ S.f0 m).map V.int++[.int ((S.f0+11*(((oZ S.f0 m).map V.int).length:Int)) % 100)])) S.lg=some (.lst ((oZ S.f0 (m+1)).map V.int)):=by rw[af,em,wK,i5];rfl
   have l:=y.go U R O;have ab:=l.get (Ay S);have al:eK ((oZ S.f0 (m+1)).map V.int) (-1)=some (.int ((S.f0+11*(m:Int)) % 100)):=by rw[wK,i5];exact sE _ _
   have aa:bQ K (upd u S.lg (.lst ((oZ S.f0 m).map V.int++[.int ((S.f0+11*(((oZ S.f0 m).map V.int).length:Int)) % 100)]))) S.lg ((oZ S.f0 (m+1)).map V.int):=bQ.of R;ext p N;have M:=ae N (.tup [.str "gap",.int ((S.f0+11*(m:Int)) % 100)]);exact k _ _ _ (m+1) #[l.same M,U.same M,by rw[cY];exact Rp.new (K:=K) N (.cons .s (.one .i)),.gap O (lj _)]
  .ext;exact rest
 .ext;exact rest
end G14
namespace HT
open PySem PyProof.Rows
section
open PySem.SeqAt
open PySem.AutoSeq1 (wpAny_loadPart')
open PySem.MeetsSeq PySem.MeetsSeq2 PySem.MeetsSeq3
theorem om (ht:UT s.heap t items)(hs:s.heap.IsSliceOf d m l .none)(pl:Sz m o)(p:Sz l hi)(h0:ir items.size 0 o=0)(h1:ir items.size items.size hi=items.size)(h:Q (.ref t) s):Nd (Nj prog w) A (Q6 (.ref t) (.ref d)) Q E s:=by
 have(q,e,g,r):=id hs;have j:s.TypeIs (.ref d) "slice":=#[q,e,g];unfold Q6
 try with_reducible refine Ov ?_
 first|refine cB (tF ?_)|skip
 refine cB (Sk ht.typeIs (by decide) ?_)
 refine cB (OI (name:=Oi "__getitem__") ht.typeIs NN
  (O7 NN ht.typeIs RO ?_ (R5 _ _)))
 show Nd _ _ (Qq (.ref t)>>=_) _ _ s;refine cB (T8 ht ?_);refine cB (RT j ?_);rw[if_pos (by decide)];refine cB (kO hs pl p ?_);rw[h0,h1];show Nd _ _ (if(((0:Nat):Int) == 0&&(1:Int) == 1&&(items.size-0) == items.size)=true then _ else _) _ _ s;rw[if_pos (by simp)];show Nd _ _ ((typeOf (.ref t)>>=_)>>=_) _ _ s;refine cB (cB (RT ht.typeIs (tF ?_)));show Nd _ _ (if(_:Bool)=true then _ else _) _ _ s;rw[if_pos (by decide)];refine cB (RZ ?_);exact tF #[_,rfl,tF h]
theorem qq {n:Nat}(hs:s.heap.IsSliceOf j .none .none (.int (-1) t))(h:Q ((n:Int) - 1,-1,n) s):Nd (Nj prog w) A (Pz (.ref j) (pure (n:Int))) Q E s:=by
 have(m,d,l,g):=id hs;unfold Pz Sg;refine cB (cB (NZ d g (x:=.none) rfl (cB (NZ d g (x:=.none) rfl (cB (NZ d g (x:=.int (-1) t) rfl (tF ?_)))))));refine cB (jV (.int (-1) t) ?_);show Nd _ _ (if((-1:Int) == 0)=true then _ else _) _ _ s;rw[if_neg (by decide)];refine cB (jV .none (cB (jV .none (cB (tF ?_)))));show Nd _ _ (pure ((n:Int) - 1,(-1:Int),Ox ((n:Int) - 1) (-1) (-1))) _ _ s
 have e:Ox ((n:Int) - 1) (-1) (-1)=n:=by
  unfold Ox;rw[if_neg (by decide)]
  split
  .rw[show(-(-1:Int))=1 from rfl,Uu];omega
  .omega
 rw[e];exact tF h
theorem BE (xs:Array eF):((Pc xs.size).filterMap λ(k:Nat)=>xs[(((xs.size:Nat):Int) - 1+(k:Int)*(-1)).toNat]?).toArray=xs.toList.reverse.toArray:=by
 congr 1
 have d:∀n,n<=xs.size->((Pc n).filterMap λ(k:Nat)=>xs[(((xs.size:Nat):Int) - 1+(k:Int)*(-1)).toNat]?)=xs.toList.reverse.take n:=by
  intro n
  induction n with
  |zero=>intro _;rfl
  |succ n ih =>
   intro h;rw[RN,List.filterMap_append,ih ()];have j:n<xs.toList.reverse.length:=by rw[Pj,O3];omega
   rw[mu j]
   congr 1
   have e:(((xs.size:Nat):Int) - 1+(n:Int)*(-1)).toNat=xs.size-1-n:=()
   have g:xs.size-1-n<xs.size:=()
   rw[O2,e,Array.getElem?_eq_getElem g];simp only[List.filterMap_nil];rw[Tw,Array.getElem_toList];simp
 rw[d xs.size (lj _),Ol (by rw[Pj,O3];exact lj _)]
theorem oY (ht:UT s.heap t items)(hs:s.heap.IsSliceOf e .none .none (.int (-1) o))(hsz:items.size<=mH)(h:Q (.ref s.heap.objs.size) {s with heap:=s.heap.push {cls:=.type "tuple",data:=.seq items.toList.reverse.toArray}}):Nd (Nj prog w) A (Q6 (.ref t) (.ref e)) Q E s:=by
 have d:sizeOk (.seq items.toList.reverse.toArray):=by
  show items.toList.reverse.toArray.size<=mH;rw[Nb,Pj,O3];exact hsz
 have(p,g,j,q):=id hs;have l:s.TypeIs (.ref e) "slice":=#[p,g,j];unfold Q6
 try with_reducible refine Ov ?_
 first|refine cB (tF ?_)|skip
 refine cB (Sk ht.typeIs (by decide) ?_)
 refine cB (OI (name:=Oi "__getitem__") ht.typeIs NN
  (O7 NN ht.typeIs RO ?_ (R5 _ _)))
 show Nd _ _ (Qq (.ref t)>>=_) _ _ s;refine cB (T8 ht ?_);refine cB (RT l ?_);rw[if_pos (by decide)];refine cB (qq hs ?_);show Nd _ _ (if((((items.size:Nat):Int) - 1) == 0&&(-1:Int) == 1&&items.size == items.size)=true then _ else _) _ _ s;rw[if_neg (by simp),BE]
 first
  |exact cB (m:=Oo _) (NX (tF #[_,rfl,tF h]) d)
  |exact cB (m:=Oo _) (NX (cB (tF (tF #[_,rfl,tF h]))) d)
  |exact cB (cB (m:=Oo _) (NX (tF (tF #[_,rfl,tF h])) d))
  |exact cB (cB (m:=Oo _) (NX (tF #[_,rfl,tF h]) d))
end
end HT
namespace L2
open PySem PySem.Spec PyProof.Rows
def LP(K:bN):V->Option Int->Option Int->Hp->VK->Prop:=λx lo hi H Q=>∃a g,x=.ref a/\cP K H a g/\∀p d,aT H d->cP K d p (ju g lo hi)->Q (.ref p) d
theorem ku :BS X (LP X.K):=by
 intro j s D H x v J G lo hi L Q I t C z y h;have(a,d,rfl,o,q):=h
 by_cases l:HT.ir d.length 0 lo=0/\HT.ir d.length d.length hi=d.length
 .cases t
  have(m,r,B,N):=I.tuple o;have g:m.toArray.size=d.length:=by rw[Nb];exact r.length.symm
  refine#["tuple",_,NN.lookup,B.typeIs,?_];refine HT.om B C z y (by rw[g];exact l.1) (by rw[g];exact l.2) #[.ref a,H,I,rfl,q a H (λ_ _ e=>e) ?_]
  have:ju d lo hi=d:=by
   unfold ju;rw[l.1,l.2,List.drop_zero,Nat.sub_zero,Nr]
  rw[this];exact o
 .exact vJ j s D H (.ref a) v J G lo hi L Q I t C z y #[a,d,rfl,o,l,λp M=>q p _ (λb u q=>by rw[au (ay q M)];exact q) (cP.of af)]
def Ky(K:bN)(te:TE)(tl th tk:TO):TE:=λd H Q=>te d H λx q=>tl d q λl o=>th d o λu m=>tk d m λk g=>∃a j,x=.ref a/\cP K g a j/\l=none/\u=none/\k=some (-1) /\
 ∀p,g p=none->Q (.ref p) (upd g p (.tup j.reverse))
theorem F0 {st:Expr}{lo:Option Expr}(K:bN)(hK:X.K=K)(he:PE X e te)(hl:PO X lo tl)(hu:PO X hi th)(hk:PO X (some st) tk):PE X (.Subscript e (.Slice lo hi (some st) p2) pos) (Ky K te tl th tk):=by
 subst hK;intro d s j H Q I h;refine S2 (cR (he d s j H _ I h) λv L ⟨x,H1,I1,M,q1⟩=>?_);refine wpAny_Slice (cR (hl d L j H1 _ I1 q1) λvl J ⟨l,H2,I2,U,R⟩=>cR (hu d J j H2 _ I2 R) λvu G ⟨u,H3,I3,S,O⟩=>cR (hk d G j H3 _ I3 O) λD m ⟨k,H4,I4,V,N⟩=>?_);have(a,z,rfl,Z,rfl,rfl,rfl,q):=N
 cases M
 cases U
 cases S
 obtain⟨tk,rfl⟩:∃t,D=.int (-1) t:=by cases V;exact#[_,rfl]
 have y:Inv X d j H4 {m with heap:=m.heap.push {cls:=.type "slice",data:=.fields #[.none,.none,.int (-1) tk,]}}:=I4.kept (t':=m.toks) λb Y q=>pC _ q;have(g,r,C,B):=y.tuple Z;have p:g.length=z.length:=r.length.symm;refine tail_any (T:="tuple") (ops:=[.ref a,.ref m.heap.objs.size]) C.typeIs NN.lookup ?_ (by with_unfolding_all rfl);refine HT.oY (items:=g.toArray) C (R6 ..) (by rw[Nb,p];exact B) ?_;refine#[.ref _,_,y.laid (t':=m.toks) (o:=.tup z.reverse) (λb Y q=>pC _ q) (lj _) ?_,rfl,q _ (y.hok.fresh (lj _))];exact#[by rw[Pj];exact B,g.reverse,r.reverse,TR _ _,_,Nh _ rfl,rfl]
end L2
namespace G14
open PySem L2
theorem vA {kl:Kl}{ds:List (Str×Nat)}{ns b:List Str}{k:Tm}:∀{bs:List (List Str)}{ks:List Tm}{g:List Int},bs.length=ks.length->jF kl ds g ns (bs++[b]) (ks++[k])=match jF kl ds g ns bs ks with
  |.error f=>.error f
  |.ok g'=>uD kl ds g' (ns++b) k
 | [],[],g,_=>by
  rw[PM,PM,jn,j5];dsimp only
  cases uD kl ds g (ns++b) k with
  |error f=>rfl
  |ok g'=>exact j5 ..
 |c::bs,j::ks,g,h=>by
  rw[Qv,Qv,jn,jn]
  cases uD kl ds g (ns++c) j with
  |error f=>rfl
  |ok g'=>exact vA (by simpa using h)
theorem jC.snoc (t:jC kl ds f0 ns bs m l z d ks)(r:bs.length=ks.length)(h:lX kl ds f0 (ns++b) l j o d k):jC kl ds f0 ns (bs++[b]) m j (z+o) d (ks++[k]):=by
 refine#[λx g=>(L0.mp g).elim (t.wn x) (λe=>EF.mp e▸h.wn),λx g=>(L0.mp g).elim (t.ta x) (λe=>EF.mp e▸h.ta),?_,λx g=>(L0.mp g).elim (t.dp x) (λe=>EF.mp e▸h.dp),λv u=>?_,Nz t.mm h.mm]
 .rw[Tm.pV,Tm.eB];have:=t.sz;have:=h.sz;simp only[Tm.sizes];omega
 .have(q,B,l):=t.gd v u;have(p,y,j):=h.gd q l;exact#[p,by rw[vA r,B];exact y,j]
noncomputable def iP(d:List Str)(t:Int)(n:Nat):List Str:=(Pc n).map λj=>d.getD ((t.toNat+j) % 5) ""
theorem DH (d:List Str)(t:Int)(n:Nat):iP d t (n+1)=iP d t n++[d.getD ((t.toNat+n) % 5) ""]:=by
 unfold iP;rw[RN,i5];rfl
theorem rS (d:List Str)(t:Int)(n:Nat):(iP d t n).length=n:=by
 unfold iP;rw[bM,Rf]
theorem IX {d:List Str}(g:d.length=6)(l:0<=t)(j:Nat):eK (d.map V.str) ((t+(0+(j:Int))) % 5)=some (.str (d.getD ((t.toNat+j) % 5) "")):=by
 have e:(t.toNat+j) % 5<d.length:=()
 have:=aH (xs:=d.map V.str) (j:=(t.toNat+j) % 5) (v:=.str (d.getD ((t.toNat+j) % 5) "")) (by rw[xn,my e,Ou,my e];rfl);rw[show(((t.toNat+j) % 5:Nat):Int)=(t+(0+(j:Int))) % 5 by omega]at this;exact this
theorem Ga (l:d.length=6)(un:Un d)(hn:n<=2):cH [] (iP d t n)=none:=by
 match n,hn with
 |0,_=>rfl
 |1,_=>rfl
 |2,_ =>
  show(if d.getD ((t.toNat+1) % 5) ""∈[d.getD ((t.toNat+0) % 5) ""]then some _ else none)=none;refine if_neg λz=>?_;have e:=EF.mp z;have l1:(t.toNat+1) % 5<d.length:=()
  have g:(t.toNat+0) % 5<d.length:=()
  rw[Ou,Ou,my l1,my g]at e;have j:d[(t.toNat+1) % 5]=d[(t.toNat+0) % 5]:=e;have:=un ((t.toNat+1) % 5) ((t.toNat+0) % 5) _ (my l1) (by rw[j];exact my g);omega
structure Mb(K:bN) (fe d:Addr) (S:Sn) (kl:Kl) (nm:List Str) (ds:List (Str×Nat)) (ns:List Str) (m z dp:Nat) (ts:List (Str×List Kk)) (lar:Addr) (H0:Hp) (i:Nat) (H:Hp) (arms:List (Str×List Str)) (ks:List Tm) (us:List V) (m':Nat):Prop where
 sc:fk K H fe d S kl nm ds m'
 fr:dZ [S.lg,lar] fe H0 H
 ha:H lar=some (.lst us)
 r:bO K H (Oj oS arms (ks.map enc)) us
 la:arms.length=i
 lk:ks.length=i
 nm:arms.map (·.1)=(ts.take i).map (·.1)
 ok:∀(j:Nat) (a:Str×List Str) (t:Str×List Kk),arms[j]?=some a->ts[j]?=some t->a.2.length=t.2.length/\cH [] a.2=none
 g:jC kl ds S.f0 ns (arms.map (·.2)) m m' (i*z) dp ks
 w:∀a∈arms,Wo a.1/\∀x∈a.2,Wo x
theorem DI (h:arms.length=ks.length):Oj oS (arms++[a]) (ks++[k])=Oj oS arms ks++[oS a k]:=by
 rw[List.zipWith_append h];rfl
theorem fk.other (s:fk K H f d S kl g ds m)(e:fk K r f d S kl g o z)(B:r l=none)(h:H l=some (.lst xs))(ys:List V):fk K (upd H l (.lst ys)) f d S kl g ds m:=by
 have(I,L,J):=s.ld;have(t,t1,t2):=s.lt;have(_,G,_):=e.ld;have(_,D,_):=e.lt;have(p,q,C):=e.ff;have(y,v,j):=s.ff;have n:∀{c:Addr}{u:L2.HO},r c=some u->c≠l:=λq=>ay q B;have k:Kt H (upd H l (.lst ys)):=Kt.lst h _;exact#[by rw[au (n e.sd)];exact s.sd,s.kd.kt k,by rw[au (n e.ln)];exact s.ln,s.l6,s.un,#[I,by rw[au (n G)];exact L,J.kt k],#[t,by rw[au (n D)];exact t1,t2.kt k],by rw[au (n e.lg)];exact s.lg,s.m5,s.f0,#[y,v,by rw[au (n C)];exact j],s.nf,s.ng,s.kk,s.dn,s.dl,s.d3,s.nw,s.dw]
theorem aN :Nm U8 (ak b6):=by decide
theorem cI :Lm U8 (ak b6):=by decide
theorem ck :aZ U8 Vm (ak b6):=by ac_rfl
theorem Gb {P:IF}{w:Nn}{K:bN}{mg:Str->Option eF}{base:Heap}{gT gN:Addr}{tfd nfd:L1}{n j:Nat}(hj:1<=j){f:Addr}{cdv:eF}{A:Nx}{outer:List OJ}{s:fy}{H1:Hp}{E:XK}(TK:eL P w K mg base "_law_take" 1 U7 cC gT tfd)(cq:eL P w K mg base "_law_named" j U6 (fB K n) gN nfd)(as:mg "len"=none)(z_range:mg "range"=none)(G:mg "tuple"=none)(hr:di j (A.deeper (Np "_law_named_match" (ak b6) s.heap.objs.size f cdv))){D:L2.Ends}{H:Hp}{fe d la ta:Addr}{share down:Int}{S:Sn}{kl:Kl}{nm:List Str}{ds:List (Str×Nat)}{ns:List Str}{m m1:Nat}{kd:Str×List (Str×List Kk)}{fv:V}{ft:Tm}{o5 o8 o9 o10 o11 a1:Option V}(sc:fk K H fe d S kl nm ds m1)(hk:kd∈kl)(hla:H la=some (.lst (ns.map V.str)))(nla:la≠fe)(nlg:la≠S.lg)(sh1:1<=share)(sh2:share<=100)(dn0:0<=down)(dn:down<n)(lns:ns.length+2+2*down.toNat<=80)(wns:∀x∈ns,Wo x)(rt:Rp K H (.t (kd.2.map kI)) (.ref ta))(rf:Rp K H (enc ft) fv)(gf:lX kl ds S.f0 ns m m1 (max share.toNat 1) down.toNat ft)(k:∀(v:V) (H':Hp) (tm:Tm) (m':Nat),fk K H' fe d S kl nm ds m'->dZ [S.lg] fe H H'->Rp K H' (enc tm) v->lX kl ds S.f0 ns m m' (4*share.toNat+1) (down.toNat+1) tm->D.rt v H'):
  ja (Zi gy U8 "_law_named_match" (ak b6) H1).nN ((bh b6).drop 2) D [some (.ref fe),some (.ref d),some (.ref la),some (.int share),some (.int down),o5,some (.ref ta),some fv,o8,o9,o10,o11,a1] H:=by
 refine d7 ((Z5 (sa ck.nd cI 8 (dB aA)) (Z5 (Zg NH (@cz _ _ _ _ (Zk bx (Zt (Z1 (va aN 6) (Z1 (F0 K rfl (va aN 6) eY eY (dj (pH lE aC))) aA))) (Z0 TK (c8 (va aN 0) (Zc aC))))) (Z9 (2) (Ze (ga ck.nd cI 9) (Zs (ga ck.nd cI 10)))) (Z5 (Z4 ck.nd cI 11 (Z0 TK (c8 (va aN 0) (Zc aC)))) (Z5 (@nh _ _ _ _ _ _ _ _ _ _ _ _ _ _ _ (ak b6) U8 ["_law_j"] [1,11] rfl rfl rfl (by decide) (Zq (Z1 (Z2 aJ as Nl (Zc (va aN 10))) aA)) (λ_ _ _ _=>(Z3 (i:=0) (show(VO:List Str).Nodup by decide))) (λ_ _ _ _=>fZ) (λ_ _ _ _=>(Zk (Ct K rfl) (Zj (va (show Nm VO _ by left) 1)) (Zm iR (bS dR (va (show Nm VO _ by left) 2) (va (show Nm VO _ by left) 0)) aC))) (ga ck.nd cI 12) (by kernel_rfl) (by intro _;rfl)) (Zd (Zn (Z6 (va aN 8) (Z1 (Zl (Z1 (va aN 9) (Z1 (Z7 cQ G N8 (Zc (va aN 12))) (Z1 (Z0 cq (Z1 (va aN 0) (Z1 (va aN 1) (Z1 (bS iT (va aN 2) (va aN 12)) (Z1 (va aN 3) (Zc (va aN 4))))))) aA)))) aA))))))) (Zd (Zu (Zl (Z1 aG (Z1 (va aN 7) (Z1 (Z7 cQ G N8 (Zc (va aN 8))) aA))))))))) ?_
 right
 right
 have(c9,c7,a2):=sc.kk.pt kd hk;ext B C;have s2:=ae C (.lst []);have bz:upd H B (.lst []) B=some (.lst []):=af;have ab:B≠fe:=bB sc.ff C;have bk:B≠S.lg:=(ay sc.lg C).symm;generalize upd H B (.lst [])=H2 at s2 bz|-;have be:=sc.same s2;have a0:=rt.same s2;have(b3,ax,e,b0,bb):=a0.aS;obtain rfl:ta=b3:=V.ref.inj e;ext p3 bt;have s3:=ae bt (.tup ax.reverse)
 have r3:Rp K (upd H2 p3 (.tup ax.reverse)) (.t (kd.2.reverse.map kI)) (.ref p3):=by
  rw[UL];exact Rp.new (K:=K) bt bb.reverse
 generalize upd H2 p3 (.tup ax.reverse)=H3 at s3 r3|-;ext p4 bs;have s4:=ae bs (.lst [.ref ta,.ref p3]);have h4:upd H3 p4 (.lst [.ref ta,.ref p3]) p4=some (.lst [.ref ta,.ref p3]):=af;have Z:=s3.trans s4;have az:=be.same Z;have a6:=az.ff;have n4:p4≠fe:=bB (be.same s3).ff bs;generalize upd H3 p4 (.lst [.ref ta,.ref p3])=H4 at s4 h4 Z az a6|-;ext r5 H5 c3 c2 x5;have h5:bQ K H5 p4 [.ref ta,.ref p3]:=bQ.of (x5.1 _ _ n4 h4);have b5:=az.ext x5;have f5:dZ [S.lg,B] fe H H5:=((dZ.refl sc.ff).same (s2.trans Z)).ext x5;have cj:=x5.1 _ _ ab (Z _ _ bz);have c1:=rf.kt f5.kt
 obtain⟨tb,W,db,T,b7⟩:∃(tb:Addr) (W:List (Str×List Kk)),eK [V.ref ta,V.ref p3] r5=some (.ref tb)/\W.Perm kd.2/\Rp K H5 (.t (W.map kI)) (.ref tb):=by
  have k5:=(Kt.same Z).trans (x5.kt a6);rcases(show r5=0\/r5=1 by omega)with rfl|rfl
  .exact#[ta,kd.2,aH (j:=0) rfl,List.Perm.refl _,a0.kt k5]
  .exact#[p3,kd.2.reverse,aH (j:=1) rfl,List.reverse_perm _,(r3.same s4).kt (x5.kt a6)]
 have(b2,aw,e,ba,al):=b7.aS;obtain rfl:tb=b2:=V.ref.inj e;have ao:=al.length;rw[bM]at ao;have c6:W.length=kd.2.length:=T.length_eq;clear rt a0 b0 bb r3;ext;refine eX (K:=K) (xs:=aw) (λi σ H6=>∃arms ks us m' o9 o10 o11 a1,σ=[some (.ref fe),some (.ref d),some (.ref la),some (.int share),some (.int down),o5,some (.ref ta),some fv,some (.ref B),o9,o10,o11,a1]/\Mb K fe d S kl nm ds ns m1 share.toNat down.toNat W B H i H6 arms ks us m'/\Kt H5 H6) #[[],[],[],m1,_,_,_,_,rfl,#[b5,f5,cj,.nil,rfl,rfl,rfl,λj a t h=>by simp at h,by rw[Nat.zero_mul];exact .nil (lj _),λ_ h=>nomatch h],Kt.refl] ?_ ?_ ?_
 .rintro i σ H6 hi ⟨_,_,_,_,_,_,_,_,_,_,k6⟩;exact ba.kt k6
 .rintro i xv σ H6 hxv ⟨arms,ks,us,m',_,_,_,_,rfl,p,k6⟩;have(t,ht,rx):=al.get' hxv;rw[xn]at ht;have(O,ad,rfl):=we.mp ht;have cg:=(bH.mp ad).1;have cp:W.take (i+1)=W.take i++[O]:=by rw[mu cg,(bH.mp ad).2]
  have cy:=a2 O (T.mem_iff.mp (Nf ad));have(ga,w1,w2,rfl,cn,q1,q2):=(show Rp K H5 (.t [.s O.1,.t (O.2.map jI)]) xv from rx).t2;obtain rfl:=q1.aM;have(ia,l,rfl,ce,cf):=q2.aS;have bm:=cf.length;rw[bM]at bm;have cw:=cn.kt k6;have bc:=p.sc;have ch:=bc.ff;ext u H7 b1 cx x7;have I:=bc.ext x7;have a3:=x7.kt ch;have cv:=(ce.kt k6).kt a3;have dd:=I.get (uf S);have da:=I.ln;ext;refine lJ (n:=l.length) (λq σ us H8=>(∃y,σ=[y,some (.ref d),some (.int u)])/\H8=H7/\us=(iP nm u q).map V.str) #[#[_,rfl],rfl,rfl] ?_ (small ()) ?_ ?_
  .rintro q σ us H8 h ⟨_,_,rfl⟩;rw[bM,rS];exact lj _
  .rintro q σ us8 H8 hq ⟨⟨_,rfl⟩,rfl,rfl⟩;have oa:=IX I.l6 b1 q;ext;rw[DH,i5];rfl
  .rintro σ us8 H8 ⟨⟨_,rfl⟩,rfl,rfl⟩ p9 hp9;have s9:=ae hp9 (.lst ((iP nm u l.length).map V.str));have h9:upd H8 p9 (.lst ((iP nm u l.length).map V.str)) p9=some (.lst ((iP nm u l.length).map V.str)):=af;generalize upd H8 p9 (.lst ((iP nm u l.length).map V.str))=H9 at s9 h9|-;have b4:=I.same s9;have bv:H6 la=some (.lst (ns.map V.str)):=p.fr.Lz nlg (ay hla C) nla hla;have bu:=s9 _ _ (x7.1 _ _ nla bv);have dc:=s9 _ _ (x7.1 _ _ ab p.ha);ext;refine .inl #[bQ.of h9,λJ ar=>?_];have aa:=ae ar (.tup ((iP nm u l.length).map V.str));have bi:Rp K (upd H9 J (.tup ((iP nm u l.length).map V.str))) (.t ((iP nm u l.length).map .s)) (.ref J):=Rp.new (K:=K) ar (bO.strs _);have cm:=aa _ _ h9;have a5:=aa _ _ bu;have M:=b4.same aa;generalize upd H9 J (.tup ((iP nm u l.length).map V.str))=H10 at aa bi cm a5 M|-;have lc:(ns.map V.str).length+((iP nm u l.length).map V.str).length<=mH:=small (by rw[bM,bM,rS];omega);ext ac ah;have ea:ns.map V.str++(iP nm u l.length).map V.str=(ns++iP nm u l.length).map V.str:=by rw[i5]
   rw[ea];have aj:=ae ah (.lst ((ns++iP nm u l.length).map V.str));have cl:upd H10 ac (.lst ((ns++iP nm u l.length).map V.str)) ac=some (.lst ((ns++iP nm u l.length).map V.str)):=af;have c4:ac≠fe:=bB M.ff ah;have ct:ac≠S.lg:=(ay M.lg ah).symm;generalize upd H10 ac (.lst ((ns++iP nm u l.length).map V.str))=H11 at aj cl|-;have cs:=M.same aj;have c0:(0:Int)<=share:=()
   have a9:∀x∈iP nm u l.length,Wo x:=λx hx=>by
    have(q,hq,rfl):=NI.mp hx;have hl:(u.toNat+q) % 5<nm.length:=by have:=I.l6;omega
    rw[Ou,my hl];exact I.nw _ (NT hl)
   have cr:∀x∈ns++iP nm u l.length,Wo x:=λx hx=>(L0.mp hx).elim (wns x) (a9 x);have cu:(ns++iP nm u l.length).length+2*down.toNat<=80:=by rw[i4,rS];omega
   ext av ai X bl L;have Y:=s9.trans (aa.trans aj);have ap:=(Kt.same Y).trans L.fr.kt;have cb:Rp K ai (.t ((iP nm u l.length).map .s)) (.ref J):=(bi.same aj).kt L.fr.kt;have x6:dZ [S.lg,B] fe H ai:=(((p.fr.ext x7).same Y)).trans (L.fr.sub λz hz=>by rw[EF.mp hz];exact .head _);have bw:ai B=some (.lst us):=L.fr.jE bk ab (Y _ _ (x7.1 _ _ ab p.ha));have ca:=p.r.kt (a3.trans ap);have c5:us.length<mH:=br (by rw[p.r.length,OD,p.la];omega);ext R aq;have Q:=ae aq (.tup [.str O.1,.ref J,av]);have bg:Rp K (upd ai R (.tup [.str O.1,.ref J,av])) (oS (O.1,iP nm u l.length) (enc X)) (.ref R):=Rp.new (K:=K) (xs:=[.s O.1,.t ((iP nm u l.length).map .s),enc X]) aq (.cons .s (.cons cb (.one L.r)));have N:=Q _ _ bw;have a8:=x6.same Q;have am:=L.sc.same Q;have an:=ca.same Q;generalize upd ai R (.tup [.str O.1,.ref J,av])=H13 at Q bg N a8 am an|-;have a4:Kt H13 (upd H13 B (.lst (us++[.ref R]))):=Kt.lst N _;have bf:fk K (upd H13 B (.lst (us++[.ref R]))) fe d S kl nm ds bl:=am.other sc C N _;ext
   .refine Mb.mk (arms:=arms++[(O.1,iP nm u l.length)]) (ks:=ks++[X]) (us:=us++[.ref R]) (m':=bl) bf (a8.upd (Og _ (.head _)) ab N) af ?_ (by rw[i4,p.la];rfl) (by rw[i4,p.lk];rfl) ?_ ?_ ?_ (λa U=>(L0.mp U).elim (p.w a) (λz=>by rw[EF.mp z];exact#[(sc.kk.nw kd hk).2 O (T.mem_iff.mp (Nf ad)),a9]))
    .rw[i5,Ny,OX,DI (by rw[bM,p.la,p.lk])];exact(an.kt a4).snoc (bg.kt a4)
    .rw[i5,cp,i5,p.nm];rfl
    .intro q a t U bn
     by_cases c:q<arms.length
     .rw[N9 c]at U;exact p.ok q a t U bn
     .rw[NR ()]at U
      have hq:q=i:=by
       have:=(bH.mp U).1;have:[(O.1,iP nm u l.length)].length=1:=rfl;have:=p.la;omega
      subst hq;rw[p.la,S9]at U
      cases U
      obtain rfl:O=t:=Nk (ad.symm.trans bn);exact#[by rw[rS];exact bm,Ga I.l6 I.un ()]
    .rw[i5,S7];refine jC.snoc p.g (by rw[bM,p.la,p.lk]) ?_;have e:=L.g;rw[Pf ()]at e;exact e
   .exact(((k6.trans a3).trans ap).trans (Kt.same Q)).trans a4
 .rintro σ H6 ⟨arms,ks,us,m',_,_,_,_,rfl,p,k6⟩;have b8:=rf.kt p.fr.kt;have ci:=p.ha;ext;refine .inl #[bQ.of ci,λp7 bp=>?_];have s7:=ae bp (.tup us);have r7:=Rp.new (K:=K) bp p.r;generalize upd H6 p7 (.tup us)=H7 at s7 r7|-;ext p8 bo;have s8:=ae bo (.tup [.str "match",fv,.ref p7]);have cd:=p.la;have cc:=p.lk
  have r8:Rp K (upd H7 p8 (.tup [.str "match",fv,.ref p7])) (enc (.mk (.mat arms) (ft::ks))) (.ref p8):=by
   rw[cY];exact Rp.new (K:=K) (xs:=[.s "match",enc ft,.t (Oj oS arms (ks.map enc))]) bo (.cons .s (.cons (b8.same s7) (.one r7)))
  have bj:=p.nm;rw[ao,Nr]at bj;have co:dZ [S.lg] fe H H6:=#[λb o n1 n2 e=>p.fr.oth b o (λz=>(Nc.mp z).elim (λz=>n1 (by rw[z];exact .head _)) (λz=>by rw[EF.mp z,C]at e;cases e)) n2 e,p.fr.kt,p.fr.ff];refine k _ _ (.mk (.mat arms) (ft::ks)) m' ((p.sc.same s7).same s8) ((co.same s7).same s8) r8 ?_;refine lX.FU (d:=down.toNat) (z:=share.toNat+aw.length*share.toNat) ?_ ?_ ?_ p.w ?_ ?_ ?_
  .show((ks.length+1) == arms.length+1)=true;rw[cd,cc];simp
  .intro b hb;rcases Nc.mp (show b∈[]::arms.map (·.2)from hb)with rfl|hb
   .exact Nu _
   .have(a,U,rfl):=NI.mp hb;have(q,hq):=NV U;have ag:q<W.length:=by have:=(bH.mp hq).1;omega
    have:=(p.ok q a _ hq (my ag)).1;have:=a2 W[q] (T.mem_iff.mp (NT ag));omega
  .intro a7 e;obtain rfl:arms=a7:=Hd.mat.inj e;refine#[(),λa U=>?_];have(q,hq):=NV U;have ag:q<W.length:=by have:=(bH.mp hq).1;omega
   have:=(p.ok q a _ hq (my ag)).1;have:=a2 W[q] (T.mem_iff.mp (NT ag));omega
  .intro g0
   show(match gx kl arms with
    |some f=>Except.error f
    |none=>Except.ok g0)=_
   rw[FW sc.kk hk T bj p.ok]
  .have e:=gf;rw[Pf ()]at e;exact jC.jh e p.g
  .have:aw.length*share.toNat<=3*share.toNat:=PZ _ ();omega
theorem BF (hj:1<=j)(F:jq K "_law_named_match" "_law_named_match" b6 f fd)(TK:eL P w K mg base "_law_take" 1 U7 cC gT tfd)(L:eL P w K mg base "_law_named" j U6 (fB K n) gN nfd)(p:mg "len"=none)(z_range:mg "range"=none)(o:mg "tuple"=none):cA P w K mg base gy (j+1) f fd Vm (ug K n):=by
 refine F.ok ck (λvs H Q E h=>?_) (λcdv A outer s H vs Q E hr h=>?_)
 .have(_,_,_,_,_,_,_,_,_,_,_,rfl,_):=h;rfl
 have(fe,d,la,q,J,S,kl,nm,ds,ns,m,rfl,z,ao,aa,u,B,R,O,ad,dn,W,N,k):=h;refine#[_,(Z5 (Zp (Zk aP (Zj (va aN 1)) (Z0 TK (Z1 (va aN 0) (Z1 (Z2 aJ p Nl (Z1 (Zj (va aN 1)) aA)) aA)))) (Z9 (2) (Ze (ga ck.nd cI 5) (Zs (ga ck.nd cI 6))))) (Z5 (Z4 ck.nd cI 7 (Z0 L (Z1 (va aN 0) (Z1 (va aN 1) (Z1 (va aN 2) (Z1 (va aN 3) (Zc (va aN 4)))))))) cK)),?_]
 right
 right
 have hf:=z.ff;have gk:=z.get (yp S);have(ka,l,e,C,D):=z.kd.aS;have ek:S.kd=ka:=V.ref.inj e;rw[<-ek]at C;have X:=D.length;rw[bM]at X;have l3:=z.kk.l3;have an:(0:Int)<(l.length:Int):=()
 have am:(l.length:Int)<1073741824:=()
 ext r H1 r0 r1 M;have ak:=z.ext M;have Y:=M.kt hf;have ag:=C.kt Y;have(v1,Z,_):=oV (xs:=l) r0 r1;have G:r.toNat<l.length:=()
 have(t,ht,rv):=D.get' (i:=r.toNat) (v:=v1) (by
  have:=aH (xs:=l) (j:=r.toNat) (v:=l[r.toNat]) (my G);rw[show((r.toNat:Nat):Int)=r by omega,Z]at this;rw[my G];exact this.symm)
 rw[xn]at ht;have(kd,ab,rfl):=we.mp ht;have(qa,w1,w2,rfl,U,q1,q2):=(show Rp K H (.t [.s kd.1,.t (kd.2.map kI)]) v1 from rv).t2;obtain rfl:=q1.aM;have(ta,ah,rfl,_,_):=q2.aS;have ae:=U.kt Y;have I:=M.1 _ _ u aa;have aj:(0:Int)<=q:=()
 have al:ns.length+2*J.toNat<=80:=()
 ext v2 H2 ai m2 y;ext;have f2:dZ [S.lg] fe H H2:=(Ext.sX hf M).trans y.fr;exact Gb hj TK L p z_range o hr y.sc (Nf ab) (y.fr.jE B u I) u B R O ad dn W N ((q2.kt Y).kt y.fr.kt) y.r y.g λv' H' tm m' T ac r' g'=>k v' H' tm m' #[T,f2.trans ac,r',g']
structure wX(K:bN) (fe d la:Addr) (S:Sn) (kl:Kl) (nm:List Str) (ds:List (Str×Nat)) (ns:List Str) (room down:Int) (n:Nat) (H:Hp) (m:Nat):Prop where
 sc:fk K H fe d S kl nm ds m
 hla:H la=some (.lst (ns.map V.str))
 nla:la≠fe
 nlg:la≠S.lg
 r5:5<=room
 rh:room<=100
 d1:1<=down
 dn:down<n+1
 ln:ns.length+2*down.toNat<=80
 wn:∀x∈ns,Wo x
def zq(D:L2.Ends)(K:bN)(o d:Addr)(S:Sn)(kl:Kl)(p:List Str)(ds:List (Str×Nat))(ns:List Str)(q:Nat)(e g:Int)(H:Hp):Prop:=∀(v:V) (j:Hp) (l:Tm) (m:Nat),fk K j o d S kl p ds m->dZ [S.lg] o H j->Rp K j (enc l) v->lX kl ds S.f0 ns q m e.toNat (g.toNat-1+1) l->D.rt v j
theorem wX.step (x:wX K fe d la S kl nm ds ns room down n H m)(e:fk K H' fe d S kl nm ds m')(fr:dZ [S.lg] fe H H'):wX K fe d la S kl nm ds ns room down n H' m':=#[e,fr.jE x.nlg x.nla x.hla,x.nla,x.nlg,x.r5,x.rh,x.d1,x.dn,x.ln,x.wn]
theorem wX.ext (x:wX K fe d la S kl nm ds ns room down n H m)(e:Ext fe H H'):wX K fe d la S kl nm ds ns room down n H' m:=x.step (x.sc.ext e) (Ext.sX x.sc.ff e)
theorem wX.same (x:wX K fe d la S kl nm ds ns room down n H m)(e:aT H H'):wX K fe d la S kl nm ds ns room down n H' m:=x.ext ((Ext.refl x.sc.ff).same e)
theorem zq.step (k:zq D K fe d S kl nm ds ns m0 room down H)(fr:dZ [S.lg] fe H H'):zq D K fe d S kl nm ds ns m0 room down H':=λv j e m' s f r g=>k v j e m' s (fr.trans f) r g
theorem zq.ext (k:zq D K fe d S kl nm ds ns m0 room down H)(g:cM H fe)(e:Ext fe H H'):zq D K fe d S kl nm ds ns m0 room down H':=k.step (Ext.sX g e)
theorem aB :Nm U4 (ak aW):=by decide
theorem iE :Lm U4 (ak aW):=by decide
theorem fX :aZ U4 U6 (ak aW):=by ac_rfl
theorem Ge {P:IF}{w:Nn}{K:bN}{mg:Str->Option eF}{base:Heap}{gT:Addr}{tfd:L1}{f:Addr}{cdv:eF}{A:Nx}{s:fy}{H1:Hp}{n j:Nat}{D:L2.Ends}{H:Hp}{fe d la:Addr}{room down form share:Int}{S:Sn}{kl:Kl}{nm:List Str}{ds:List (Str×Nat)}{ns:List Str}{m m0 m1:Nat}{vo vt:V}{one other:Tm}{o7 o8 o12 o13:Option V}(hj:1<=j)(TK:eL P w K mg base "_law_take" 1 U7 cC gT tfd)(l:mg "len"=none)(hr:di j (A.deeper (Np "_law_named" (ak aW) s.heap.objs.size f cdv))){ls:Addr}{vs:List V}{ps:List (Str×Nat)}(X:wX K fe d la S kl nm ds ns room down n H m)(k:zq D K fe d S kl nm ds ns m0 room down H)(hsh:share=(room-1) / 3)(ro:Rp K H (enc one) vo)(go:lX kl ds S.f0 ns m0 m1 share.toNat (down.toNat-1) one)(rt:Rp K H (enc other) vt)(gt:lX kl ds S.f0 ns m1 m share.toNat (down.toNat-1) other)(hls:H ls=some (.lst vs))(nls:ls≠fe)(rls:bO K H (ps.map DE) vs)(lps:ps.length<=20)(hps:ps≠[]->(form=6/\ps=wW kl)\/(form=7/\ps=ds)):
  ja (Zi gy U4 "_law_named" (ak aW) H1).nN ((bh aW).drop 13) D [some (.ref fe),some (.ref d),some (.ref la),some (.int room),some (.int down),some (.int form),some (.int share),o7,o8,some vo,some vt,some (.ref ls),o12,o13] H:=by
 refine d7 ((Z5 (Zb (Zh bV (Z2 aJ l Nl (Zc (va aB 11))) aC (bI _)) (Zd (Zu (Zl (Z1 aG (Z1 (@dX _ _ _ _ _ _ _ _ _ _ ku (Zl (Z1 (va aB 9) (Zc (va aB 10)))) eY (@dj _ _ _ (Z0 TK (c8 (va aB 0) (Zc aC))))) aA)))))) (Z5 (Zp (Zk bx (va aB 11) (Z0 TK (Z1 (va aB 0) (Z1 (Z2 aJ l Nl (Zc (va aB 11))) aA)))) (Z9 (2) (Ze (ga fX.nd iE 12) (Zs (ga fX.nd iE 13))))) (Zd (Zu (Zl (Z1 (Zk bx (Zt (c8 aG (Zc aG))) (bS kB (va aB 5) aC)) (Z1 (va aB 12) (Z1 (@dX _ _ _ _ _ _ _ _ _ _ ku (Zl (Z1 (va aB 9) (Z1 (va aB 10) (Z1 (Zl (c8 aG (Zc aC))) aA)))) eY (dj (va aB 13))) aA))))))))) ?_
 right
 right
 have J:=X.sc.ff;have G:=rls.length;rw[bM]at G;have r5:=X.r5;have ay:1<=share:=()
 ext;refine bW (λc=>?_) (λc=>?_)
 .ext;intro p2 av;have s2:=ae av (.tup [vo,vt]);have h2:cP K (upd H p2 (.tup [vo,vt])) p2 [vo,vt]:=cP.of af;have ad:=J.same s2;generalize upd H p2 (.tup [vo,vt])=H2 at s2 h2 ad|-;ext r3 H3 ap Y M;have h3:=h2.kt (M.kt ad);have ah:Ext fe H H3:=((Ext.refl J).same s2).trans M;ext p4 H4 s4 h4;have u:=ah.same s4;have T:=ro.kt (u.kt J);have al:=rt.kt (u.kt J);obtain⟨q,rfl⟩:∃q:Nat,r3=q:=#[r3.toNat,()];rw[iL]at h4;ext o r;have s5:=ae r (.tup [.str "row",.ref p4]);have O:=u.same s5;have aj:=X.sc.ext O;have f5:dZ [S.lg] fe H _:=Ext.sX J O
  have fin:∀ks:List Tm,bO K H4 (ks.map enc) ([vo,vt].take q)->jC kl ds S.f0 ns (Ng ks.length []) m0 m (share.toNat+share.toNat) (down.toNat-1) ks->D.rt (.ref o) (upd H4 o (.tup [.str "row",.ref p4])):=λks rk L=>by
   refine k _ _ (.mk .row ks) m aj f5 ?_ (lX.FU rfl lY (ig λ_ z=>nomatch z) True.intro (λ_=>rfl) L ())
   rw[cY];exact Rp.new (K:=K) (xs:=[.s "row",.t (ks.map enc)]) r (.cons .s (.one (Rp.t h4 rk)))
  have mm:=go.mm;have C:=gt.mm
  match q,Y with
  |0,_=>exact fin [] .nil (by have:=jC.nil (kl:=kl) (ds:=ds) (f0:=S.f0) (ns:=ns) (d:=down.toNat-1) (bs:=[]) (show m0<=m by omega);exact#[this.wn,this.ta,by have:=this.sz;omega,this.dp,this.gd,this.mm])
  |1,_=>exact fin [one] (.one T) (by have:=jC.jh go (jC.nil (bs:=[]) C);exact#[this.wn,this.ta,by have:=this.sz;omega,this.dp,this.gd,this.mm])
  |2,_=>exact fin [one,other] (.cons T (.one al)) (jC.jh go (jC.jh gt (jC.nil (bs:=[]) (lj _))))
 .have ac:ps≠[]:=λz=>c (by rw[z]at G;rw[G];rfl)
  have l0:(0:Int)<(vs.length:Int):=by
   have:=List.length_pos_iff.mpr ac;omega
  have l1:(vs.length:Int)<1073741824:=()
  ext r3 H3 ap Y M;have h3:=M.1 _ _ nls hls;have hq:r3.toNat<vs.length:=()
  have aa:r3.toNat<ps.length:=()
  have(v3,ar,Q):=rls.get (i:=r3.toNat) (x:=DE ps[r3.toNat]) (by rw[xn,my aa];rfl)
  have a3:eK vs r3=some v3:=by
   have:=aH (xs:=vs) (j:=r3.toNat) ar
   rwa [show((r3.toNat:Nat):Int)=r3 by omega]at this
  have g:ps[r3.toNat]∈ps:=NT aa;generalize ps[r3.toNat]=pp at Q g;have(qa,w1,w2,rfl,aq,q1,q2):=(show Rp K H (.t [.s pp.1,.i pp.2]) v3 from Q).t2;obtain rfl:=q1.aM;obtain rfl:=q2.jH;have k3:=M.kt J;have ax:=aq.kt k3;have an:=ro.kt k3;have am:=rt.kt k3
  have wd:∃z:Str,∃h:List Tm->Tm,eK [V.str "tag",V.str "call"] (form-6)=some (.str z)/\(∀ks,enc (h ks)=.t [.s z,.s pp.1,.t (ks.map enc)])/\pp.2<=3/\∀ks zz,ks.length=pp.2->jC kl ds S.f0 ns (Ng ks.length []) m0 m zz (down.toNat-1) ks->zz+1<=room.toNat->lX kl ds S.f0 ns m0 m room.toNat (down.toNat-1+1) (h ks):=by
   rcases hps ac with⟨rfl,e⟩|⟨rfl,e⟩<;>rw[e]at g
   .have(yt,e1,e2):=IW X.sc.kk g;refine#["tag",λks=>.mk (.tag pp.1) ks,aH (j:=0) rfl,λks=>by rw[cY];rfl,?_,λks zz Z L hz=>lX.FU rfl lY (ig λ_ z=>nomatch z) (by have(kk,I,hp):=Px.mp g;have(t,ht,e):=NI.mp hp;rw[<-e];exact(X.sc.kk.nw kk I).2 t ht) (λg0=>?_) L hz]
    .have(kk,I,hp):=Px.mp g;have(t,ht,rfl):=NI.mp hp;have:=(X.sc.kk.pt kk I).2.2 t ht;show t.2.length<=3;omega
    .show(match jJ kl pp.1 with
      |none=>Except.error (Er.nn,pp.1)
      |some y=>if ks.length=y.2.2.length then Except.ok g0 else .error (.wr,pp.1))=_
     rw[e1];dsimp only;rw[if_pos (by rw[Z,e2])]
   .refine#["call",λks=>.mk (.call pp.1) ks,aH (j:=1) rfl,λks=>by rw[cY];rfl,X.sc.d3 pp g,λks zz Z L hz=>lX.FU rfl lY (ig λ_ z=>nomatch z) (X.sc.dw pp g) (λg0=>?_) L hz]
    show(match ds.find? (λd=>decide (d.1=pp.1))with
      |none=>Except.error (Er.nn,pp.1)
      |some y=>if ks.length=y.2 then Except.ok g0 else .error (.wr,pp.1))=_
    rw[lZ (λp:Str×Nat=>p.1) X.sc.dn g];dsimp only;rw[if_pos Z]
  have(z,hh,az,eh,p3,gh):=wd;ext l4 aw;have s4:=ae aw (.lst [.str "tag",.str "call"]);have h4:bQ K (upd H3 l4 (.lst [.str "tag",.str "call"])) l4 [.str "tag",.str "call"]:=bQ.of af;generalize upd H3 l4 (.lst [.str "tag",.str "call"])=H4 at s4 h4|-;ext o r;have s5:=ae r (.tup [.str "num",.int 3]);have W:Rp K (upd H4 o (.tup [.str "num",.int 3])) (enc (.mk (.num 3) [])) (.ref o):=by rw[cY];exact Rp.new (K:=K) r (.cons .s (.one .i))
  generalize upd H4 o (.tup [.str "num",.int 3])=H5 at s5 W |-;ext p6 as;have s6:=ae as (.tup [vo,vt,.ref o]);have h6:cP K (upd H5 p6 (.tup [vo,vt,.ref o])) p6 [vo,vt,.ref o]:=cP.of af;have U:=W.same s6;generalize upd H5 p6 (.tup [vo,vt,.ref o])=H6 at s6 h6 U|-;ext p7 H7 s7 h7;rw[iL]at h7;have v:=((s4.trans s5).trans s6).trans s7;have ag:Ext fe H H7:=M.same v;have B:=an.same v;have R:=am.same v;have ao:=U.same s7;ext p8 ab;have s8:=ae ab (.tup [.str z,.str pp.1,.ref p7]);have N:=ag.same s8;have ai:=X.sc.ext N;have f8:dZ [S.lg] fe H _:=Ext.sX J N
  have fin:∀ks:List Tm,ks.length=pp.2->bO K H7 (ks.map enc) ([vo,vt,.ref o].take pp.2)->jC kl ds S.f0 ns (Ng ks.length []) m0 m (share.toNat+(share.toNat+1)) (down.toNat-1) ks->D.rt (.ref p8) (upd H7 p8 (.tup [.str z,.str pp.1,.ref p7])):=λks Z rk L=>by
   refine k _ _ (hh ks) m ai f8 ?_ (gh ks _ Z L ());rw[eh];exact Rp.new (K:=K) (xs:=[.s z,.s pp.1,.t (ks.map enc)]) ab (.cons .s (.cons .s (.one (Rp.t h7 rk))))
  have mm:=go.mm;have C:=gt.mm;have g3:lX kl ds S.f0 ns m m 1 (down.toNat-1) (.mk (.num 3) []):=.leaf rfl (λb hb=>by cases hb) (ig λ_ z=>nomatch z) True.intro (λ_=>rfl) (lj _)
  generalize pp.2=q at p3 fin
  match q,p3 with
  |0,_=>exact fin [] rfl .nil (by have:=jC.nil (kl:=kl) (ds:=ds) (f0:=S.f0) (ns:=ns) (d:=down.toNat-1) (bs:=[]) (show m0<=m by omega);exact#[this.wn,this.ta,by have:=this.sz;omega,this.dp,this.gd,this.mm])
  |1,_=>exact fin [one] rfl (.one B) (by have:=jC.jh go (jC.nil (bs:=[]) C);exact#[this.wn,this.ta,by have:=this.sz;omega,this.dp,this.gd,this.mm])
  |2,_=>exact fin [one,other] rfl (.cons B (.one R)) (by have:=(jC.jh go (jC.jh gt (jC.nil (bs:=[]) (lj _))));exact#[this.wn,this.ta,by have:=this.sz;omega,this.dp,this.gd,this.mm])
  |3,_=>exact fin [one,other,.mk (.num 3) []] rfl (.cons B (.cons R (.one ao))) (by have:=(jC.jh go (jC.jh gt (jC.jh g3 (jC.nil (bs:=[]) (lj _)))));exact#[this.wn,this.ta,by have:=this.sz;omega,this.dp,this.gd,this.mm])
theorem Gf {P:IF}{w:Nn}{K:bN}{mg:Str->Option eF}{base:Heap}{gT:Addr}{tfd:L1}{f:Addr}{cdv:eF}{A:Nx}{s:fy}{H1:Hp}{n j:Nat}{D:L2.Ends}{H:Hp}{fe d la:Addr}{room down form share:Int}{S:Sn}{kl:Kl}{nm:List Str}{ds:List (Str×Nat)}{ns:List Str}{m m0 m1:Nat}{vo vt:V}{one other:Tm}{o7 o8 o11 o12 o13:Option V}(hj:1<=j)(TK:eL P w K mg base "_law_take" 1 U7 cC gT tfd)(p:mg "len"=none)(l:mg "int"=none)(hr:di j (A.deeper (Np "_law_named" (ak aW) s.heap.objs.size f cdv)))(X:wX K fe d la S kl nm ds ns room down n H m)(k:zq D K fe d S kl nm ds ns m0 room down H)(hsh:share=(room-1) / 3)(ro:Rp K H (enc one) vo)(go:lX kl ds S.f0 ns m0 m1 share.toNat (down.toNat-1) one)(rt:Rp K H (enc other) vt)(gt:lX kl ds S.f0 ns m1 m share.toNat (down.toNat-1) other):
  ja (Zi gy U4 "_law_named" (ak aW) H1).nN ((bh aW).drop 12) D [some (.ref fe),some (.ref d),some (.ref la),some (.int room),some (.int down),some (.int form),some (.int share),o7,o8,some vo,some vt,o11,o12,o13] H:=by
 have hf:=X.sc.ff;have ah:=X.sc.get (Az S);have ai:=X.sc.get (wL S);have(e,t1,t2):=X.sc.lt;have(g,d1,d2):=X.sc.ld;have L:=t2.length;rw[bM]at L;have M:=d2.length;rw[bM]at M;have l9:=DC X.sc.kk;have l8:=X.sc.dl
 have q:∀(u:List (Str×Nat)) (a b:Nat) (r:List V),a<=1->b<=1->r=(Ng a e).flatten++(Ng b g).flatten->bO K H (u.map DE) r->(u≠[]->(form=6/\u=wW kl)\/(form=7/\u=ds))->(if decide (V.int form=V.int 6)=true then(1:Int)else 0)=(a:Int)->(if decide (V.int form=V.int 7)=true then(1:Int)else 0)=(b:Int)->ja (Zi gy U4 "_law_named" (ak aW) H1).nN ((bh aW).drop 12) D [some (.ref fe),some (.ref d),some (.ref la),some (.int room),some (.int down),some (.int form),some (.int share),o7,o8,some vo,some vt,o11,o12,o13] H:=λu a b r Y W ev Z hp ea eb=>by
  refine d7 ((Z5 (Z4 fX.nd iE 11 (Zm iT (Zm Cd (Zj (va aB 1)) (Z7 iH l OF (Z1 (jo bV (va aB 5) aC (bI _)) aA))) (Zm Cd (Zj (va aB 1)) (Z7 iH l OF (Z1 (jo bV (va aB 5) aC (bI _)) aA))))) cK)) ?_
  right
  right
  have ag:e.length*((a:Nat):Int).toNat<=mH:=small (by rw[OP];have:=T5 e.length Y;omega);have ad:g.length*((b:Nat):Int).toNat<=mH:=small (by rw[OP];have:=T5 g.length W;omega);have ac:(Ng a e).flatten.length<=20:=by rw[len_rep];have:=PZ e.length Y;omega
  have ab:(Ng b g).flatten.length<=20:=by rw[len_rep];have:=PZ g.length W;omega
  ext;refine .inr #[_,rfl,?_];rw[ea];ext J O;rw[OP];have t:=ae O (.lst (Ng a e).flatten);have R:upd H J (.lst (Ng a e).flatten) J=some (.lst (Ng a e).flatten):=af;have T:=(X.sc.same t).get (wL S);have U:=t _ _ d1;generalize upd H J (.lst (Ng a e).flatten)=H2 at t R T U|-;ext;refine .inr #[_,rfl,?_];rw[eb];ext I N;rw[OP];have B:=ae N (.lst (Ng b g).flatten);have h3:upd H2 I (.lst (Ng b g).flatten) I=some (.lst (Ng b g).flatten):=af;have Q:=B _ _ R;have lc:(Ng a e).flatten.length+(Ng b g).flatten.length<=mH:=small ();generalize upd H2 I (.lst (Ng b g).flatten)=H3 at B h3 Q|-;ext p4 v;rw[<-ev];have s4:=ae v (.lst r);have o:=(t.trans B).trans s4;have n4:p4≠fe:=bB (X.sc.same (t.trans B)).ff v;have lv:=Z.length;rw[bM]at lv
  have aa:r.length<=20:=by
   have:=congrArg QO ev;rw[i4,len_rep,len_rep]at this;have h1:=PZ e.length Y;have R:=PZ g.length W;omega
  ext;exact Ge hj TK p hr (X.same o) (k.ext hf ((Ext.refl hf).same o)) hsh (ro.same o) go (rt.same o) gt af n4 (Z.same o) () hp
 by_cases G:form=6
 .exact q (wW kl) 1 0 e (lj _) (Nu _) (by simp) t2 (λ_=>.inl #[G,rfl]) (by rw[G];rfl) (by rw[G];rfl)
 .by_cases C:form=7
  .exact q ds 0 1 g (Nu _) (lj _) (by simp) d2 (λ_=>.inr #[C,rfl]) (by rw[C];rfl) (by rw[C];rfl)
  .exact q [] 0 0 [] (Nu _) (Nu _) (by simp) .nil (λz=>absurd rfl z) (if_neg (λz=>G (V.int.inj (of_decide_eq_true z)))) (if_neg (λz=>C (V.int.inj (of_decide_eq_true z))))
theorem Kz {P:IF}{w:Nn}{K:bN}{mg:Str->Option eF}{base:Heap}{gT:Addr}{tfd:L1}{f:Addr}{cdv:eF}{A:Nx}{s:fy}{H1:Hp}{n j:Nat}{D:L2.Ends}{H:Hp}{fe d la:Addr}{room down form share:Int}{S:Sn}{kl:Kl}{nm:List Str}{ds:List (Str×Nat)}{ns:List Str}{m m0 m1:Nat}{vo vt:V}{one other:Tm}{o7 o8 o11 o12 o13:Option V}(hj:1<=j)(TK:eL P w K mg base "_law_take" 1 U7 cC gT tfd)(l:mg "len"=none)(o:mg "int"=none)(hr:di j (A.deeper (Np "_law_named" (ak aW) s.heap.objs.size f cdv)))(X:wX K fe d la S kl nm ds ns room down n H m)(k:zq D K fe d S kl nm ds ns m0 room down H)(hsh:share=(room-1) / 3)(ro:Rp K H (enc one) vo)(go:lX kl ds S.f0 ns m0 m1 share.toNat (down.toNat-1) one)(rt:Rp K H (enc other) vt)(gt:lX kl ds S.f0 ns m1 m share.toNat (down.toNat-1) other):
  ja (Zi gy U4 "_law_named" (ak aW) H1).nN ((bh aW).drop 11) D [some (.ref fe),some (.ref d),some (.ref la),some (.int room),some (.int down),some (.int form),some (.int share),o7,o8,some vo,some vt,o11,o12,o13] H:=by
 refine d7 ((Z5 (Zb (Zo bV (va aB 5) aC) (Zd (Zu (Zk bx (Zt (Z1 (Zl (Z1 aG (Z1 (Zk vN aG (Z0 TK (c8 (va aB 0) (Zc aC)))) (Z1 (va aB 9) (Zc (va aB 10)))))) (Z1 (Zl (Z1 aG (Z1 (va aB 9) (Zc (va aB 10))))) aA))) (Z0 TK (c8 (va aB 0) (Zc aC))))))) cK)) ?_
 right
 right
 have hf:=X.sc.ff;have r5:=X.r5;refine lQ ?_;intro N1 c1;have last:N1 [some (.ref fe),some (.ref d),some (.ref la),some (.int room),some (.int down),some (.int form),some (.int share),o7,o8,some vo,some vt,o11,o12,o13] H:=Cut.go c1 (Gf hj TK l o hr X k hsh ro go rt gt);clear c1;ext;refine bW (λc=>?_) (λc=>?_)
 .clear last
  have fin:∀(p:Addr) (R:Hp) (h:Hd),Ext fe H R->Rp K R (enc (.mk h [one,other])) (.ref p)->fc h 2=true->(∀b∈bnd h 2,b.length<=5)->tW h->HW h->(∀g0,eO kl ds g0 ns h 2=.ok g0)->bnd h 2=[[],[]]->D.rt (.ref p) R:=λp R h x' r' a1 a2 a3 ah a4 a5=>by
   refine k _ _ (.mk h [one,other]) m (X.sc.ext x') (Ext.sX hf x') r' (lX.FU (z:=share.toNat+(share.toNat+0)) a1 a2 a3 ah a4 ?_ ?_)
   .show jC kl ds S.f0 ns (bnd h 2) m0 m _ _ _;rw[a5];exact jC.jh go (jC.jh gt (jC.nil (lj _)))
   .omega
  have z6:(("+-*:<=":Str)).length<=mH:=by decide
  ext r2 H2 Y W r;have(Q,ad,_):=oV (xs:=(("+-*:<=":Str)).cps.toList) (k:=r2) Y (by rw[show((("+-*:<=":Str)).cps.toList.length:Int)=6 by decide];exact W);have B:=ro.kt (r.kt hf);have v:=rt.kt (r.kt hf);have ac:=r.2;ext g M;have u:=ae M (.tup [.str "op",.str ⟨#[Q]⟩,vo,vt])
  have r3:Rp K (upd H2 g (.tup [.str "op",.str ⟨#[Q]⟩,vo,vt])) (enc (.mk (.op ⟨#[Q]⟩) [one,other])) (.ref g):=by
   rw[cY];exact Rp.new (K:=K) M (.cons .s (.cons .s (.cons B (.one v))))
  generalize upd H2 g (.tup [.str "op",.str ⟨#[Q]⟩,vo,vt])=H3 at u r3|-;ext e L;have O:=ae L (.tup [.str "more",vo,vt])
  have r4:Rp K (upd H3 e (.tup [.str "more",vo,vt])) (enc (.mk .more [one,other])) (.ref e):=by
   rw[cY];exact Rp.new (K:=K) L (.cons .s (.cons (B.same u) (.one (v.same u))))
  have I:=r3.same O;generalize upd H3 e (.tup [.str "more",vo,vt])=H4 at O r4 I|-;ext q J;have N:=ae J (.lst [.ref g,.ref e]);have h5:upd H4 q (.lst [.ref g,.ref e]) q=some (.lst [.ref g,.ref e]):=af;have U:Ext fe H (upd H4 q (.lst [.ref g,.ref e])):=((r.same u).same O).same N;have n5:q≠fe:=bB ((r.same u).same O).2 J;have C:=r4.same N;have G:=I.same N;generalize upd H4 q (.lst [.ref g,.ref e])=H5 at N h5 U C G|-;have Z:=U.2;ext r6 H6 ab aa T;have h6:bQ K H6 q [.ref g,.ref e]:=bQ.of (T.1 _ _ n5 h5);have t:=U.trans T;have k6:=T.kt Z;rcases(show r6=0\/r6=1 by omega)with rfl|rfl
  .have a0:eK [V.ref g,V.ref e] 0=some (.ref g):=aH (j:=0) rfl;ext;exact fin _ _ _ t (G.kt k6) rfl lY (ig λ_ z=>nomatch z) True.intro (λ_=>rfl) rfl
  .have a0:eK [V.ref g,V.ref e] 1=some (.ref e):=aH (j:=1) rfl;ext;exact fin _ _ _ t (C.kt k6) rfl lY (ig λ_ z=>nomatch z) True.intro (λ_=>rfl) rfl
 .ext;exact last
theorem KA {P:IF}{w:Nn}{K:bN}{mg:Str->Option eF}{base:Heap}{gT gN:Addr}{tfd nfd:L1}{f:Addr}{cdv:eF}{A:Nx}{s:fy}{H1:Hp}{n j:Nat}{D:L2.Ends}{H:Hp}{fe d la:Addr}{room down form share:Int}{S:Sn}{kl:Kl}{nm:List Str}{ds:List (Str×Nat)}{ns:List Str}{m m0 m1:Nat}{vo vt:V}{one other:Tm}{o7 o8 o11 o12 o13:Option V}(T:1<=j)(U:eL P w K mg base "_law_take" 1 U7 cC gT tfd)(v:eL P w K mg base "_law_named" j U6 (fB K n) gN nfd)(e:mg "len"=none)(l:mg "int"=none)(hr:di j (A.deeper (Np "_law_named" (ak aW) s.heap.objs.size f cdv)))(X:wX K fe d la S kl nm ds ns room down n H m)(k:zq D K fe d S kl nm ds ns m0 room down H)(hsh:share=(room-1) / 3)(ro:Rp K H (enc one) vo)(go:lX kl ds S.f0 ns m0 m1 share.toNat (down.toNat-1) one)(rt:Rp K H (enc other) vt)(gt:lX kl ds S.f0 ns m1 m share.toNat (down.toNat-1) other):
  ja (Zi gy U4 "_law_named" (ak aW) H1).nN ((bh aW).drop 10) D [some (.ref fe),some (.ref d),some (.ref la),some (.int room),some (.int down),some (.int form),some (.int share),o7,o8,some vo,some vt,o11,o12,o13] H:=by
 refine d7 ((Z5 (Zb (Zo bV (va aB 5) aC) (Zd (Zu (Zl (Z1 aG (Z1 (va aB 9) (Z1 (va aB 10) (Z1 (Z0 v (Z1 (va aB 0) (Z1 (va aB 1) (Z1 (va aB 2) (Z1 (va aB 6) (Z1 (bS kB (va aB 4) aC) aA)))))) aA)))))))) cK)) ?_
 right
 right
 have hf:=X.sc.ff;have Z:=X.r5;refine lQ ?_;intro V G;have last:V [some (.ref fe),some (.ref d),some (.ref la),some (.int room),some (.int down),some (.int form),some (.int share),o7,o8,some vo,some vt,o11,o12,o13] H:=Cut.go G (Kz T U e l hr X k hsh ro go rt gt);clear G;have W:=X.sc;have R:=X.hla;have N:=X.nla;have M:=X.nlg;have Y:=X.rh;have d1:=X.d1;have dn:=X.dn;have ln:=X.ln;have I:=X.wn;have L:0<=share:=()
 have Q:ns.length+2*(down-1).toNat<=80:=()
 ext;refine bW (λc=>?_) (λc=>?_)
 .clear last;ext J H2 q O o;have u:=ro.kt o.fr.kt;have t:=rt.kt o.fr.kt;ext p3 p;have B:=ae p (.tup [.str "if",vo,vt,J]);have C:=o.g;rw[Pf (),show(down-1).toNat=down.toNat-1 by omega]at C;refine k _ _ (.mk .ife [one,other,q]) O (o.sc.same B) (o.fr.same B) ?_ (lX.FU (z:=share.toNat+(share.toNat+(share.toNat+0))) rfl lY (ig λ_ z=>nomatch z) True.intro (λ_=>rfl) (jC.jh go (jC.jh gt (jC.jh C (jC.nil (bs:=[]) (lj _))))) ())
  rw[cY];exact Rp.new (K:=K) p (.cons .s (.cons u (.cons t (.one o.r))))
 .ext;exact last
theorem KC {P:IF}{w:Nn}{K:bN}{mg:Str->Option eF}{base:Heap}{gT gN:Addr}{tfd nfd:L1}{f:Addr}{cdv:eF}{A:Nx}{s:fy}{H1:Hp}{n j:Nat}{D:L2.Ends}{H:Hp}{fe d la:Addr}{room down form share:Int}{S:Sn}{kl:Kl}{nm:List Str}{ds:List (Str×Nat)}{ns:List Str}{m m0 m1:Nat}{x y:Str}{vo vt:V}{one other:Tm}{o11 o12 o13:Option V}(hj:1<=j)(TK:eL P w K mg base "_law_take" 1 U7 cC gT tfd)(C:eL P w K mg base "_law_named" j U6 (fB K n) gN nfd)(e:mg "len"=none)(l:mg "int"=none)(hr:di j (A.deeper (Np "_law_named" (ak aW) s.heap.objs.size f cdv)))(X:wX K fe d la S kl nm ds ns room down n H m)(k:zq D K fe d S kl nm ds ns m0 room down H)(hsh:share=(room-1) / 3)(ro:Rp K H (enc one) vo)(go:lX kl ds S.f0 ns m0 m1 share.toNat (down.toNat-1) one)(rt:Rp K H (enc other) vt)(gt:lX kl ds S.f0 ns m1 m share.toNat (down.toNat-1) other)(hxy:x≠y)(hwx:Wo x)(hwy:Wo y):
  ja (Zi gy U4 "_law_named" (ak aW) H1).nN ((bh aW).drop 9) D [some (.ref fe),some (.ref d),some (.ref la),some (.int room),some (.int down),some (.int form),some (.int share),some (.str x),some (.str y),some vo,some vt,o11,o12,o13] H:=by
 refine d7 ((Z5 (Zb (Zo bV (va aB 5) aC) (Zd (Zu (Zl (Z1 aG (Z1 (va aB 9) (Z1 (va aB 7) (Z1 (va aB 8) (Z1 (va aB 10) (Z1 (Z0 C (Z1 (va aB 0) (Z1 (va aB 1) (Z1 (Zm iT (va aB 2) (Zt (Z1 (va aB 7) (Zc (va aB 8))))) (Z1 (va aB 6) (Z1 (bS kB (va aB 4) aC) aA)))))) aA)))))))))) cK)) ?_
 right
 right
 have hf:=X.sc.ff;have r5:=X.r5;refine lQ ?_;intro N1 Y;have last:N1 [some (.ref fe),some (.ref d),some (.ref la),some (.int room),some (.int down),some (.int form),some (.int share),some (.str x),some (.str y),some vo,some vt,o11,o12,o13] H:=Cut.go Y (KA hj TK C e l hr X k hsh ro go rt gt);clear Y;have Q:=X.hla;have ad:=X.nla;have ac:=X.nlg;have rh:=X.rh;have d1:=X.d1;have dn:=X.dn;have ln:=X.ln;have J:=X.wn;have aa:0<=share:=()
 ext;refine bW (λc=>?_) (λc=>?_)
 .clear last;ext l2 R;have G:=ae R (.lst [.str x,.str y]);have h2:upd H l2 (.lst [.str x,.str y]) l2=some (.lst [.str x,.str y]):=af;have v:=G _ _ Q;generalize upd H l2 (.lst [.str x,.str y])=H2 at G h2 v|-;have lc:(ns.map V.str).length+([.str x,.str y]:List V).length<=mH:=small (by rw[bM];show ns.length+2<=_;omega);ext l3 p;have ea:ns.map V.str++[.str x,.str y]=(ns++[x,y]).map V.str:=by simp
  rw[ea];have M:=ae p (.lst ((ns++[x,y]).map V.str));have h3:upd H2 l3 (.lst ((ns++[x,y]).map V.str)) l3=some (.lst ((ns++[x,y]).map V.str)):=af;have o:=X.sc.same G;have n3:l3≠fe:=bB o.ff p;have ag:l3≠S.lg:=(ay o.lg p).symm;generalize upd H2 l3 (.lst ((ns++[x,y]).map V.str))=H3 at M h3|-;have ab:=o.same M;have t:=G.trans M
  have Z:∀q∈ns++[x,y],Wo q:=λq hq=>(L0.mp hq).elim (J q) (λz=>by
   simp only[Nc,NB,or_false]at z;rcases z with rfl|rfl
   .exact hwx
   .exact hwy)
  have ah:(ns++[x,y]).length+2*(down-1).toNat<=80:=by rw[i4];show ns.length+2+_<=_;omega
  ext v4 H4 L m4 B;have U:=(Kt.same t).trans B.fr.kt;have O:=ro.kt U;have N:=rt.kt U;have f4:dZ [S.lg] fe H H4:=((dZ.refl hf).same t).trans B.fr;ext p5 u;have T:=ae u (.tup [.str "fold",vo,.str x,.str y,vt,v4]);have W:=B.g;rw[Pf (),show(down-1).toNat=down.toNat-1 by omega]at W;refine k _ _ (.mk (.fold x y) [one,other,L]) m4 (B.sc.same T) (f4.same T) ?_ (lX.FU (z:=share.toNat+(share.toNat+(share.toNat+0))) rfl ?_ (ig λ_ z=>nomatch z) hwx (λg0=>by show(if x=y then Except.error (Er.tw,x)else Except.ok g0)=_;rw[if_neg hxy]) (jC.jh go (jC.jh gt (jC.cons (b:=[x,y]) W (jC.nil (bs:=[]) (lj _))))) ())
  .rw[cY];exact Rp.new (K:=K) u (.cons .s (.cons O (.cons .s (.cons .s (.cons N (.one B.r))))))
  .intro b I;have I:b∈[[],[],[x,y]]:=I;simp only[Nc,NB,or_false]at I;rcases I with rfl|rfl|rfl
   .exact Nu _
   .exact Nu _
   .show 2<=5;decide
 .ext;exact last
theorem DJ {P:IF}{w:Nn}{K:bN}{mg:Str->Option eF}{base:Heap}{gT gN:Addr}{tfd nfd:L1}{f:Addr}{cdv:eF}{A:Nx}{s:fy}{H1:Hp}{n j:Nat}{D:L2.Ends}{H:Hp}{fe d la:Addr}{room down form share:Int}{S:Sn}{kl:Kl}{nm:List Str}{ds:List (Str×Nat)}{ns:List Str}{m m0:Nat}{x y:Str}{vo:V}{one:Tm}{o10 o11 o12 o13:Option V}(J:1<=j)(L:eL P w K mg base "_law_take" 1 U7 cC gT tfd)(p:eL P w K mg base "_law_named" j U6 (fB K n) gN nfd)(e:mg "len"=none)(l:mg "int"=none)(hr:di j (A.deeper (Np "_law_named" (ak aW) s.heap.objs.size f cdv)))(X:wX K fe d la S kl nm ds ns room down n H m)(k:zq D K fe d S kl nm ds ns m0 room down H)(hsh:share=(room-1) / 3)(ro:Rp K H (enc one) vo)(go:lX kl ds S.f0 ns m0 m share.toNat (down.toNat-1) one)(hxy:x≠y)(hwx:Wo x)(hwy:Wo y):
  ja (Zi gy U4 "_law_named" (ak aW) H1).nN ((bh aW).drop 8) D [some (.ref fe),some (.ref d),some (.ref la),some (.int room),some (.int down),some (.int form),some (.int share),some (.str x),some (.str y),some vo,o10,o11,o12,o13] H:=by
 refine d7 ((Z5 (Z4 fX.nd iE 10 (Z0 p (Z1 (va aB 0) (Z1 (va aB 1) (Z1 (va aB 2) (Z1 (va aB 6) (Z1 (bS kB (va aB 4) aC) aA))))))) cK)) ?_
 right
 right
 have U:=X.sc.ff;have Q:=X.r5;have N:=X.sc;have I:=X.hla;have C:=X.nla;have B:=X.nlg;have O:=X.rh;have W:=X.d1;have V:=X.dn;have T:=X.ln;have u:=X.wn;have z:0<=share:=()
 have G:ns.length+2*(down-1).toNat<=80:=()
 ext M Y v R o;have q:=ro.kt o.fr.kt;have t:=o.g;rw[Pf (),show(down-1).toNat=down.toNat-1 by omega]at t;ext;exact KC J L p e l hr (X.step o.sc o.fr) (k.step o.fr) hsh q go o.r t hxy hwx hwy
theorem KG {P:IF}{w:Nn}{K:bN}{mg:Str->Option eF}{base:Heap}{gT gN:Addr}{tfd nfd:L1}{f:Addr}{cdv:eF}{A:Nx}{s:fy}{H1:Hp}{n j:Nat}{D:L2.Ends}{H:Hp}{fe d la:Addr}{room down form share:Int}{S:Sn}{kl:Kl}{nm:List Str}{ds:List (Str×Nat)}{ns:List Str}{m m0:Nat}{x y:Str}{vo:V}{one:Tm}{o10 o11 o12 o13:Option V}(hj:1<=j)(TK:eL P w K mg base "_law_take" 1 U7 cC gT tfd)(R:eL P w K mg base "_law_named" j U6 (fB K n) gN nfd)(p:mg "len"=none)(u:mg "int"=none)(hr:di j (A.deeper (Np "_law_named" (ak aW) s.heap.objs.size f cdv)))(X:wX K fe d la S kl nm ds ns room down n H m)(k:zq D K fe d S kl nm ds ns m0 room down H)(hsh:share=(room-1) / 3)(ro:Rp K H (enc one) vo)(go:lX kl ds S.f0 ns m0 m (if form=1 then(room-1).toNat else share.toNat) (down.toNat-1) one)(hxy:x≠y)(hwx:Wo x)(hwy:Wo y):
  ja (Zi gy U4 "_law_named" (ak aW) H1).nN ((bh aW).drop 6) D [some (.ref fe),some (.ref d),some (.ref la),some (.int room),some (.int down),some (.int form),some (.int share),some (.str x),some (.str y),some vo,o10,o11,o12,o13] H:=by
 refine d7 ((Z5 (Zb (Zo bV (va aB 5) aC) (Zd (Zu (Zl (Z1 (Zk bx (Zt (Z1 aG (c8 aG (Zc aG)))) (Z0 TK (c8 (va aB 0) (Zc aC)))) (Zc (va aB 9))))))) (Z5 (Zb (Zo bV (va aB 5) aC) (Zd (Zu (Zl (Z1 aG (Z1 (va aB 7) (Z1 (va aB 9) (Z1 (Z0 R (Z1 (va aB 0) (Z1 (va aB 1) (Z1 (Zm iT (va aB 2) (Zt (Zc (va aB 7)))) (Z1 (va aB 6) (Z1 (bS kB (va aB 4) aC) aA)))))) aA)))))))) cK))) ?_
 right
 right
 have C:=X.sc.ff;have r5:=X.r5;have sc:=X.sc;have ac:=X.hla;have an:=X.nla;have am:=X.nlg;have rh:=X.rh;have d1:=X.d1;have dn:=X.dn;have ln:=X.ln;have W:=X.wn;have ah:0<=share:=()
 refine j0 ?_;intro N1 N2 c1 c2;have last:form≠1->N2 [some (.ref fe),some (.ref d),some (.ref la),some (.int room),some (.int down),some (.int form),some (.int share),some (.str x),some (.str y),some vo,o10,o11,o12,o13] H:=λc=>Cut.go c2 (DJ hj TK R p u hr X k hsh ro (by rw[if_neg c]at go;exact go) hxy hwx hwy);clear c2;ext;refine bW (λc=>?_) (λc=>?_)
 .have c':form=1:=V.int.inj (of_decide_eq_true c);rw[if_pos c']at go;clear last c1;ext l2 l;have o:=ae l (.lst [.str "first",.str "others",.str "long"]);have U:upd H l2 (.lst [.str "first",.str "others",.str "long"]) l2=some (.lst [.str "first",.str "others",.str "long"]):=af;have ad:=C.same o;have n2:=bB C l;generalize upd H l2 (.lst [.str "first",.str "others",.str "long"])=H2 at o U ad|-;ext r3 H3 al aj x3;have h3:bQ K H3 l2 [.str "first",.str "others",.str "long"]:=bQ.of (x3.1 _ _ n2 U);have I:Ext fe H H3:=((Ext.refl C).same o).trans x3;have ab:=ro.kt (I.kt C)
  obtain⟨z,hh,az,e1,e2,e3,e4,eh,e5,e6⟩:∃(z:Str) (h:Hd),eK [V.str "first",V.str "others",V.str "long"] r3=some (.str z)/\enc (.mk h [one])=.t [.s z,enc one]/\fc h 1=true/\(∀b∈bnd h 1,b.length<=5)/\tW h/\HW h/\(∀g0,eO kl ds g0 ns h 1=.ok g0)/\bnd h 1=[[]]:=by
   rcases(show r3=0\/r3=1\/r3=2 by omega)with rfl|rfl|rfl
   .exact#["first",.first,aH (j:=0) rfl,by rw[cY];rfl,rfl,lY,ig (λ_ z=>nomatch z),True.intro,λ_=>rfl,rfl]
   .exact⟨"others",.others,aH (j:=1) rfl,by rw[cY];rfl,rfl,lY,ig (λ_ z=>nomatch z),True.intro,λ_=>rfl,rfl⟩
   .exact⟨"long",.long,aH (j:=2) rfl,by rw[cY];rfl,rfl,lY,ig (λ_ z=>nomatch z),True.intro,λ_=>rfl,rfl⟩
  ext p4 M;have s4:=ae M (.tup [.str z,vo]);have G:=I.same s4;refine k _ _ (.mk hh [one]) m (sc.ext G) (Ext.sX C G) ?_ (lX.FU (z:=(room-1).toNat+0) e2 e3 e4 eh e5 ?_ ())
  .rw[e1];exact Rp.new (K:=K) M (.cons .s (.one ab))
  .show jC kl ds S.f0 ns (bnd hh 1) m0 m _ _ _;rw[e6];exact jC.jh go (jC.nil (lj _))
 have Q:form≠1:=λz=>c (by rw[z];rfl);have e:=last Q;rw[if_neg Q]at go;clear last;ext;refine bW (λc=>?_) (λc=>?_)
 .clear e;ext l2 l;have o:=ae l (.lst [.str x]);have U:upd H l2 (.lst [.str x]) l2=some (.lst [.str x]):=af;have N:=o _ _ ac;generalize upd H l2 (.lst [.str x])=H2 at o U N|-;have lc:(ns.map V.str).length+([.str x]:List V).length<=mH:=small (by rw[bM];show ns.length+1<=_;omega);ext l3 B;have ea:ns.map V.str++[.str x]=(ns++[x]).map V.str:=by simp
  rw[ea];have Z:=ae B (.lst ((ns++[x]).map V.str));have h3:upd H2 l3 (.lst ((ns++[x]).map V.str)) l3=some (.lst ((ns++[x]).map V.str)):=af;have v:=X.sc.same o;have n3:l3≠fe:=bB v.ff B;have ao:l3≠S.lg:=(ay v.lg B).symm;generalize upd H2 l3 (.lst ((ns++[x]).map V.str))=H3 at Z h3|-;have ai:=v.same Z;have J:=o.trans Z;have ag:∀q∈ns++[x],Wo q:=λq hq=>(L0.mp hq).elim (W q) (λz=>by rw[EF.mp z];exact hwx);have ap:(ns++[x]).length+2*(down-1).toNat<=80:=by rw[i4];show ns.length+1+_<=_;omega
  ext v4 H4 Y m4 O;have k4:=(Kt.same J).trans O.fr.kt;have aa:=ro.kt k4;have f4:dZ [S.lg] fe H H4:=((dZ.refl C).same J).trans O.fr;ext p5 L;have s5:=ae L (.tup [.str "let",.str x,vo,v4]);have gg:=O.g;rw[Pf (),show(down-1).toNat=down.toNat-1 by omega]at gg;refine k _ _ (.mk (.lt x) [one,Y]) m4 (O.sc.same s5) (f4.same s5) ?_ (lX.FU (z:=share.toNat+(share.toNat+0)) rfl ?_ (ig λ_ z=>nomatch z) True.intro (λg0=>rfl) (jC.jh go (jC.cons (b:=[x]) gg (jC.nil (bs:=[]) (lj _)))) ())
  .rw[cY];exact Rp.new (K:=K) L (.cons .s (.cons .s (.cons aa (.one O.r))))
  .intro b T;have T:b∈[[],[x]]:=T;simp only[Nc,NB,or_false]at T;rcases T with rfl|rfl
   .exact Nu _
   .show 1<=5;decide
 .ext;exact e
theorem IY {P:IF}{w:Nn}{K:bN}{mg:Str->Option eF}{base:Heap}{gT gN:Addr}{tfd nfd:L1}{f:Addr}{cdv:eF}{A:Nx}{s:fy}{H1:Hp}{n j:Nat}{D:L2.Ends}{H:Hp}{fe d la:Addr}{room down form share:Int}{S:Sn}{kl:Kl}{nm:List Str}{ds:List (Str×Nat)}{ns:List Str}{m0:Nat}{x y:Str}{o9 o10 o11 o12 o13:Option V}(Y:1<=j)(TK:eL P w K mg base "_law_take" 1 U7 cC gT tfd)(p:eL P w K mg base "_law_named" j U6 (fB K n) gN nfd)(l:mg "len"=none)(e:mg "int"=none)(hr:di j (A.deeper (Np "_law_named" (ak aW) s.heap.objs.size f cdv)))(X:wX K fe d la S kl nm ds ns room down n H m0)(k:zq D K fe d S kl nm ds ns m0 room down H)(hsh:share=(room-1) / 3)(hxy:x≠y)(hwx:Wo x)(hwy:Wo y):
  ja (Zi gy U4 "_law_named" (ak aW) H1).nN ((bh aW).drop 5) D [some (.ref fe),some (.ref d),some (.ref la),some (.int room),some (.int down),some (.int form),some (.int share),some (.str x),some (.str y),o9,o10,o11,o12,o13] H:=by
 refine d7 ((Z5 (Z4 fX.nd iE 9 (Z0 p (Z1 (va aB 0) (Z1 (va aB 1) (Z1 (va aB 2) (Z1 (Zk bx (Zt (Z1 (va aB 6) (Z1 (bS kB (va aB 3) aC) aA))) (Z7 iH e OF (Z1 (jo bV (va aB 5) aC (bI _)) aA))) (Z1 (bS kB (va aB 4) aC) aA))))))) cK)) ?_
 right
 right
 have Z:=X.sc.ff;have r5:=X.r5;have N:=X.sc;have v:=X.hla;have U:=X.nla;have T:=X.nlg;have rh:=X.rh;have d1:=X.d1;have dn:=X.dn;have ln:=X.ln;have J:=X.wn;have M:0<=share:=()
 have W:ns.length+2*(down-1).toNat<=80:=()
 ext l2 B;have q:=ae B (.lst [.int share,.int (room-1)]);have h2:bQ K (upd H l2 (.lst [.int share,.int (room-1)])) l2 [.int share,.int (room-1)]:=bQ.of af;have u:=N.same q;have o:=q _ _ v;generalize upd H l2 (.lst [.int share,.int (room-1)])=H2 at q h2 u o|-
 have aa:eK [V.int share,V.int (room-1)] (if decide (V.int form=V.int 1)=true then 1 else 0)=some (.int (if form=1 then room-1 else share)):=by
  by_cases c:form=1
  .rw[if_pos (by rw[c];rfl),if_pos c];exact aH (j:=1) rfl
  .rw[if_neg (λz=>c (V.int.inj (of_decide_eq_true z))),if_neg c];exact aH (j:=0) rfl
 have R:0<=(if form=1 then room-1 else share):=by split<;>omega
 have Q:(if form=1 then room-1 else share)<=100:=by split<;>omega
 have O:1<=(if form=1 then room-1 else share):=by split<;>omega
 ext;refine .inr #[_,rfl,?_];ext v3 H3 L m3 t;have I:dZ [S.lg] fe H H3:=((dZ.refl Z).same q).trans t.fr;have C:=t.g;rw[Pf (),show(down-1).toNat=down.toNat-1 by omega]at C;have G:(if form=1 then room-1 else share).toNat=if form=1 then(room-1).toNat else share.toNat:=by split<;>rfl
 rw[G]at C;ext;exact KG Y TK p l e hr (X.step t.sc I) (k.step I) hsh t.r C hxy hwx hwy
theorem DL {P:IF}{w:Nn}{K:bN}{mg:Str->Option eF}{base:Heap}{gT gN gM:Addr}{tfd nfd mfd:L1}{f:Addr}{cdv:eF}{A:Nx}{s:fy}{H1:Hp}{n j:Nat}{D:L2.Ends}{H:Hp}{fe d la:Addr}{room down form:Int}{S:Sn}{kl:Kl}{nm:List Str}{ds:List (Str×Nat)}{ns:List Str}{m0:Nat}{o6 o7 o8 o9 o10 o11 o12 o13:Option V}(hj:1<=j)(Z:eL P w K mg base "_law_take" 1 U7 cC gT tfd)(O:eL P w K mg base "_law_named" j U6 (fB K n) gN nfd)(N:eL P w K mg base "_law_named_match" (j+1) Vm (ug K n) gM mfd)(l:mg "len"=none)(o:mg "int"=none)(hr:di (j+1) (A.deeper (Np "_law_named" (ak aW) s.heap.objs.size f cdv)))(X:wX K fe d la S kl nm ds ns room down n H m0)(k:zq D K fe d S kl nm ds ns m0 room down H):
  ja (Zi gy U4 "_law_named" (ak aW) H1).nN ((bh aW).drop 2) D [some (.ref fe),some (.ref d),some (.ref la),some (.int room),some (.int down),some (.int form),o6,o7,o8,o9,o10,o11,o12,o13] H:=by
 refine d7 ((Z5 (Z4 fX.nd iE 6 (Zm rK (bS kB (va aB 3) aC) aC)) (Z5 (@yG _ _ (7) (8) _ _ _ _ _ _ _ _ _ _ _ rfl fX.nd rfl rfl (by decide) rfl rfl (Z1 (Zk bx (Zj (va aB 1)) (Z0 Z (c8 (va aB 0) (Zc aC)))) (Z1 (Zk bx (Zj (va aB 1)) aC) aA)) (by rfl) (by rfl)) (Z5 (Zb (PW.pt (@gz _ _ _ _ _ _ _ (Zo bV (va aB 5) aC) (@fz _ _ _ _ (Zh pJ (Z2 aJ l Nl (Z1 (Zj (va aB 1)) aA)) aC (bI _))))) (Zd (Zu (Z0 N (Z1 (va aB 0) (Z1 (va aB 1) (Z1 (va aB 2) (Z1 (Zm rK (bS kB (va aB 3) aC) aC) (Z1 (bS kB (va aB 4) aC) aA))))))))) cK)))) ?_
 right
 right
 have hf:=X.sc.ff;have r5:=X.r5;have gn:=X.sc.get (uf S);have hn:=X.sc.ln;have l6:=X.sc.l6;have aj:(nm.map V.str).length=6:=by rw[bM];exact l6
 have rh:=X.rh;have d1:=X.d1;have dn:=X.dn;have ln:=X.ln;have R:=X.sc.nf.2.1;have aa:=X.wn;refine tI ?_;intro N1 N2 N3 c1 M Y;ext r2 H2 ag ae Q;have t:=X.ext Q;have am:bQ K H2 S.ln (nm.map V.str):=bQ.of t.sc.ln;have ao:=t.sc.get (uf S);obtain⟨q,hq,rfl⟩:∃q:Nat,q<5/\r2=q:=#[r2.toNat,(),()];have aq:eK (nm.map V.str) (q:Int)=some (.str (nm[q]'())):=aH (by rw[xn,my ()];rfl);have a5:eK (nm.map V.str) 5=some (.str (nm[5]'())):=aH (j:=5) (by rw[xn,my ()];rfl)
 have p:(nm[q]'())≠(nm[5]'()):=λz=>by
  have:=X.sc.un q 5 (nm[q]'()) (my ()) (by rw[z];exact my ());omega
 have ap:=t.sc.get (yp S);have(ka,I,e,J,L):=t.sc.kd.aS;have ek:S.kd=ka:=V.ref.inj e;rw[<-ek]at J;have G:=L.length;rw[bM]at G;have T:=k.ext hf Q;have v:Wo (nm[q]'()):=X.sc.nw _ (NT _);have u:Wo (nm[5]'()):=X.sc.nw _ (NT _);generalize(nm[q]'())=x at aq p v;generalize(nm[5]'())=y at a5 p u;have ad:=t.sc;have U:=t.hla;have ai:=X.nla;have ah:=X.nlg;have last:N3 [some (.ref fe),some (.ref d),some (.ref la),some (.int room),some (.int down),some (.int form),some (.int ((room-1) / 3)),some (.str x),some (.str y),o9,o10,o11,o12,o13] H2:=Cut.go Y (IY hj Z O l o (hr.mono ()) t T rfl p v u);clear Y;ext;refine bW (λc=>?_) (λc=>?_)
 .ext;refine bW (λM=>?_) (λM=>?_)
  .have ar:(0:Int)<(I.length:Int):=of_decide_eq_true M;have an:0<kl.length:=()
   have ac:1<=(room-1) / 4:=()
   have ab:(room-1) / 4<=100:=()
   have al:ns.length+2+2*(down-1).toNat<=80:=()
   clear last;ext v3 H3 C m3 B;have W:=B.g;rw[show(down-1).toNat=down.toNat-1 by omega]at W;exact T v3 H3 C m3 B.sc B.fr B.r (W.wk () (lj _))
  .ext;exact last
 .ext;exact last
theorem DM (hj:1<=j)(F:jq K "_law_named" "_law_named" aW f fd)(TK:eL P w K mg base "_law_take" 1 U7 cC gT tfd)(Y:eL P w K mg base "_law_named" j U6 (fB K n) gN nfd)(X:eL P w K mg base "_law_named_match" (j+1) Vm (ug K n) gM mfd)(Z:eL P w K mg base "_law_named_leaf" 2 VE (wM K) gL lfd)(p:mg "len"=none)(q:mg "int"=none):cA P w K mg base gy (j+2) f fd U6 (fB K (n+1)):=by
 refine F.ok fX (λvs H Q E h=>?_) (λcdv A outer s H vs Q E hr h=>?_)
 .have(_,_,_,_,_,_,_,_,_,_,_,rfl,_):=h;rfl
 have(fe,d,la,l,o,S,kl,nm,ds,ns,m,rfl,sc,T,v,N,ac,ab,ag,dn,R,I,k):=h;refine#[_,(Z5 (Z4 fX.nd iE 5 (Z0 TK (c8 (va aB 0) (Zc aC)))) (Z5 (Zb (PW.pt (@pq _ _ _ _ _ _ _ (Zo mS (va aB 3) aC) (@pq _ _ _ _ _ _ _ (Zo mS (va aB 4) aC) (@oM _ _ _ _ (Zo bV (va aB 5) aC))))) (Zd (Zu (Z0 Z (Z1 (va aB 0) (Z1 (va aB 1) (Zc (va aB 2)))))))) cK)),?_]
 right
 right
 have hf:=sc.ff;refine j0 ?_;intro N1 N2 c1 B;ext D H1 ae ad G;have M:=sc.ext G;have f1:dZ [S.lg] fe H H1:=Ext.sX hf G;have y:=G.1 _ _ v T;refine Cut.go c1 ?_;refine GR (l<5\/o<1\/D=0) (λC W cf=>?_) (λc=>?_) (λc=>?_)
 .ext;refine bW (λc=>?_) (λc=>?_)
  .exact W (.inl (of_decide_eq_true c))
  .ext;refine bW (λB=>?_) (λB=>?_)
   .exact W (.inr (.inl (of_decide_eq_true B)))
   .ext
    by_cases z:D=0
    .rw[show decide (V.int D=V.int 0)=true by rw[z];rfl];exact W (.inr (.inr z))
    .rw[show decide (V.int D=V.int 0)=false from decide_eq_false λe=>z (V.int.inj e)];exact cf (λw=>w.elim (λw=>c (decide_eq_true w)) λw=>w.elim (λw=>B (decide_eq_true w)) z)
 .have aa:ns.length<=100:=()
  ext J H2 t O u;exact k J H2 t O #[u.sc,f1.trans u.fr,u.r,u.g.wk (SQ _ _) (Nu _)]
 .have c5:¬l<5:=λz=>c (.inl z);have cd:¬o<1:=λz=>c (.inr (.inl z));refine Cut.go B ?_;refine DL hj TK Y X p q hr #[M,y,v,N,(),(),(),(),R,I] ?_;intro J H2 t O L U r2 u;exact k J H2 t O #[L,f1.trans U,r2,u.wk (Te _ _) ()]
theorem DN :∀{l a:List Str},l.Nodup->(∀x∈l,x∉a)->cH a l=none
 | [],_,_,_=>rfl
 |x::r,a,hn,ha=>by
  rw[O5]at hn;show(if x∈a then some x else cH (a++[x]) r)=none;rw[if_neg (ha x (.head _))];refine DN hn.2 λy d z=>?_;rcases L0.mp z with z|z
  .exact ha y (.tail _ d) z
  .exact hn.1 (EF.mp z▸d)
theorem DO (h:l.Nodup):cH [] l=none:=DN h λ_ _ z=>nomatch z
theorem Gg (h:k.ok ah):iC ah k=none:=by
 have d:=Kk.ki.mp h;unfold iC
 cases e:k.core with
 |num=>rfl
 |kd x=>rw[e]at d;exact if_pos d
 |op n=>rw[e]at d;exact absurd d id
 |row j=>rfl
theorem uh {f:d->Option Str}:∀{l:List d},(∀x∈l,f x=none)->fR f l=none
 | [],_=>rfl
 |x::r,h=>by
  unfold fR;rw[h x (.head _)];exact uh λy e=>h y (.tail _ e)
theorem AA :∀{d:List (Str×List Kk)}{ta:List Str},(ta++d.map (·.1)).Nodup->(∀t∈d,∀c∈t.2,c.ok ah)->gi ah ta d=none
 | [],_,_,_=>rfl
 |t::r,ta,hn,h=>by
  have e:ta++(t::r).map (·.1)=(ta++[t.1])++r.map (·.1):=by simp
  rw[e]at hn;unfold gi;rw[DO (OH.mp hn).1];dsimp only;rw[uh λc j=>Gg (h t (.head _) c j)];exact AA hn λu g=>h u (.tail _ g)
theorem yq :∀{kl:Kl}{ah ta:List Str},(ah++kl.map (·.1)).Nodup->(ta++jc kl).Nodup->(∀(i:Nat) (k:Str×List (Str×List Kk)),kl[i]?=some k->∀t∈k.2,∀c∈t.2,c.ok (ah++(kl.take i).map (·.1)))->cO ah ta kl=none
 | [],_,_,_,_,_=>rfl
 |k::r,ah,ta,h1,h2,h3=>by
  have o:ah++(k::r).map (·.1)=(ah++[k.1])++r.map (·.1):=by simp
  have m:ta++jc (k::r)=(ta++k.2.map (·.1))++jc r:=by unfold jc;simp
  rw[o]at h1;rw[m]at h2;unfold cO;rw[DO (OH.mp h1).1];dsimp only;have d:=h3 0 k rfl;rw[P5,OX,NF]at d;rw[AA (OH.mp h2).1 d];refine yq h1 h2 λi e j t g c l=>?_;have:=h3 (i+1) e j t g c l;rw[List.take_succ_cons,Ny]at this;rw[Od];exact this
theorem qt (h:Un xs):xs.Nodup:=by
 unfold List.Nodup;rw[List.pairwise_iff_getElem];intro i j l d g e;have:=h i j xs[i] (my l) (by rw[e];exact my d);omega
theorem nX (h:Un xs)(n:Nat):Un (xs.drop n):=λi j x e d=>by
 rw[Sf]at e d;have:=h _ _ x e d;omega
theorem nY (h:Un xs)(n:Nat):Un (xs.take n):=λi j x e d=>by
 rw[QM]at e d
 split at e
 .split at d
  .exact h _ _ x e d
  .cases d
 .cases e
theorem DP (d:Un xs)(ok:BD xs kl):cO [] [] kl=none:=by
 refine yq ?_ ?_ ?_
 .rw[PM,ok.nm];exact qt (nY d _)
 .rw[PM,ok.tg];exact qt (nY (nX d 3) _)
 .intro i k g t j c l;have m:i<kl.length:=(bH.mp g).1
  have e:(kl.take i).map (·.1)=xs.take i:=by
   rw[Po,ok.nm,List.take_take,PN ()]
  rw[PM,e];exact((ok.pt i k g).2.2 t j).2 c l
theorem um (ok:BD xs kl)(e:∀x∈xs,Wo x):∀k∈kl,Eb k:=λk g=>by
 have(i,m):=NV g;have(a,b,c):=ok.pt i k m;refine#[a,b,λt d=>(c t d).1,e _ ?_,λt d=>#[e _ ?_,λq l x j=>?_]]
 .have:k.1∈kl.map (·.1):=NY g;rw[ok.nm]at this;exact Oc this
 .have:t.1∈jc kl:=Px.mpr #[k,g,NY d];rw[ok.tg]at this;exact OU (Oc this)
 .have:=Kk.ki.mp ((c t d).2 q l);rw[j]at this;exact e x (Oc this)
theorem zu (j:Un xs)(ok:BD xs kl)(m:kl.length<=3)(g:∀x∈xs,Wo x):G1 kl:=by
 refine#[?_,?_,m,λk d=>?_,λk d=>#[(um ok g k d).2.2.2.1,λt e=>((um ok g k d).2.2.2.2 t e).1]]
 .rw[ok.nm];exact qt (nY j _)
 .rw[ok.tg];exact qt (nY (nX j 3) _)
 .have(i,l):=NV d;have(a,b,c):=ok.pt i k l;exact#[a,b,λt e=>(c t e).1]
noncomputable def qy(d:Int)(c:Nat):List Int:=(Pc c).map λ(i:Nat)=>(d+7*(i:Int)) % 100
theorem wN (d:Int)(c:Nat):qy d (c+1)=qy d c++[(d+7*(c:Int)) % 100]:=by
 unfold qy;rw[RN,i5];rfl
theorem zw (d:Int)(c:Nat):(qy d c).length=c:=by
 unfold qy;rw[bM,Rf]
theorem IZ (m:c<=3)(l:1<=c):(g+7*(c:Int)) % 100∉(qy g c).drop 1:=λz=>by
 have(i,d):=NV z;rw[Sf]at d;unfold qy at d;rw[xn]at d
 have j:1+i<c:=by
  by_cases h:1+i<c
  .exact h
  .rw[Rk (by rw[Rf];omega)]at d
   cases d
 rw[List.getElem?_range j]at d;have e:(g+7*((1+i:Nat):Int)) % 100=(g+7*(c:Int)) % 100:=by simpa using d
 omega
theorem DQ (h:k.ok l):fM l g k=.ok g:=by
 have d:=Kk.ki.mp h;unfold fM
 cases e:k.core with
 |num=>rfl
 |kd x=>rw[e]at d;exact if_pos d
 |op n=>rw[e]at d;exact absurd d id
 |row j=>rfl
theorem Gh (m:1<=c)(h:FP p (qy d c) k j):∃l,1<=l/\j=qy d l/\fM p ((qy d c).drop 1) k=.ok ((qy d l).drop 1)/\l<=c+1/\(c<=4->l<=4):=by
 rcases h with⟨rfl,h⟩|⟨o,ot,e,h4,hk,rfl⟩
 .exact#[c,m,rfl,DQ h,OC _,id]
 .rw[zw]at h4;obtain⟨g,rfl⟩:∃g,c=g+1:=#[c-1,()]
  have r:o=(d+7*(g:Int)) % 100:=by
   rw[wN]at e;exact(List.append_inj_right' e rfl|> List.singleton_inj.mp).symm
  have q:(o+7) % 100=(d+7*((g+1:Nat):Int)) % 100:=()
  refine#[g+2,(),?_,?_,(),λ_=>by omega]
  .rw[wN d (g+1),q]
  .unfold fM;rw[hk];dsimp only;rw[q,if_neg (IZ () ()),wN d (g+1),List.drop_append_of_le_length (by rw[zw];omega)]
theorem vB (kl:Kl)(ds:List (Str×Nat))(gs e:List Int)(d:Df)(r:List Df):jB kl ds gs e (d::r)=if d.1∈ds.map (·.1)then some (.tw,d.1)else oK kl ds gs d r (cX (kl.map (·.1)) [] e d.2.1):=vz (dl:=d::r) (i:=0) rfl
noncomputable def wO(dl:List Df):List (Str×Nat):=dl.map λd=>(d.1,d.2.1.length)
structure I9(kn:List Str) (xs:List Str) (o0:Int) (c0 c:Nat) (i:Nat) (ps:List (Str×Kk)):Prop where
 nm:ps.map (·.1)=xs.take i
 c1:1<=c
 e:∀r,cX kn [] ((qy o0 c0).drop 1) (ps++r)=cX kn (ps.map (·.1)) ((qy o0 c).drop 1) r
theorem I9.nil {e:List Str}(h:1<=c):I9 e xs d c c 0 []:=#[rfl,h,λ_=>rfl]
theorem I9.snoc (g:I9 m xs l u c i ps)(v:Un xs)(q:xs[i]?=some x)(h:FP m (qy l c) k d):∃o,d=qy l o/\(c<=4->o<=4)/\I9 m xs l u o (i+1) (ps++[(x,k)]):=by
 have(o,C,H,G,_,B):=Gh g.c1 h;have t:=(bH.mp q).1;have D:xs.take (i+1)=xs.take i++[x]:=by rw[mu t,(bH.mp q).2]
 refine#[o,H,B,by rw[i5,g.nm,D];rfl,C,λr=>?_];rw[Od,g.e]
 show(if x∈ps.map (·.1)then Except.error (Er.tw,x)else match fM m ((qy l c).drop 1) k with
  |.error f=>.error f
  |.ok d=>cX m (ps.map (·.1)++[x]) d r)=_
 have y:x∉ps.map (·.1):=λz=>by
  rw[g.nm]at z;have(j,p):=NV z;rw[QM]at p
  split at p
  .have:=v i j x q p;omega
  .cases p
 rw[if_neg y,G];dsimp only;rw[i5];rfl
structure G4(kl:Kl) (xs:List Str) (o0 f0:Int) (c m i:Nat) (dl:List Df):Prop where
 nm:dl.map (·.1)=xs.take i
 c1:1<=c
 e:∃gs,(∀x∈gs,x∈oZ f0 m)/\∀r,jB kl [] [] [] (dl++r)=jB kl (wO dl) gs ((qy o0 c).drop 1) r
theorem G4.nil :G4 kl xs d f0 1 0 0 []:=#[rfl,lj _,[],(λ_ h=>nomatch h),λ_=>rfl]
theorem G4.snoc (g:G4 kl xs d f0 c m i dl)(C:Un xs)(t:xs[i]?=some x)(p:I9 (kl.map (·.1)) ys d c y q ps)(h:Gd kl (wO dl) (ps.map (·.1)) (oZ f0 m) (oZ f0 m') o):G4 kl xs d f0 y m' (i+1) (dl++[(x,ps,o)]):=by
 have(B,J,I):=g.e;have(v,H,G):=h B J;have u:=(bH.mp t).1;have L:xs.take (i+1)=xs.take i++[x]:=by rw[mu u,(bH.mp t).2]
 have N:(wO dl).map (·.1)=xs.take i:=by unfold wO;rw[Oa];exact g.nm
 refine#[by rw[i5,g.nm,L];rfl,p.c1,v,G,λr=>?_];rw[Od,I,List.singleton_append,vB]
 have D:x∉(wO dl).map (·.1):=λz=>by
  rw[N]at z;have(j,l):=NV z;rw[QM]at l
  split at l
  .have:=C i j x t l;omega
  .cases l
 rw[if_neg D]
 have M:cX (kl.map (·.1)) [] ((qy d c).drop 1) ps=.ok ((qy d y).drop 1):=by
  have:=p.e [];rw[NF]at this;rw[this];rfl
 show oK kl (wO dl) B (x,ps,o) r (cX (kl.map (·.1)) [] ((qy d c).drop 1) ps)=_;rw[M];unfold oK;dsimp only;rw[H];dsimp only;unfold wO;rw[i5];rfl
theorem G4.none {kl:Kl}{xs:List Str}{d f0:Int}{c m i:Nat}{dl:List Df}(g:G4 kl xs d f0 c m i dl)(j:cO [] [] kl=none):cy kl dl=none:=by
 unfold cy;rw[j];dsimp only;have(l,_,e):=g.e;have:=e [];rw[NF]at this;rw[this];rfl
structure yD(z dp:Nat) (kl:Kl) (dl:List Df):Prop where
 k3:kl.length<=3
 kt:∀k∈kl,Eb k
 d1:1<=dl.length
 d3:dl.length<=3
 dd:∀d∈dl,Wn d.2.2/\Ta d.2.2/\d.2.2.size<=z/\d.2.2.depth<=dp/\d.2.1.length<=3
 dw:∀d∈dl,G0 d
def AB(K:bN):Sp:=λo H Q _=>∃(f:Addr) (d:Int),o=[.ref f,.int d]/\cM H f/\1<=d/\d<=40 /\
 ∀(p j:Addr) (pv:V) (e:Hp) (l:Kl) (m:List Df) (g:List Str),Ext f H e->H j=none->e j=some (.lst (g.map V.str))->g.length=24->(∀x∈g,Wo x)->cP K e p [pv,.ref j]->Rp K e (.t [.t (l.map gZ),.t (m.map jl)]) pv->yD d.toNat 6 l m->cy l m=none->Q (.ref p) e
theorem fk.sX (s:fk K H f d S kl nm ds m)(e:fk K HB f d S kl nm ds' m')(fr:dZ M f H H')(v:∀l∈M,HB l=none):fk K H' f d S kl nm ds m:=by
 have(C,G,D):=s.ld;have(g,t1,t2):=s.lt;have(_,B,_):=e.ld;have(_,y,_):=e.lt;have(t,r,p,o,j):=s.nf;have n:∀{c:Addr}{u:L2.HO},HB c=some u->c∉M:=λq z=>by rw[v _ z]at q;cases q
 exact#[fr.oth _ _ (n e.sd) t s.sd,s.kd.kt fr.kt,fr.oth _ _ (n e.ln) r s.ln,s.l6,s.un,#[C,fr.oth _ _ (n B) p G,D.kt fr.kt],#[g,fr.oth _ _ (n y) j t1,t2.kt fr.kt],fr.oth _ _ (n e.lg) o s.lg,s.m5,s.f0,fr.ff,s.nf,s.ng,s.kk,s.dn,s.dl,s.d3,s.nw,s.dw]
theorem fk.uA (s:fk K H f d S kl nm ds m)(hd:H S.ld=some (.lst j))(l:bO K H (ds.map DE) j)(g:S.ln≠S.ld/\S.lt≠S.ld)(t:Rp K H (DE (x,n)) (.ref p))(C:x∉ds.map (·.1))(hn:n<=3)(G:ds.length<=7)(D:Wo x):fk K (upd H S.ld (.lst (j++[.ref p]))) f d S kl nm (ds++[(x,n)]) m:=by
 have(r,t1,t2):=s.lt;have(Q,O,B,N,M):=s.nf;have(v,u,o):=s.ff;have k:Kt H (upd H S.ld (.lst (j++[.ref p]))):=Kt.lst hd _;have y:d≠S.ld:=jr s.sd hd nofun
 refine#[by rw[au y];exact s.sd,s.kd.kt k,by rw[au g.1];exact s.ln,s.l6,s.un,#[_,af,?_],#[r,by rw[au g.2];exact t1,t2.kt k],by rw[au s.ng.2.1.symm];exact s.lg,s.m5,s.f0,#[v,u,by rw[au B.symm];exact o],s.nf,s.ng,s.kk,?_,?_,?_,s.nw,λq hq=>(L0.mp hq).elim (s.dw q) (λz=>by rw[EF.mp z];exact D)]
 .rw[i5];exact(l.kt k).snoc (t.kt k)
 .rw[i5,OH];refine#[s.dn,O5.mpr #[nofun,TJ],λa J b I e=>?_]
  rw[EF.mp I]at e;have L:a=x:=e;exact C (L▸J)
 .rw[i4];exact Pw G
 .intro q hq;rcases L0.mp hq with hq|hq
  .exact s.d3 q hq
  .rw[EF.mp hq];exact hn
structure LQ(K:bN) (fe d:Addr) (S:Sn) (kl:Kl) (nm xs:List Str) (o0:Int) (z:Nat) (lo lf:Addr) (H0:Hp) (i:Nat) (H:Hp) (dl:List Df) (us:List V) (c m:Nat):Prop where
 sc:fk K H fe d S kl nm (wO dl) m
 fr:dZ [S.lg,S.ld,lo,lf] fe H0 H
 ho:H lo=some (.lst ((qy o0 c).map V.int))
 hf:H lf=some (.lst us)
 r:bO K H (dl.map jl) us
 g:G4 kl (xs.drop 21) o0 S.f0 c m i dl
 li:dl.length=i
 c4:c<=4
 dd:∀d∈dl,Wn d.2.2/\Ta d.2.2/\d.2.2.size<=z/\d.2.2.depth<=6/\d.2.1.length<=3
 dw:∀d∈dl,G0 d
structure M5(K:bN) (fe:Addr) (kl:Kl) (ys:List Str) (o0:Int) (lo:Addr) (H0:Hp) (c i:Nat) (us:List V) (H:Hp):Prop where
 x:∃(ps:List (Str×Kk)) (c':Nat),dZ [lo] fe H0 H/\H lo=some (.lst ((qy o0 c').map V.int))/\bO K H (ps.map wA) us/\I9 (kl.map (·.1)) ys o0 c c' i ps/\c'<=4/\∀p∈ps,Wo p.1/\yC p.2
theorem aF :Nm U5 (ak aQ):=by decide
theorem bL :Lm U5 (ak aQ):=by decide
theorem bE :aZ U5 V1 (ak aQ):=by ac_rfl
theorem Gi {P:IF}{w:Nn}{K:bN}{mg:Str->Option eF}{base:Heap}{gT gN gA:Addr}{tfd nfd afd:L1}{n j:Nat}(hn:6<n)(hj:2<=j){f:Addr}{cdv:eF}{A:Nx}{outer:List OJ}{s:fy}{H1:Hp}{E:XK}(TK:eL P w K mg base "_law_take" 1 U7 cC gT tfd)(dc:eL P w K mg base "_law_named_kind" 2 Vl (lW K) gA afd)(db:eL P w K mg base "_law_named" j U6 (fB K n) gN nfd)(a7:mg "len"=none)(z_range:mg "range"=none)(O:mg "tuple"=none)(hr:di j (A.deeper (Np "_law_named_program" (ak aQ) s.heap.objs.size f cdv))){D:L2.Ends}{HB H:Hp}{fe d ln0 lth lo lf:Addr}{room o0:Int}{S:Sn}{kl:Kl}{nm xs:List Str}{kv:V}{o5 o6 o10 o11:Option V}(scB:fk K HB fe d S kl nm [] 0)(sc:fk K H fe d S kl nm [] 0)(un:Un xs)(lx:xs.length=24)(wx:∀x∈xs,Wo x)(wk:∀k∈kl,Eb k)(rm1:1<=room)(rm:room<=40)(rk:Rp K H (.t (kl.map gZ)) kv)(hB:HB lo=none/\HB lf=none)(hkn:cO [] [] kl=none)(h0:H ln0=some (.lst (xs.map V.str)))(n0:ln0≠fe/\ln0≠S.lg/\ln0≠S.ld/\ln0≠lo/\ln0≠lf)(hth:H lth=some (.lst ((kl.map (·.1)).map V.str)))(nth:lth≠fe/\lth≠S.lg/\lth≠S.ld/\lth≠lo/\lth≠lf)(ho:H lo=some (.lst ((qy o0 1).map V.int)))(nlo:lo≠fe)(hlf:H lf=some (.lst []))(nlf:lf≠fe)(nol:lo≠lf)(nld:S.ln≠S.ld/\S.lt≠S.ld)(k:∀(p:Addr) (pv:V) (H':Hp) (dl:List Df),dZ [S.lg,S.ld,lo,lf] fe H H'->H' ln0=some (.lst (xs.map V.str))->cP K H' p [pv,.ref ln0]->Rp K H' (.t [.t (kl.map gZ),.t (dl.map jl)]) pv->yD room.toNat 6 kl dl->cy kl dl=none->D.rt (.ref p) H'):
  ja (Zi gy U5 "_law_named_program" (ak aQ) H1).nN ((bh aQ).drop 8) D [some (.ref fe),some (.int room),some (.ref ln0),some kv,some (.ref d),o5,o6,some (.ref lth),some (.ref lo),some (.ref lf),o10,o11] H:=by
 refine d7 ((Z5 (Zg NH (Zq (Z1 (Zm dR aC (Z0 TK (c8 (va aF 0) (Zc aC)))) aA)) (ga bE.nd bL 10) (Z5 (@nh _ _ _ _ _ _ _ _ _ _ _ _ _ _ _ (ak aQ) U5 ["_law_x"] [0,7,8] rfl rfl rfl (by decide) (@lD _ _ _ _ (@dX _ _ _ _ _ _ _ _ _ _ rM (va aF 2) (dj aC) (@dj _ _ _ (Zm dR aC (Z0 TK (c8 (va aF 0) (Zc aC))))))) (λ_ _ _ _=>(Z3 (i:=0) (show(Vp:List Str).Nodup by decide))) (λ_ _ _ _=>fZ) (λ_ _ _ _=>(Zl (Z1 (va (show Nm Vp _ by left) 0) (Z1 (Z0 dc (Z1 (va (show Nm Vp _ by left) 1) (Z1 (va (show Nm Vp _ by left) 2) (Zc (va (show Nm Vp _ by left) 3))))) aA)))) (ga bE.nd bL 11) (by kernel_rfl) (by intro _;rfl)) (Z5 (Zn (Z6 (va aF 9) (Z1 (Zl (Z1 (Zk bx (va aF 2) (bS dR aC (va aF 10))) (Z1 (Z7 cQ O N8 (Zc (va aF 11))) (Z1 (Z0 db (Z1 (va aF 0) (Z1 (va aF 4) (Z1 (Zf (ak aQ) U5 V3 [] (lD (va aF 11)) (λ_ _ _ _=>(Z9 (2) (Ze (Z3 (i:=0) (show(V3:List Str).Nodup by decide)) (Zs (Z3 (i:=1) (show(V3:List Str).Nodup by decide)))))) (λ_ _ _ _=>(va (show Nm V3 _ by left) 0))) (c8 (va aF 1) (Zc aC)))))) aA)))) aA))) (Zd (Zn (Z6 (Zj (va aF 4)) (Z1 (Zl (Z1 (Zk bx (va aF 2) (bS dR aC (va aF 10))) (Z1 (Z2 aJ a7 Nl (Zc (va aF 11))) aA))) aA))))))) (Zd (Zu (Zl (Z1 (Zl (Z1 (va aF 3) (Z1 (Z7 cQ O N8 (Zc (va aF 9))) aA))) (Zc (va aF 2)))))))) ?_
 right
 right
 have hf:=sc.ff;have n1:lo≠S.lg:=(ay scB.lg hB.1).symm;have n3:lf≠S.lg:=(ay scB.lg hB.2).symm;have(eh,ca,_):=scB.ld;have n2:lo≠S.ld:=(ay ca hB.1).symm;have n4:lf≠S.ld:=(ay ca hB.2).symm;have l3:=sc.kk.l3;have ea:(xs.map V.str).length=24:=by rw[bM];exact lx
 ext mq H2 d5 d4 x2;have i0:LQ K fe d S kl nm xs o0 room.toNat lo lf H 0 H2 [] [] 1 0:=#[sc.ext x2,Ext.sX hf x2,x2.1 _ _ nlo ho,x2.1 _ _ nlf hlf,.nil,.nil,rfl,by decide,(λ_ h=>nomatch h),λ_ h=>nomatch h]
 ext;refine iG (n:=(1+mq).toNat) (λi σ H3=>∃dl us c m o5 o6 o10 o11,σ=[some (.ref fe),some (.int room),some (.ref ln0),some kv,some (.ref d),o5,o6,some (.ref lth),some (.ref lo),some (.ref lf),o10,o11]/\LQ K fe d S kl nm xs o0 room.toNat lo lf H i H3 dl us c m) #[_,_,_,_,_,_,_,_,rfl,i0] ?_ ?_
 .rintro i σ H3 hi ⟨dl,us,c,m,_,_,_,_,rfl,u⟩
  have nM:∀{b:Addr},b≠fe/\b≠S.lg/\b≠S.ld/\b≠lo/\b≠lf->b∉[S.lg,S.ld,lo,lf]:=λh z=>by
   simp only[Nc,NB,or_false]at z;rcases z with z|z|z|z
   .exact h.2.1 z
   .exact h.2.2.1 z
   .exact h.2.2.2.1 z
   .exact h.2.2.2.2 z
  have aq:H3 ln0=some (.lst (xs.map V.str)):=u.fr.oth _ _ (nM n0) n0.1 h0;have bz:H3 lth=some (.lst ((kl.map (·.1)).map V.str)):=u.fr.oth _ _ (nM nth) nth.1 hth;have b8:=u.sc.ff;ext q4 H4 d0 dz x4;have eg:=x4.1 _ _ n0.1 aq;obtain⟨q,hq,rfl⟩:∃q:Nat,q<=3/\q4=q:=#[q4.toNat,(),()]
  have ec:ju (xs.map V.str) (some 18) (some (18+(q:Int)))=((xs.drop 18).take q).map V.str:=by
   rw[show(some (18:Int))=some ((18:Nat):Int)from rfl,show(18+(q:Int))=((18+q:Nat):Int) by omega,xK _ _ _ () (),Po,Rz,show 18+q-18=q by omega]
  ext l5 be;rw[ec];have s5:=ae be (.lst (((xs.drop 18).take q).map V.str));have h5:upd H4 l5 (.lst (((xs.drop 18).take q).map V.str)) l5=some (.lst (((xs.drop 18).take q).map V.str)):=af;have aa:Ext fe H3 (upd H4 l5 (.lst (((xs.drop 18).take q).map V.str))):=x4.same s5;have cu:l5≠fe:=bB x4.2 be;have b3:=aa.1 _ _ nlo u.ho;have ct:l5≠lo:=(ay (x4.1 _ _ nlo u.ho) be).symm;have az:=aa.1 _ _ nth.1 bz;generalize upd H4 l5 (.lst (((xs.drop 18).take q).map V.str))=H5 at s5 h5 aa b3 az|-;have bt:((xs.drop 18).take q).length=q:=by rw[I0,N7];omega
  have cv:(((xs.drop 18).take q).map V.str).length=q:=by rw[bM];exact bt
  have cj:Un ((xs.drop 18).take q):=nY (nX un 18) q;have c7:=u.c4;ext;refine kU (K:=K) (xs:=((xs.drop 18).take q).map V.str) (λi8 σ o H8=>(∃y,σ=[y,some (.ref fe),some (.ref lth),some (.ref lo)])/\M5 K fe kl ((xs.drop 18).take q) o0 lo H5 c i8 o H8) #[#[_,rfl],#[[],c,dZ.refl aa.2,b3,.nil,.nil u.g.c1,c7,λ_ h=>nomatch h]] ?_ (small ()) ?_ ?_ ?_
  .rintro i8 σ o H8 h ⟨_,⟨W,c',_,_,r8,g8,_,_⟩⟩;have:=congrArg QO g8.nm;rw[bM,I0]at this;rw[r8.length,bM];omega
  .rintro i8 σ o H8 h ⟨_,⟨W,c',f8,_⟩⟩;exact bQ.of (f8.jE ct cu h5)
  .rintro i8 xv σ o H8 hxv ⟨⟨_,rfl⟩,⟨W,c',f8,b2,r8,g8,bf,w8⟩⟩;rw[xn]at hxv;have(I,an,rfl):=we.mp hxv;have ee:=f8.ff;have dq:=f8.jE nth.2.2.2.1 nth.1 az;have dn:(kl.map (·.1)).length<=100:=by rw[bM];omega
   have d9:(qy o0 c').length<=100:=by rw[zw];omega
   ext v9 H9 k9 d1 f9 ao r9 bp;have(c9,e9,da,g9):=g8.snoc cj an bp
   have ci:yC k9:=λx hx=>by
    rcases bp with⟨_,z⟩|⟨_,_,_,_,z,_⟩
    .have:=Kk.ki.mp z;rw[hx]at this;have(kk,c2,e):=NI.mp this;rw[<-e];exact(wk kk c2).2.2.2.1
    .rw[hx]at z;cases z
   have ac:Wo I:=wx I (OU (Oc (Nf an)));subst e9;ext aj U;have J:=ae U (.tup [.str I,v9]);exact#[#[_,rfl],#[W++[(I,k9)],c9,(f8.trans f9).same J,J _ _ ao,by rw[i5];exact((r8.kt f9.kt).same J).snoc (Rp.new (K:=K) (xs:=[.s I,jI k9]) U (.cons .s (.one r9))),g9,da bf,λp hp=>(L0.mp hp).elim (w8 p) (λz=>by rw[EF.mp z];exact#[ac,ci])]]
  .rintro σ o H8 ⟨⟨_,rfl⟩,⟨W,c',f8,b2,r8,g8,bf,w8⟩⟩ p9 hp9;rw[cv]at g8
   have d8:W.length=q:=by
    have:=congrArg QO g8.nm;rw[bM,I0,bt,Ra]at this;exact this
   have ax:=r8.length;rw[bM]at ax;have ce:dZ [lo] fe H3 H8:=(Ext.sX b8 aa).trans f8;have a9:fk K H8 fe d S kl nm (wO dl) m:=u.sc.sX scB ce λl hl=>by rw[EF.mp hl];exact hB.1
   have cr:p9≠S.lg:=(ay a9.lg hp9).symm;have cs:p9≠fe:=bB a9.ff hp9;have cq:p9≠lf:=(ay (ce.jE nol.symm nlf u.hf) hp9).symm
   have d2:p9≠S.ld:=by
    have(_,z,_):=a9.ld;exact(ay z hp9).symm
   have s9:=ae hp9 (.lst o);have h9:upd H8 p9 (.lst o) p9=some (.lst o):=af;have r9:=r8.same s9;have ab:dZ [lo] fe H3 (upd H8 p9 (.lst o)):=((Ext.sX b8 aa).trans f8).same s9;have ao:=s9 _ _ b2;generalize upd H8 p9 (.lst o)=H9 at s9 h9 r9 ab ao|-;have b6:H9 lf=some (.lst us):=ab.jE nol.symm nlf u.hf;have c5:=ab.jE n0.2.2.2.1 n0.1 aq;have ck:fk K H9 fe d S kl nm (wO dl) m:=u.sc.sX scB ab λl hl=>by rw[EF.mp hl];exact hB.1
   have ed:i<3:=()
   have bu:21+i<xs.length:=()
   have ai:eK (xs.map V.str) (21+(0+(i:Int)))=some (.str xs[21+i]):=by
    have:=aH (xs:=xs.map V.str) (j:=21+i) (v:=.str xs[21+i]) (by rw[xn,my bu];rfl);rw[show((21+i:Nat):Int)=21+(0+(i:Int)) by omega]at this;exact this
   have xi:(xs.drop 21)[i]?=some xs[21+i]:=by rw[Sf,my bu]
   have ac:Wo xs[21+i]:=wx _ (NT _);generalize xs[21+i]=I at ai xi ac;ext;refine .inl #[bQ.of h9,λaj U=>?_];have J:=ae U (.tup o);have bo:=Rp.new (K:=K) U r9;have cc:=J _ _ h9;have aw:=r9.same J;have Z:=ck.same J;generalize upd H9 aj (.tup o)=H10 at J bo cc aw Z|-;ext;refine A6 (K:=K) (e:=wA) (φ:=λp=>[.s p.1]) (λσ=>∃a b,σ=[a,b]) cc aw () (λ_=>lj _) #[_,_,rfl] ?_ ?_
   .rintro p hp x _ H6 N s6 ⟨_,_,rfl⟩ rx kN;have(xa,x1,x2,rfl,du,e1,e2):=(show Rp K H6 (.t [.s p.1,jI p.2]) x from rx).t2;obtain rfl:=e1.aM;ext;exact kN _ _ _ #[#[_,_,rfl],aT.refl _,.one .s]
   intro bv ek de ba a4 ef bn;rw[vV,show(λp:Str×Kk=>T.s p.1)=T.s ∘ (·.1)from rfl,<-Oa]at bn;obtain rfl:=bn.kW;have dg:=Z.same ba;have d3:bv≠fe:=bB Z.ff a4;have dh:bv≠S.lg:=(ay Z.lg a4).symm
   have df:∀x∈W.map (·.1),Wo x:=λx hx=>by
    have(p,hp,rfl):=NI.mp hx;exact(w8 p hp).1
   have dx:0<=room:=()
   have cl:room<=100:=()
   have ej:(0:Int)<=6:=by decide
   have ei:(6:Int)<n:=()
   have dk:(W.map (·.1)).length+2*(6:Int).toNat<=80:=by rw[bM];show W.length+12<=80;omega
   ext a8 X Y bs G;have gg:=G.g;rw[Pf ()]at gg;have cz:=(Kt.same ba).trans G.fr.kt;have cp:=bo.kt cz;have C:=J.trans ba;have bc:X lf=some (.lst us):=G.fr.jE n3 nlf (C _ _ b6);have b5:X lo=some (.lst ((qy o0 c').map V.int)):=G.fr.jE n1 nlo (C _ _ ao);have cd:X ln0=some (.lst (xs.map V.str)):=G.fr.jE n0.2.1 n0.1 (C _ _ c5);have cn:=(u.r.kt ab.kt).kt ((Kt.same C).trans G.fr.kt);have cf:dZ [S.lg,S.ld,lo,lf] fe H X:=(u.fr.trans ((ab.same C).sub λz hz=>by rw[EF.mp hz];simp)).trans (G.fr.sub λz hz=>by rw[EF.mp hz];simp);have dy:=r9.kt ((Kt.same C).trans G.fr.kt);have cb:X p9=some (.lst o):=G.fr.jE cr cs (C _ _ h9);have bi:=G.sc;have d6:us.length<mH:=br (by rw[u.r.length,bM,u.li];omega);ext B a1;have R:=ae a1 (.tup [.str I,.ref aj,a8]);have bm:Rp K (upd X B (.tup [.str I,.ref aj,a8])) (jl (I,W,Y)) (.ref B):=Rp.new (K:=K) (xs:=[.s I,.t (W.map wA),enc Y]) a1 (.cons .s (.cons cp (.one G.r)));have ar:=bi.same R;have L:=R _ _ bc;have a3:=R _ _ b5;have a6:=R _ _ cd;have a5:=R _ _ cb;have as:=cn.same R;have ch:=cf.same R;generalize upd X B (.tup [.str I,.ref aj,a8])=H13 at R bm ar L a3 a6 a5 as ch|-;have ag:fk K (upd H13 lf (.lst (us++[.ref B]))) fe d S kl nm (wO dl) bs:=ar.other scB hB.2 L _;have bw:Kt H13 (upd H13 lf (.lst (us++[.ref B]))):=Kt.lst L _;have c6:dZ [S.lg,S.ld,lo,lf] fe H (upd H13 lf (.lst (us++[.ref B]))):=ch.upd (by simp) nlf L;have bb:upd H13 lf (.lst (us++[.ref B])) lf=some (.lst (us++[.ref B])):=af;have b4:upd H13 lf (.lst (us++[.ref B])) lo=some (.lst ((qy o0 c').map V.int)):=by rw[au nol];exact a3
   have ds:upd H13 lf (.lst (us++[.ref B])) ln0=some (.lst (xs.map V.str)):=by rw[au n0.2.2.2.2];exact a6
   have dr:upd H13 lf (.lst (us++[.ref B])) p9=some (.lst o):=by rw[au cq];exact a5
   have co:=(as.kt bw).snoc (bm.kt bw);have dt:=ag.get (wL S);have(dv,c3,bk):=ag.ld;have cw:=bk.length;rw[bM]at cw;have eb:(wO dl).length=i:=by unfold wO;rw[bM,u.li]
   have dm:dv.length<mH:=br ();ext am a0;have Q:=ae a0 (.tup [.str I,.int o.length])
   have bl:Rp K (upd (upd H13 lf (.lst (us++[.ref B]))) am (.tup [.str I,.int o.length])) (DE (I,W.length)) (.ref am):=by
    rw[ax];exact Rp.new (K:=K) (xs:=[.s I,.i (W.length:Nat)]) a0 (.cons .s (.one .i))
   have ad:=ag.same Q;have M:=Q _ _ c3;have ah:=bk.same Q;have cg:=c6.same Q;have a2:=Q _ _ b4;have al:=Q _ _ bb;have av:=co.same Q;generalize upd (upd H13 lf (.lst (us++[.ref B]))) am (.tup [.str I,.int o.length])=H15 at Q bl ad M ah cg a2 al av|-
   have an:I∉(wO dl).map (·.1):=λz=>by
    have e:(wO dl).map (·.1)=(xs.drop 21).take i:=by unfold wO;rw[Oa];exact u.g.nm
    rw[e]at z;have(jj,ap):=NV z;rw[QM]at ap
    split at ap
    .have:=nX un 21 i jj I xi ap;omega
    .cases ap
   have bg:=ad.uA M ah nld bl an () () ac;have cx:Kt H15 (upd H15 S.ld (.lst (dv++[.ref am]))):=Kt.lst M _;ext;refine LQ.mk (dl:=dl++[(I,W,Y)]) (us:=us++[.ref B]) (c:=c') (m:=bs) ?_ (cg.upd (by simp) ad.nf.2.2.1 M) (by rw[au n2];exact a2) (by rw[au n4];exact al) ?_ (u.g.snoc (nX un 21) xi g8 gg.gd) (by rw[i4,u.li];rfl) bf ?_ (λdd hdd=>(L0.mp hdd).elim (u.dw dd) (λz=>by rw[EF.mp z];exact#[ac,w8]))
   .have e:wO (dl++[(I,W,Y)])=wO dl++[(I,W.length)]:=by unfold wO;rw[i5];rfl
    rw[e];exact bg
   .rw[i5];exact av.kt cx
   .intro dd hdd;rcases L0.mp hdd with hdd|hdd
    .exact u.dd dd hdd
    .rw[EF.mp hdd];exact#[gg.wn,gg.ta,gg.sz,gg.dp,by show W.length<=3;omega]
 .rintro σ H3 ⟨dl,us,c,m,_,_,_,_,rfl,u⟩;have cm:=rk.kt u.fr.kt
  have aq:H3 ln0=some (.lst (xs.map V.str)):=u.fr.oth _ _ (λz=>by
   simp only[Nc,NB,or_false]at z;rcases z with z|z|z|z
   .exact n0.2.1 z
   .exact n0.2.2.1 z
   .exact n0.2.2.2.1 z
   .exact n0.2.2.2.2 z) n0.1 h0
  have b7:=u.hf;ext;refine .inl #[bQ.of b7,λp4 b1=>?_];have s4:=ae b1 (.tup us);have r4:=Rp.new (K:=K) b1 u.r;generalize upd H3 p4 (.tup us)=H4 at s4 r4|-;ext p5 b0;have s5:=ae b0 (.tup [kv,.ref p4]);have r5:=Rp.new (K:=K) (xs:=[.t (kl.map gZ),.t (dl.map jl)]) b0 (.cons (cm.same s4) (.one r4));generalize upd H4 p5 (.tup [kv,.ref p4])=H5 at s5 r5|-;ext p6 c0;have s6:=ae c0 (.tup [.ref p5,.ref ln0]);have bj:=(s4.trans s5).trans s6;exact k p6 (.ref p5) _ dl (u.fr.same bj) (bj _ _ aq) (cP.of af) (r5.same s6) #[sc.kk.l3,wk,by rw[u.li];omega,by rw[u.li];omega,u.dd,u.dw] (u.g.none hkn)
theorem uo (x:Str)(h:(x.cps.toList.all λc=>decide (c<1000))=true):Lo x:=λc d=>of_decide_eq_true (NS.mp h c d)
theorem Ja :Wo "?":=#[by decide,uo _ (by decide)]
theorem yr :Wo "match":=#[by decide,uo _ (by decide)]
theorem rT :∀{l a:List Str}{x:Str},cH a l=some x->x∈l
 |y::r,a,x,h=>by
  have h:(if y∈a then some y else cH (a++[y]) r)=some x:=h
  by_cases c:y∈a
  .rw[if_pos c]at h;cases h;exact .head _
  .rw[if_neg c]at h;exact .tail _ (rT h)
theorem Gj (w:yC k)(h:iC ah k=some n):Wo n:=by
 unfold iC at h
 cases e:k.core with
 |num=>rw[e]at h;cases h
 |row j=>rw[e]at h;cases h
 |op m=>rw[e]at h;cases h;exact Ja
 |kd x =>
  rw[e]at h;have h:(if x∈ah then none else some x)=some n:=h
  by_cases c:x∈ah
  .rw[if_pos c]at h;cases h
  .rw[if_neg c]at h;obtain rfl:=Nk h;exact w _ e
theorem yu :∀{ks:List Kk}{n:Str},(∀k∈ks,yC k)->fR (iC ah) ks=some n->Wo n
 |k::r,n,w,h=>by
  unfold fR at h
  cases e:iC ah k with
  |some m=>rw[e]at h;cases h;exact Gj (w k (.head _)) e
  |none=>rw[e]at h;exact yu (λx d=>w x (.tail _ d)) h
theorem AD :∀{j:List (Str×List Kk)}{ta:List Str}{f:Flt},(∀t∈j,Wo t.1/\∀c∈t.2,yC c)->(∀x∈ta,Wo x)->gi ah ta j=some f->Wo f.2
 |t::r,ta,f,w,wt,h=>by
  unfold gi at h;have d:∀x∈ta++[t.1],Wo x:=λx g=>(L0.mp g).elim (wt x) (λz=>by rw[EF.mp z];exact(w t (.head _)).1)
  cases e:cH [] (ta++[t.1])with
  |some x=>rw[e]at h;cases h;exact d x (rT e)
  |none =>
   rw[e]at h;dsimp only at h
   cases e2:fR (iC ah) t.2 with
   |some n=>rw[e2]at h;cases h;exact yu (w t (.head _)).2 e2
   |none=>rw[e2]at h;exact AD (λx g=>w x (.tail _ g)) d h
theorem yw :∀{kl:Kl}{ah ta:List Str}{f:Flt},(∀k∈kl,Eb k)->(∀x∈ah,Wo x)->(∀x∈ta,Wo x)->cO ah ta kl=some f->Wo f.2
 |k::r,ah,ta,f,w,wa,wt,h=>by
  unfold cO at h;have wk:=w k (.head _);have d:∀x∈ah++[k.1],Wo x:=λx g=>(L0.mp g).elim (wa x) (λz=>by rw[EF.mp z];exact wk.2.2.2.1);have j:∀x∈ta++k.2.map (·.1),Wo x:=λx g=>(L0.mp g).elim (wt x) (λz=>by have(t,l,rfl):=NI.mp z;exact(wk.2.2.2.2 t l).1)
  cases e:cH [] (ah++[k.1])with
  |some x=>rw[e]at h;cases h;exact d x (rT e)
  |none =>
   rw[e]at h;dsimp only at h
   cases e2:gi ah ta k.2 with
   |some n=>rw[e2]at h;cases h;exact AD wk.2.2.2.2 wt e2
   |none=>rw[e2]at h;exact yw (λx g=>w x (.tail _ g)) d j h
theorem DR (w:yC k)(h:fM g d k=.error f):Wo f.2:=by
 unfold fM at h
 cases e:k.core with
 |num=>rw[e]at h;cases h
 |row j=>rw[e]at h;cases h
 |op m =>
  rw[e]at h;have h:(if m∈d then Except.error (Er.tw,("?":Str))else Except.ok (d++[m]))=.error f:=h
  by_cases c:m∈d
  .rw[if_pos c]at h;cases h;exact Ja
  .rw[if_neg c]at h;cases h
 |kd x =>
  rw[e]at h;have h:(if x∈g then Except.ok d else Except.error (Er.nn,x))=.error f:=h
  by_cases c:x∈g
  .rw[if_pos c]at h;cases h
  .rw[if_neg c]at h;cases h;exact w x e
theorem vC :∀{ps:List (Str×Kk)}{ah:List Str}{d:List Int}{f:Flt},(∀p∈ps,Wo p.1/\yC p.2)->cX j ah d ps=.error f->Wo f.2
 | [],_,_,_,_,h=>by cases h
 |p::r,ah,d,f,w,h=>by
  have h:(if p.1∈ah then Except.error (Er.tw,p.1)else match fM j d p.2 with
   |.error f=>.error f
   |.ok os'=>cX j (ah++[p.1]) os' r)=.error f:=h
  by_cases c:p.1∈ah
  .rw[if_pos c]at h;cases h;exact(w p (.head _)).1
  .rw[if_neg c]at h
   cases e:fM j d p.2 with
   |error g=>rw[e]at h;cases h;exact DR (w p (.head _)).2 e
   |ok os'=>rw[e]at h;exact vC (λx l=>w x (.tail _ l)) h
theorem Gk (w:∀a∈arms,Wo a.1/\∀x∈a.2,Wo x)(h:gx kl arms=some f):Wo f.2:=by
 cases arms with
 |nil=>cases h;exact yr
 |cons a r =>
  unfold gx at h;dsimp only at h
  split at h
  .next b d=>cases h;exact(w b (PJ d)).1
  .split at h
   .have(b,d,e):=List.exists_of_findSome?_eq_some h;unfold jz at e
    split at e
    .cases e;exact(w b d).1
    .split at e
     .cases q:cH [] b.2 with
      |none=>rw[q]at e;cases e
      |some x=>rw[q]at e;cases e;exact(w b d).2 x (rT q)
     .cases e;exact(w b d).1
   .cases h;exact yr
theorem Gm (w:HW h)(e:eO kl ds gs ns h n=.error f):Wo f.2:=by
 cases h with
 |name x =>
  have e:(if x∈ns then Except.ok gs else .error (Er.nn,x))=.error f:=e
  by_cases c:x∈ns
  .rw[if_pos c]at e;cases e
  .rw[if_neg c]at e;cases e;exact w
 |tag t =>
  have e:(match jJ kl t with
   |none=>Except.error (Er.nn,t)
   |some y=>if n=y.2.2.length then Except.ok gs else .error (.wr,t))=.error f:=e
  split at e
  .cases e;exact w
  .split at e
   .cases e
   .cases e;exact w
 |call t =>
  have e:(match ds.find? (λd=>decide (d.1=t))with
   |none=>Except.error (Er.nn,t)
   |some y=>if n=y.2 then Except.ok gs else .error (.wr,t))=.error f:=e
  split at e
  .cases e;exact w
  .split at e
   .cases e
   .cases e;exact w
 |mat arms =>
  have e:(match gx kl arms with
   |some f=>Except.error f
   |none=>Except.ok gs)=.error f:=e
  cases q:gx kl arms with
  |none=>rw[q]at e;cases e
  |some g=>rw[q]at e;cases e;exact Gk w q
 |fold x y =>
  have e:(if x=y then .error (Er.tw,x)else Except.ok gs)=.error f:=e
  by_cases c:x=y
  .rw[if_pos c]at e;cases e;exact w
  .rw[if_neg c]at e;cases e
 |gap m =>
  have e:(if m∈gs then .error (Er.tw,("?":Str))else Except.ok (gs++[m]))=.error f:=e
  by_cases c:m∈gs
  .rw[if_pos c]at e;cases e;exact Ja
  .rw[if_neg c]at e;cases e
 |num _=>cases e
 |op _=>cases e
 |row=>cases e
 |more=>cases e
 |first=>cases e
 |others=>cases e
 |long=>cases e
 |ife=>cases e
 |lt _=>cases e
theorem KH :Ta d->∀{gs:List Int}{ns:List Str}{f:Flt},uD kl ds gs ns d=.error f->Wo f.2:=by
 refine Tm.induct (P:=λd=>Ta d->∀{gs:List Int}{ns:List Str}{f:Flt},uD kl ds gs ns d=.error f->Wo f.2) (λh ks o t gs ns f e=>?_) d
 cases t with
 |mk _ w wk =>
 rw[uc]at e
 cases q:eO kl ds gs ns h ks.length with
 |error g=>rw[q]at e;cases e;exact Gm w q
 |ok gs' =>
  rw[q]at e
  have j:∀(l:List Tm),(∀k∈l,k∈ks)->∀(bs:List (List Str)) (gs:List Int),jF kl ds gs ns bs l=.error f->Wo f.2:=by
   intro l
   induction l with
   |nil=>intro _ bs gs e;rw[j5]at e;cases e
   |cons k r ihl =>
    intro m bs gs e
    cases bs with
    |nil=>unfold jF at e;cases e
    |cons b bs =>
     rw[jn]at e
     cases q2:uD kl ds gs (ns++b) k with
     |error g=>rw[q2]at e;cases e;exact o k (m k (.head _)) (wk k (m k (.head _))) q2
     |ok g'=>rw[q2]at e;exact ihl (λx p=>m x (.tail _ p)) bs g' e
  exact j ks (λ_ h=>h) _ gs' e
theorem AE :∀{dl:List Df}{ds:List (Str×Nat)}{gs j:List Int}{f:Flt},(∀d∈dl,G0 d/\Ta d.2.2)->jB kl ds gs j dl=some f->Wo f.2
 | [],_,_,_,_,_,h=>by cases h
 |d::r,ds,gs,j,f,w,h=>by
  rw[vB]at h;have((o,m),l):=w d (.head _)
  by_cases c:d.1∈ds.map (·.1)
  .rw[if_pos c]at h;cases h;exact o
  .rw[if_neg c]at h
   cases e:cX (kl.map (·.1)) [] j d.2.1 with
   |error g=>rw[e]at h;cases h;exact vC m e
   |ok os' =>
    rw[e]at h;unfold oK at h;dsimp only at h
    cases e2:uD kl ds gs (d.2.1.map (·.1)) d.2.2 with
    |error g=>rw[e2]at h;cases h;exact KH l e2
    |ok gs'=>rw[e2]at h;exact AE (λx p=>w x (.tail _ p)) h
theorem Gn (b:yD z dp kl dl)(h:cy kl dl=some f):Wo f.2:=by
 unfold cy at h
 cases e:cO [] [] kl with
 |some g=>rw[e]at h;cases h;exact yw (ah:=[]) (ta:=[]) b.kt (λ_ h=>nomatch h) (λ_ h=>nomatch h) e
 |none=>rw[e]at h;exact AE (λd hd=>#[b.dw d hd,(b.dd d hd).2.1]) h
theorem yD.Mc (b:yD z dp kl dl):wV kl:=#[by have:=b.k3;omega,λk d=>#[by have:=(b.kt k d).2.1;omega,λt e=>by have:=(b.kt k d).2.2.1 t e;omega]]
theorem yD.Me (b:yD z dp kl dl)(j:z<=80)(hn:dp<n):K8 n dl:=#[by have:=b.d3;omega,λd hd=>by
 have(a,c,e,g,i):=b.dd d hd;exact#[#[a,c,(),()],()]]
end G14
namespace L2
open PySem
end L2
namespace HT
open PySem PyProof.Rows
section
open PySem.SeqAt
open PySem.AutoSeq1 (wpAny_loadPart')
open PySem.MeetsSeq PySem.MeetsSeq2 PySem.MeetsSeq3
end
end HT
namespace L2
open PySem PySem.Spec PyProof.Rows
theorem yx {pos:Pos}{z y v u t l j g e d:Expr}{t1 t2 t3 t4 t5 r q p o m:TE}(N:PE X z t1)(H:PE X l r)(M:PE X y t2)(G:PE X j q)(L:PE X v t3)(D:PE X g p)(J:PE X u t4)(C:PE X e o)(I:PE X t t5)(B:PE X d m):
  PE X (.Dict [some z,some y,some v,some u,some t] [l,j,g,e,d] pos) (GK [(t1,r),(t2,q),(t3,p),(t4,o),(t5,m)]) :=
 EB (mW N H (mW M G (mW L D (mW J C (mW I B EA))))) rfl rfl (List.cons_ne_nil _ _) (by show 5<=15;decide)
end L2
namespace G14
open PySem L2
structure Gp(K:bN) (H:Hp) (f d:Addr) (S:Sn) (kl:Kl) (nm:List Str):Prop where
 sd:H d=some (.dK (zp S))
 kd:Rp K H (.t (kl.map gZ)) (.ref S.kd)
 ln:H S.ln=some (.lst (nm.map V.str))
 l6:nm.length=6
 un:Un nm
 ld:H S.ld=some (.lst [])
 lg:H S.lg=some (.lst [])
 f0:0<=S.f0/\S.f0<100
 ff:cM H f
 nf:d≠f/\S.ln≠f/\S.ld≠f/\S.lg≠f/\S.lt≠f
 ng:S.ln≠S.lg/\S.ld≠S.lg/\S.lt≠S.lg
 nt:d≠S.lt/\S.ln≠S.lt/\S.ld≠S.lt
 nd:S.ln≠S.ld
 kk:G1 kl
 nw:∀x∈nm,Wo x
theorem Gp.go (s:Gp K H f d S kl e)(fr:dZ [S.lt] f H g):Gp K g f d S kl e :=
 #[fr.jE s.nt.1 s.nf.1 s.sd,s.kd.kt fr.kt,fr.jE s.nt.2.1 s.nf.2.1 s.ln,s.l6,s.un,fr.jE s.nt.2.2 s.nf.2.2.1 s.ld,fr.jE s.ng.2.2.symm s.nf.2.2.2.1 s.lg,s.f0,fr.ff,s.nf,s.ng,s.nt,s.nd,s.kk,s.nw]
theorem Gp.get (s:Gp K H f d S kl g)(e:cV (zp S) (ky y)=some v):cu H d (.str y) (some v):=by
 have h:=cu.k (k:=ky y) s.sd;rw[e]at h;exact h
theorem Gp.fin (s:Gp K H f d S kl e)(h:H S.lt=some (.lst vs))(r:bO K H ((wW kl).map DE) vs):fk K H f d S kl e [] 0 :=
 #[s.sd,s.kd,s.ln,s.l6,s.un,#[[],s.ld,.nil],#[vs,h,r],s.lg,Nu _,s.f0,s.ff,s.nf,s.ng,s.kk,TJ,Nu _,(λ_ h=>nomatch h),s.nw,(λ_ h=>nomatch h)]
structure Mf(K:bN) (fe:Addr) (S:Sn) (kl:Kl) (H0:Hp) (i:Nat) (H:Hp) (vs:List V):Prop where
 fr:dZ [S.lt] fe H0 H
 h:H S.lt=some (.lst vs)
 r:bO K H ((wW (kl.take i)).map DE) vs
theorem Gq {P:IF}{w:Nn}{K:bN}{mg:Str->Option eF}{base:Heap}{gT gN gA:Addr}{tfd nfd afd:L1}{n j:Nat}(hn:6<n)(hj:2<=j){f:Addr}{cdv:eF}{A:Nx}{outer:List OJ}{s:fy}{H1:Hp}{E:XK}(TK:eL P w K mg base "_law_take" 1 U7 cC gT tfd)(aw:eL P w K mg base "_law_named_kind" 2 Vl (lW K) gA afd)(av:eL P w K mg base "_law_named" j U6 (fB K n) gN nfd)(J:mg "len"=none)(z_range:mg "range"=none)(m:mg "tuple"=none)(hr:di j (A.deeper (Np "_law_named_program" (ak aQ) s.heap.objs.size f cdv))){D:L2.Ends}{H:Hp}{fe d ln0:Addr}{room:Int}{S:Sn}{kl:Kl}{nm xs:List Str}{kv:V}{o5 o6 o7 o8 o9 o10 o11:Option V}(sc:fk K H fe d S kl nm [] 0)(un:Un xs)(lx:xs.length=24)(wx:∀x∈xs,Wo x)(wk:∀k∈kl,Eb k)(rm1:1<=room)(rm:room<=40)(rk:Rp K H (.t (kl.map gZ)) kv)(hkn:cO [] [] kl=none)(h0:H ln0=some (.lst (xs.map V.str)))(n0:ln0≠fe/\ln0≠S.lg/\ln0≠S.ld)(nld:S.ln≠S.ld/\S.lt≠S.ld)(k:∀(p:Addr) (pv:V) (W:Hp) (dl:List Df),dZ [S.lg,S.ld] fe H W->W ln0=some (.lst (xs.map V.str))->cP K W p [pv,.ref ln0]->Rp K W (.t [.t (kl.map gZ),.t (dl.map jl)]) pv->yD room.toNat 6 kl dl->cy kl dl=none->D.rt (.ref p) W):
  ja (Zi gy U5 "_law_named_program" (ak aQ) H1).nN ((bh aQ).drop 5) D [some (.ref fe),some (.int room),some (.ref ln0),some kv,some (.ref d),o5,o6,o7,o8,o9,o10,o11] H:=by
 refine d7 ((Z5 (Z4 bE.nd bL 7 (Zf (ak aQ) U5 VY [] (cz (va aF 3)) (λ_ _ _ _=>(Z9 (2) (Ze (Z3 (i:=0) (show(VY:List Str).Nodup by decide)) (Zs (Z3 (i:=1) (show(VY:List Str).Nodup by decide)))))) (λ_ _ _ _=>(va (show Nm VY _ by left) 0)))) (Z5 (Z4 bE.nd bL 8 (Zt (Z1 (Z0 TK (c8 (va aF 0) (Zc aC))) aA))) (Z5 (sa bE.nd bL 9 (dB aA)) cK)))) ?_
 right
 right
 have(ka,a2,rfl,ap,aq):=rk.aS;have l3:=sc.kk.l3;ext;refine uX (K:=K) (e:=gZ) (φ:=λk=>[.s k.1]) (λσ=>∃a b,σ=[a,b]) ap aq () (λ_=>lj _) #[_,_,rfl] ?_ ?_
 .rintro p hp x _ H6 N s6 ⟨_,_,rfl⟩ rx kN;have(xa,x1,x2,rfl,ax,e1,e2):=(show Rp K H6 (.t [.s p.1,.t (p.2.map kI)]) x from rx).t2;obtain rfl:=e1.aM;ext;exact kN _ _ _ #[#[_,_,rfl],aT.refl _,.one .s]
 intro q H2 az Z u h2 r2;rw[vV,show(λp:Str×List (Str×List Kk)=>T.s p.1)=T.s ∘ (·.1)from rfl,<-Oa]at r2;obtain rfl:=r2.kW;have O:=sc.same Z;have ar:=O.ff;have G:q≠fe:=bB sc.ff u;have aa:q≠S.lg:=(ay sc.lg u).symm;have(dv,as,_):=sc.ld;have ab:q≠S.ld:=(ay as u).symm;ext C H3 a1 a0 X;have M:=O.ext X;ext B g;have Y:=ae g (.lst [.int C])
 have h4:upd H3 B (.lst [.int C]) B=some (.lst ((qy C 1).map V.int)):=by
  rw[af]
  have:qy C 1=[C]:=by
   show [(C+7*((0:Nat):Int)) % 100]=[C]
   congr 1
   omega
  rw[this];rfl
 have ac:B≠fe:=bB M.ff g;have v:=X.1 _ _ G h2;have U:=X.1 _ _ n0.1 (Z _ _ h0);have ad:ln0≠B:=ay U g;have R:q≠B:=ay v g;generalize upd H3 B (.lst [.int C])=H4 at Y h4|-;have am:=M.same Y;ext y l;have s5:=ae l (.lst []);have h5:upd H4 y (.lst []) y=some (.lst []):=af;have ag:y≠fe:=bB am.ff l;have an:B≠y:=ay h4 l;have ao:ln0≠y:=ay (Y _ _ U) l;have ah:q≠y:=ay (Y _ _ v) l;generalize upd H4 y (.lst [])=H5 at s5 h5|-;have Q:=Y.trans s5;have L:Ext fe H2 H5:=X.same Q;have k5:=(Kt.same Z).trans (L.kt ar);have al:dZ [S.lg,S.ld] fe H H5:=((dZ.refl sc.ff).same Z).ext L;have I:H3 y=none:=Y.free l;ext;refine Gi hn hj TK aw av J z_range m hr M (O.ext L) un lx wx wk rm1 rm (rk.kt k5) #[g,I] hkn (Q _ _ U) #[n0.1,n0.2.1,n0.2.2,ad,ao] (Q _ _ v) #[G,aa,ab,R,ah] (s5 _ _ h4) ac h5 ag an nld λp pv W dl fr hl sq r b e=>k p pv W dl ?_ hl sq r b e;have ai:H B=none:=Z.free (G14.Ext.free X g);have aj:H y=none:=Z.free (G14.Ext.free X I);refine#[λb o m1 m2 e=>(al.sub (M':=[S.lg,S.ld,B,y]) (λz hz=>by simp only[Nc,NB,or_false]at hz|-;rcases hz with h|h;exact .inl h;exact .inr (.inl h))|>.trans fr).oth b o (λz=>?_) m2 e,al.kt.trans fr.kt,fr.ff]
 simp only[Nc,NB,or_false]at z;rcases z with z|z|z|z
 .exact m1 (by rw[z];exact .head _)
 .exact m1 (by rw[z];simp)
 .rw[z,ai]at e;cases e
 .rw[z,aj]at e;cases e
theorem Gr {P:IF}{w:Nn}{K:bN}{mg:Str->Option eF}{base:Heap}{gT gN gA:Addr}{tfd nfd afd:L1}{n j:Nat}(hn:6<n)(hj:2<=j){f:Addr}{cdv:eF}{A:Nx}{outer:List OJ}{s:fy}{H1:Hp}{E:XK}(TK:eL P w K mg base "_law_take" 1 U7 cC gT tfd)(al:eL P w K mg base "_law_named_kind" 2 Vl (lW K) gA afd)(aj:eL P w K mg base "_law_named" j U6 (fB K n) gN nfd)(m:mg "len"=none)(z_range:mg "range"=none)(l:mg "tuple"=none)(hr:di j (A.deeper (Np "_law_named_program" (ak aQ) s.heap.objs.size f cdv))){D:L2.Ends}{H:Hp}{fe d ln0:Addr}{room:Int}{S:Sn}{kl:Kl}{nm xs:List Str}{kv:V}{Z Y o7 o8 o9 o10 o11:Option V}(sq:Gp K H fe d S kl nm)(hlt:H S.lt=some (.lst []))(un:Un xs)(lx:xs.length=24)(wx:∀x∈xs,Wo x)(wk:∀k∈kl,Eb k)(rm1:1<=room)(rm:room<=40)(rk:Rp K H (.t (kl.map gZ)) kv)(hkn:cO [] [] kl=none)(h0:H ln0=some (.lst (xs.map V.str)))(n0:ln0≠fe/\ln0≠S.lg/\ln0≠S.ld/\ln0≠S.lt)(k:∀(p:Addr) (pv:V) (u:Hp) (dl:List Df),dZ [S.lt,S.lg,S.ld] fe H u->u ln0=some (.lst (xs.map V.str))->cP K u p [pv,.ref ln0]->Rp K u (.t [.t (kl.map gZ),.t (dl.map jl)]) pv->yD room.toNat 6 kl dl->cy kl dl=none->D.rt (.ref p) u):
  ja (Zi gy U5 "_law_named_program" (ak aQ) H1).nN ((bh aQ).drop 4) D [some (.ref fe),some (.int room),some (.ref ln0),some kv,some (.ref d),Z,Y,o7,o8,o9,o10,o11] H:=by
 refine d7 ((Z5 (Zg NH (cz (va aF 3)) (Z9 (2) (Ze (ga bE.nd bL 5) (Zs (ga bE.nd bL 6)))) (Zd (Zn (@xr _ _ _ _ _ _ _ _ _ _ _ _ P7 SI SJ uP (Zj (va aF 4)) (Z1 (Zf (ak aQ) U5 Vz [] (cz (va aF 6)) (λ_ _ _ _=>(Z9 (2) (Ze (Z3 (i:=0) (show(Vz:List Str).Nodup by decide)) (Zs (Z3 (i:=1) (show(Vz:List Str).Nodup by decide)))))) (λ_ _ _ _=>(Zl (Z1 (va (show Nm Vz _ by left) 0) (Z1 (Z2 (oG K rfl) m Nl (Zc (va (show Nm Vz _ by left) 1))) aA))))) aA) (by rfl) (by rfl) (by rfl) (by rfl) (by rfl))))) cK)) ?_
 right
 right
 refine lQ ?_;intro N1 c1;have(ka,aa,rfl,ab,I):=rk.aS;have C:=I.length;rw[bM]at C;have l3:=sq.kk.l3;ext;refine eX (K:=K) (xs:=aa) (λi v M=>∃Z Y vs,v=[some (.ref fe),some (.int room),some (.ref ln0),some (.ref ka),some (.ref d),Z,Y,o7,o8,o9,o10,o11]/\Mf K fe S kl H i M vs) #[_,_,[],rfl,dZ.refl sq.ff,hlt,.nil] ?_ ?_ ?_
 .rintro i v M hi ⟨_,_,_,_,g⟩;exact ab.kt g.fr.kt
 .rintro i xv v M hxv ⟨_,_,vs,rfl,g⟩;have(t,ht,W):=I.get' hxv;rw[xn]at ht;have(kd,q,rfl):=we.mp ht;have ah:=(bH.mp q).1;have ai:kl.take (i+1)=kl.take i++[kd]:=by rw[mu ah,(bH.mp q).2]
  have(as,ar,aq):=sq.kk.pt kd (Nf q);have(qa,w1,w2,rfl,X,q1,q2):=(show Rp K H (.t [.s kd.1,.t (kd.2.map kI)]) xv from W).t2;obtain rfl:=q1.aM;have(ta,ao,rfl,O,Q):=q2.aS;have k3:=g.fr.kt;have am:=X.kt k3;have y:=O.kt k3;have B:=Q.kt k3;have T:=sq.go g.fr;have ax:=T.get (Az S);have ag:=g.h;ext;refine uX (K:=K) (e:=kI) (φ:=λt=>[DE (t.1,t.2.length)]) (λv=>∃a b,v=[a,b]) y B () (λ_=>lj _) #[_,_,rfl] ?_ ?_
  .rintro p hp x _ H6 N s6 ⟨_,_,rfl⟩ W kN;have(xa,x1,x2,rfl,an,e1,e2):=(show Rp K H6 (.t [.s p.1,.t (p.2.map jI)]) x from W).t2;obtain rfl:=e1.aM;have(ia,ac,rfl,av,ad):=e2.aS;have G:=ad.length;rw[bM]at G;ext p7 L;have s7:=ae L (.tup [.str p.1,.int ac.length]);exact kN _ _ _ #[#[_,_,rfl],s7,.one (by rw[G];exact Rp.new (K:=K) (xs:=[.s p.1,.i (p.2.length:Nat)]) L (.cons .s (.one .i)))]
  intro l4 H4 o U aw h4 r4;rw[vV]at r4;have J:=U _ _ ag;have lw:=r4.length;rw[bM]at lw;have lv:=g.r.length
  have ap:(wW (kl.take i)).length<=9:=by
   have:=DC sq.kk
   have e:wW kl=wW (kl.take i)++wW (kl.drop i):=by
    unfold wW;rw[<-NU,Rn]
   rw[e,i4]at this;omega
  rw[bM]at lv;have lc:vs.length+o.length<=mH:=small ();have k5:Kt H4 (upd H4 S.lt (.lst (vs++o))):=Kt.lst J _;ext;refine Mf.mk (vs:=vs++o) ((g.fr.same U).upd (.head _) sq.nf.2.2.2.2 J) af ?_
  have e:wW (kl.take (i+1))=wW (kl.take i)++kd.2.map λt=>(t.1,t.2.length):=by
   rw[ai];unfold wW;rw[NU];simp
  rw[e,i5,Oa];exact((g.r.same U).kt k5).append (r4.kt k5)
 .rintro v M ⟨_,_,vs,rfl,g⟩;have r3:=g.r;rw[C,Nr]at r3;refine Cut.go c1 ?_;refine Gq hn hj TK al aj m z_range l hr ((sq.go g.fr).fin g.h r3) un lx wx wk rm1 rm (rk.kt g.fr.kt) hkn (g.fr.jE n0.2.2.2 n0.1 h0) #[n0.1,n0.2.1,n0.2.2.1] #[sq.nd,sq.nt.2.2.symm] λp pv u dl fr hl R r b e=>k p pv u dl ((g.fr.sub ?_).trans (fr.sub ?_)) hl R r b e
  .intro z hz;rw[EF.mp hz];exact .head _
  .intro z hz;exact .tail _ hz
noncomputable def BW(kd d g e:Addr)(f0:Int):List (Key×V):=[(ky "kinds",.ref kd),(ky "names",.ref d),(ky "defs",.ref g),(ky "gaps",.ref e),(ky "first",.int f0)]
theorem Jb (kd d g e:Addr)(f0:Int):oQ [] (BW kd d g e f0)=BW kd d g e f0:=by kernel_rfl
theorem Jc (kd d g e lt:Addr)(f0:Int):putK (BW kd d g e f0) (ky "tags") (.ref lt)=zp #[kd,d,g,e,lt,f0]:=by kernel_rfl
theorem DS {P:IF}{w:Nn}{K:bN}{mg:Str->Option eF}{base:Heap}{gT gN gA:Addr}{tfd nfd afd:L1}{n j:Nat}(hn:6<n)(hj:2<=j){f:Addr}{cdv:eF}{A:Nx}{outer:List OJ}{s:fy}{H1:Hp}{E:XK}(TK:eL P w K mg base "_law_take" 1 U7 cC gT tfd)(a4:eL P w K mg base "_law_named_kind" 2 Vl (lW K) gA afd)(a3:eL P w K mg base "_law_named" j U6 (fB K n) gN nfd)(R:mg "len"=none)(z_range:mg "range"=none)(B:mg "tuple"=none)(hr:di j (A.deeper (Np "_law_named_program" (ak aQ) s.heap.objs.size f cdv))){D:L2.Ends}{H:Hp}{fe ln0:Addr}{room:Int}{kl:Kl}{xs:List Str}{kv:V}{o4 o5 o6 o7 o8 o9 o10 o11:Option V}(hf:cM H fe)(un:Un xs)(lx:xs.length=24)(wx:∀x∈xs,Wo x)(rm1:1<=room)(rm:room<=40)(rk:Rp K H (.t (kl.map gZ)) kv)(ok:BD xs kl)(k3:kl.length<=3)(h0:H ln0=some (.lst (xs.map V.str)))(n0:ln0≠fe)(k:∀(p:Addr) (pv:V) (H':Hp) (dl:List Df),Ext fe H H'->H' ln0=some (.lst (xs.map V.str))->cP K H' p [pv,.ref ln0]->Rp K H' (.t [.t (kl.map gZ),.t (dl.map jl)]) pv->yD room.toNat 6 kl dl->cy kl dl=none->D.rt (.ref p) H'):
  ja (Zi gy U5 "_law_named_program" (ak aQ) H1).nN ((bh aQ).drop 2) D [some (.ref fe),some (.int room),some (.ref ln0),some kv,o4,o5,o6,o7,o8,o9,o10,o11] H:=by
 refine d7 ((Z5 (Z4 bE.nd bL 4 (@yx _ _ _ _ _ _ _ _ _ _ _ _ _ _ _ _ _ _ _ _ _ _ aG (va aF 3) aG (dX rM (va aF 2) (dj aC) (dj aC)) aG (dB aA) aG (dB aA) aG (Z0 TK (c8 (va aF 0) (Zc aC))))) (Z5 (pR (gE hr) (va aF 4) aG (dB aA) (by rfl)) cK))) ?_
 right
 right
 have e3:ju (xs.map V.str) (some 12) (some 18)=((xs.drop 12).take 6).map V.str:=by
  rw[show(some (12:Int))=some ((12:Nat):Int)from rfl,show(some (18:Int))=some ((18:Nat):Int)from rfl,xK _ _ _ (by rw[bM];omega) (),Po,Rz]
 have(q,a6,rfl,a7,a8):=rk.aS;ext d hd;have G:=ae hd (.dK []);have h1:upd H d (.dK []) d=some (.dK []):=af;have ap:=G _ _ h0;generalize upd H d (.dK [])=H1 at G h1 ap|-;ext m J;rw[e3];have W:=ae J (.lst (((xs.drop 12).take 6).map V.str));have h2:upd H1 m (.lst (((xs.drop 12).take 6).map V.str)) m=some (.lst (((xs.drop 12).take 6).map V.str)):=af;generalize upd H1 m (.lst (((xs.drop 12).take 6).map V.str))=H2 at W h2|-;ext l L;have U:=ae L (.lst []);have h3:upd H2 l (.lst []) l=some (.lst []):=af;generalize upd H2 l (.lst [])=H3 at U h3|-;ext g C;have s4:=ae C (.lst []);have h4:upd H3 g (.lst []) g=some (.lst []):=af;generalize upd H3 g (.lst [])=H4 at s4 h4|-;have X:=((G.trans W).trans U).trans s4;have a9:=hf.same X;ext u Q a0 az x5;have nd:d≠fe:=bB hf hd;have nn:m≠fe:=bB (hf.same G) J;have nl:l≠fe:=bB (hf.same (G.trans W)) L;have ng:g≠fe:=bB (hf.same ((G.trans W).trans U)) C;have an:=x5.1 _ _ nd (s4 _ _ (U _ _ (W _ _ h1)));have aj:=x5.1 _ _ nn (s4 _ _ (U _ _ h2));have al:=x5.1 _ _ nl (s4 _ _ h3);have am:=x5.1 _ _ ng h4;have ao:=x5.1 _ _ n0 (X _ _ h0);have ar:Ext fe H Q:=((Ext.refl hf).same X).trans x5;have a5:=rk.kt (ar.kt hf);have m1:m≠l:=ay h2 L;have m2:m≠g:=ay (U _ _ h2) C;have m3:l≠g:=ay h3 C;have z1:H m=none:=G.free J;have z2:H l=none:=(G.trans W).free L;have z3:H g=none:=((G.trans W).trans U).free C;have ba:ln0≠m:=ay ap J;have a2:ln0≠l:=ay h0 z2;have a1:ln0≠g:=ay h0 z3;ext
 .exact(show _=(BW q m l g u).map (λkv=>(kV kv.1,kv.2))from rfl)
 refine#[by show 5<=15;decide,?_];rw[Jb];have y:∀{b:Addr}{us:List V},Q b=some (.lst us)->b≠d:=λe=>jr e an nofun
 have O:dZ [] fe H (upd Q d (.dK (BW q m l g u))):=(Ext.sX hf ar).GO hd nd an;have ah:upd Q d (.dK (BW q m l g u)) d=some (.dK (BW q m l g u)):=af;have ac:upd Q d (.dK (BW q m l g u)) m=some (.lst (((xs.drop 12).take 6).map V.str)):=by rw[au (y aj)];exact aj
 have ad:upd Q d (.dK (BW q m l g u)) l=some (.lst []):=by rw[au (y al)];exact al
 have ag:upd Q d (.dK (BW q m l g u)) g=some (.lst []):=by rw[au (y am)];exact am
 have ai:upd Q d (.dK (BW q m l g u)) ln0=some (.lst (xs.map V.str)):=by rw[au (y ao)];exact ao
 generalize upd Q d (.dK (BW q m l g u))=H6 at O ah ac ad ag ai|-;ext lt o;have T:=ae o (.lst []);have h7:upd H6 lt (.lst []) lt=some (.lst []):=af;have M:=T _ _ ah;have q1:d≠lt:=ay ah o;have q2:m≠lt:=ay ac o;have q3:l≠lt:=ay ad o;have q4:g≠lt:=ay ag o;have q5:ln0≠lt:=ay ai o;have q6:lt≠fe:=bB O.ff o;have z4:H lt=none:=O.free o nofun
 have aq:=O.same T;have Y:=T _ _ ac;have Z:=T _ _ ad;have aa:=T _ _ ag;have ab:=T _ _ ai;generalize upd H6 lt (.lst [])=H7 at T h7 M aq Y Z aa ab|-;have dp:=nZ.k (k:=ky "tags") (v:=.ref lt) M (by show 5<mH;decide);rw[Jc]at dp;have I:∀{b:Addr}{us:List V},H7 b=some (.lst us)->b≠d:=λe=>jr e M nofun
 have N:dZ [] fe H (upd H7 d (.dK (zp #[q,m,l,g,lt,u]))):=aq.GO hd nd M;have as:Un ((xs.drop 12).take 6):=nY (nX un 12) 6;have l6:((xs.drop 12).take 6).length=6:=by rw[I0,N7];omega
 have sq:Gp K (upd H7 d (.dK (zp #[q,m,l,g,lt,u]))) fe d #[q,m,l,g,lt,u] kl ((xs.drop 12).take 6):=#[af,rk.kt N.kt,by show upd _ _ _ m=_;rw[au (I Y)];exact Y,l6,as,by show upd _ _ _ l=_;rw[au (I Z)];exact Z,by show upd _ _ _ g=_;rw[au (I aa)];exact aa,#[a0,az],N.ff,#[nd,nn,nl,ng,q6],#[m2,m3,q4.symm],#[q1,q2,q3],m1,zu un ok k3 wx,λx hx=>wx x (OU (Oc hx))];have aw:upd H7 d (.dK (zp #[q,m,l,g,lt,u])) lt=some (.lst []):=by rw[au q1.symm];exact h7
 have ax:upd H7 d (.dK (zp #[q,m,l,g,lt,u])) ln0=some (.lst (xs.map V.str)):=by rw[au (I ab)];exact ab
 ext;refine Gr (S:=#[q,m,l,g,lt,u]) hn hj TK a4 a3 R z_range B hr sq aw un lx wx (um ok wx) rm1 rm (rk.kt N.kt) (DP un ok) ax #[n0,a1,a2,q5] λp pv H' dl fr hl av r b e=>k p pv H' dl ?_ hl av r b e;have ft:=(N.sub (M':=[lt,g,l]) (λz hz=>nomatch hz)).trans fr
 exact((ft.drop z4).drop z3).drop z2|>.ex
theorem DT (hn:6<n)(hj:3<=j)(F:jq K "_law_named_program" "_law_named_program" aQ f J)(TK:eL P w K mg base "_law_take" 1 U7 cC gT tfd)(NM:eL P w K mg base "_law_names" 2 U7 Aq gM mfd)(z:eL P w K mg base "_law_heads" 3 VT (Av K) gH hfd)(y:eL P w K mg base "_law_named_kind" 2 Vl (lW K) gA afd)(v:eL P w K mg base "_law_named" j U6 (fB K n) gN nfd)(l:mg "len"=none)(z_range:mg "range"=none)(d:mg "tuple"=none):cA P w K mg base gy (j+1) f J V1 (AB K):=by
 refine F.ok bE (λM H Q E h=>?_) (λcdv A outer s H M Q E hr h=>?_)
 .have(_,_,rfl,_):=h;rfl
 have(Y,D,rfl,W,t,O,k):=h;refine#[_,(Z5 (Z4 bE.nd bL 2 (Z0 NM (c8 (va aF 0) (Zc aC)))) (Z5 (Z4 bE.nd bL 3 (Z0 z (Z1 (va aF 0) (Zc (va aF 2))))) cK)),?_]
 right
 right
 ext o H1 B C g u S I un;have m:B.length=24:=S;have V:=C.2;have G:o≠Y:=bB W g;ext kv H2 T q ok U R;ext;exact DS hn () TK y v l z_range d hr q.2 un m I t O R ok U (q.1 _ _ G u) G λp pv H' Z L X N r b e=>k p o pv H' T Z B ((C.trans q).trans L) g X m I N r b e
def rV(K:bN):Sp:=λg H Q _=>∃(f:Addr) (e:Str),g=[.ref f,.str e]/\cM H f/\Wo e/\∀(v:V) (d:Hp) (k:Kk),Ext f H d->Rp K d (jI k) v->yC k->Q v d
def AF(K:bN):Sp:=λl H Q _=>∃(f:Addr) (v:V) (e:Str) (k:Str×List (Str×List Kk)),l=[.ref f,v,.str e]/\cM H f/\Rp K H (gZ k) v/\Eb k/\Wo e/\∀(g:V) (d:Hp) (j:Str×List (Str×List Kk)),Ext f H d->Rp K d (gZ j) g->Eb j->Q g d
theorem bO.Jd (r:bO K H xs us)(d:Rp K H x u)(i:Nat):bO K H (xs.take i++[x]++xs.drop (i+1)) (us.take i++[u]++us.drop (i+1)):=((r.take i).snoc d).append (r.drop (i+1))
theorem eW :Nm VH (ak gU):=by decide
theorem jG :Lm VH (ak gU):=by decide
theorem iB :aZ VH VM (ak gU):=by ac_rfl
theorem DU (F:jq K "_law_other_kind" "_law_other_kind" gU f fd)(TK:eL P w K mg base "_law_take" 1 U7 cC gT tfd)(z_range:mg "range"=none):cA P w K mg base gy 2 f fd VM (rV K):=by
 refine F.ok iB (λvs H Q E h=>?_) (λcdv A outer s H vs Q E hr h=>?_)
 .have(_,_,rfl,_):=h;rfl
 have(S,l,rfl,hf,aj,k):=h;refine#[_,(Z5 (Z4 iB.nd jG 2 (Zk bx (Zt (Z1 (Zl (Z1 aG (Zc (va eW 1)))) (Z1 (Zl (Z1 aG (Z1 (Zk bx (Zt (Z1 aC (Z1 aC (c8 aC (Zc aC))))) (Z0 TK (c8 (va eW 0) (Zc aC)))) aA))) (Zc aG)))) (Z0 TK (c8 (va eW 0) (Zc aC))))) (Z5 (Zg NH (Zq (Z1 (Z0 TK (c8 (va eW 0) (Zc aC))) aA)) (ga iB.nd jG 3) (Zd (Z4 iB.nd jG 2 (Zl (Z1 aG (Zc (va eW 2))))))) (Zd (cG (va eW 2))))),?_]
 right
 right
 ext e L;have Z:=ae L (.tup [.str "kind",.str l]);have r1:Rp K (upd H e (.tup [.str "kind",.str l])) (jI (.kd l)) (.ref e):=Rp.new (K:=K) (xs:=[.s "kind",.s l]) L (.cons .s (.one .s));generalize upd H e (.tup [.str "kind",.str l])=H1 at Z r1|-;ext l2 N;have Y:=ae N (.lst [.int 2,.int 7,.int 90,.int 50]);have h2:upd H1 l2 (.lst [.int 2,.int 7,.int 90,.int 50]) l2=some (.lst [.int 2,.int 7,.int 90,.int 50]):=af;have n2:=bB (hf.same Z) N;have D:=r1.same Y;have R:=hf.same (Z.trans Y);have u:Ext S H (upd H1 l2 (.lst [.int 2,.int 7,.int 90,.int 50])):=(Ext.refl hf).same (Z.trans Y);generalize upd H1 l2 (.lst [.int 2,.int 7,.int 90,.int 50])=H2 at Y h2 D R u|-;ext r3 H3 ag ad x3;have h3:bQ K H3 l2 [.int 2,.int 7,.int 90,.int 50]:=bQ.of (x3.1 _ _ n2 h2);have(z,hz,G):=oV (xs:=[V.int 2,.int 7,.int 90,.int 50]) (k:=r3) ag ad
 obtain⟨n,rfl⟩:∃n:Int,z=.int n:=by
  simp only[Nc,NB,or_false]at G;rcases G with rfl|rfl|rfl|rfl
  .exact#[_,rfl]
  .exact#[_,rfl]
  .exact#[_,rfl]
  .exact#[_,rfl]
 have t:=u.trans x3;have ah:=D.kt (x3.kt R);ext d J;have X:=ae J (.tup [.str "open",.int n]);have r4:Rp K (upd H3 d (.tup [.str "open",.int n])) (jI (.op n)) (.ref d):=Rp.new (K:=K) (xs:=[.s "open",.i n]) J (.cons .s (.one .i));have C:=ah.same X;generalize upd H3 d (.tup [.str "open",.int n])=H4 at X r4 C|-;ext o M;have W:=ae M (.lst [.ref e,.ref d,.str "num"]);have h5:upd H4 o (.lst [.ref e,.ref d,.str "num"]) o=some (.lst [.ref e,.ref d,.str "num"]):=af;have g:Ext S H (upd H4 o (.lst [.ref e,.ref d,.str "num"])):=(t.same X).same W;have n5:o≠S:=bB (t.same X).2 M;have B:=C.same W;have y:=r4.same W;generalize upd H4 o (.lst [.ref e,.ref d,.str "num"])=H5 at W h5 g B y|-;have O:=g.2;ext r6 H6 am al T;have h6:bQ K H6 o [.ref e,.ref d,.str "num"]:=bQ.of (T.1 _ _ n5 h5);have r:=g.trans T;have ak:=r.2
 obtain⟨U,k6,a6,ac,ai⟩:∃U k6,eK [V.ref e,V.ref d,V.str "num"] r6=some U/\Rp K H6 (jI k6) U/\yC k6:=by
  rcases(show r6=0\/r6=1\/r6=2 by omega)with rfl|rfl|rfl
  .exact#[_,.kd l,aH (j:=0) rfl,B.kt (T.kt O),λx I=>Kk.kd.inj I▸aj]
  .exact#[_,.op n,aH (j:=1) rfl,y.kt (T.kt O),λx I=>nomatch I]
  .exact#[_,.num,aH (j:=2) rfl,.s,λx I=>nomatch I]
 ext m H7 m0 m1 x7;have aa:=r.trans x7;have ab:=ac.kt (x7.kt ak);ext;refine iG (n:=m.toNat) (λi σ H8=>∃v q o3,σ=[some (.ref S),some (.str l),some v,o3]/\(Ext S H H8/\Rp K H8 (jI q) v/\yC q)) #[U,k6,_,rfl,aa,ab,ai] ?_ ?_
 .rintro i σ H8 hi ⟨v,q,_,rfl,x8,r8,w8⟩;ext p hp;have s9:=ae hp (.tup [.str "row",v]);exact#[_,.row q,_,rfl,x8.same s9,Rp.new (K:=K) hp (.cons .s (.one r8)),w8]
 .rintro σ H8 ⟨v,q,_,rfl,x8,r8,w8⟩;ext;exact k _ _ q x8 r8 w8
theorem aD :Nm Vg (ak bZ):=by decide
theorem bF :Lm Vg (ak bZ):=by decide
theorem bA :aZ Vg Vq (ak bZ):=by ac_rfl
theorem Je {K:bN}{f:Addr}{cdv:eF}{A:Nx}{outer:List OJ}{s:fy}{H1:Hp}{E:XK}(hr:di 2 (A.deeper (Np "_law_other_kind_row" (ak bZ) s.heap.objs.size f cdv))){D:L2.Ends}{H:Hp}{fe:Addr}{at_:Nat}{o1 o2 o7 o8:Option V}{nm t':Str}{ta ia:Addr}{ts:List (Str×List Kk)}{ks:List Kk}(hf:cM H fe)(rt:Rp K H (.t (ts.map kI)) (.ref ta))(ri:Rp K H (.t (ks.map jI)) (.ref ia))(ha:at_<ts.length)(h3:ts.length<=3)(hi:∀t∈ts,t.2.length<=2)(hk:ks.length<=2)(wnm:Wo nm)(wt:Wo t')(wks:∀c∈ks,yC c)(wts:∀t∈ts,Wo t.1/\∀c∈t.2,yC c)(k:∀(N:V) (M:Hp) (T:Str×List (Str×List Kk)),Ext fe H M->Rp K M (gZ T) N->Eb T->D.rt N M):
  ja (Zi gy Vg "_law_other_kind_row" (ak bZ) H1).nN ((bh bZ).drop 6) D [some (.ref fe),o1,o2,some (.str nm),some (.ref ta),some (.int at_),some (.str t'),some (.ref ia),o7,o8] H:=by
 refine d7 ((Zd (Zu (Zl (Z1 (va aD 3) (Z1 (Zm jA (Zm jA (@dX _ _ _ _ _ _ _ _ _ _ ku (va aD 4) eY (dj (va aD 5))) (Zl (Z1 (Zl (Z1 (va aD 6) (Zc (va aD 7)))) aA))) (@dX _ _ _ _ _ _ _ _ _ _ ku (va aD 4) (@dj _ _ _ (bS dR (va aD 5) aC)) eY)) aA)))))) ?_
 right
 right
 have(_,g,e,v,j):=rt.aS
 cases e
 have I:=j.length;rw[bM]at I;ext p2 W u U;rw[iL]at U;have C:=ri.same u;ext d q;have z:=ae q (.tup [.str t',.ref ia]);have r3:Rp K (upd W d (.tup [.str t',.ref ia])) (kI (t',ks)) (.ref d):=Rp.new (K:=K) (xs:=[.s t',.t (ks.map jI)]) q (.cons .s (.one C));generalize upd W d (.tup [.str t',.ref ia])=H3 at z r3|-;ext G J;have r:=ae J (.tup [.ref d]);have h4:cP K (upd H3 G (.tup [.ref d])) G [.ref d]:=cP.of af;have o:=r3.same r;have L:=(U.same z).same r;generalize upd H3 G (.tup [.ref d])=H4 at r h4 o L|-;have l4:(g.take at_).length+[V.ref d].length<=mH:=small (by rw[I0];show _+1<=_;omega);ext p5 H5 R h5;have m:=(z.trans r).trans R;have O:=(v.same u).same m;have ec:ju g (some ((at_:Int)+1)) none=g.drop (at_+1):=by rw[show(at_:Int)+1=((at_+1:Nat):Int) by omega,qH]
 ext p6 H6 y h6;rw[ec]at h6;have aa:=h5.same y;have l6:(g.take at_++[V.ref d]).length+(g.drop (at_+1)).length<=mH:=small (by rw[i4,I0,N7];show _+1+_<=_;omega);ext S H7 Q Z;have l:=(m.trans y).trans Q
 have Y:Rp K H7 (.t ((ts.take at_++[(t',ks)]++ts.drop (at_+1)).map kI)) (.ref S):=by
  refine Rp.t Z ?_;have:=bO.Jd ((j.same u).same l) (o.same ((R.trans y).trans Q)) at_;rw[i5,i5,Po,Rz];exact this
 ext p8 p;have X:=ae p (.tup [.str nm,.ref S]);have B:=(u.trans l).trans X;refine k _ _ (nm,ts.take at_++[(t',ks)]++ts.drop (at_+1)) ((Ext.refl hf).same B) (Rp.new (K:=K) (xs:=[.s nm,.t ((ts.take at_++[(t',ks)]++ts.drop (at_+1)).map kI)]) p (.cons .s (.one Y))) #[?_,?_,?_,wnm,?_]
 .show 1<=(ts.take at_++[(t',ks)]++ts.drop (at_+1)).length;rw[i4,i4];show 1<=_+1+_;omega
 .show(ts.take at_++[(t',ks)]++ts.drop (at_+1)).length<=3;rw[i4,i4,I0,N7];show _+1+_<=3;omega
 .intro t ht;rcases L0.mp ht with ht|ht
  .rcases L0.mp ht with ht|ht
   .exact hi t (Oc ht)
   .rw[EF.mp ht];exact hk
  .exact hi t (OU ht)
 .intro t ht;rcases L0.mp ht with ht|ht
  .rcases L0.mp ht with ht|ht
   .exact wts t (Oc ht)
   .rw[EF.mp ht];exact#[wt,wks]
  .exact wts t (OU ht)
theorem DV (F:jq K "_law_other_kind_row" "_law_other_kind_row" bZ f fd)(TK:eL P w K mg base "_law_take" 1 U7 cC gT tfd)(ac:eL P w K mg base "_law_other_kind" 2 VM (rV K) gO ofd)(o:mg "len"=none):cA P w K mg base gy 3 f fd Vq (AF K):=by
 refine F.ok bA (λvs H Q E h=>?_) (λcdv A outer s H vs Q E hr h=>?_)
 .have(_,_,_,_,rfl,_):=h;rfl
 have(fe,v,wd,kd,rfl,y,r,(al,Y,G,ak,d),aa,k):=h;refine#[_,(Z5 (Zp (va aD 1) (Z9 (2) (Ze (ga bA.nd bF 3) (Zs (ga bA.nd bF 4))))) (Z5 (Z4 bA.nd bF 5 (Z0 TK (Z1 (va aD 0) (Z1 (Z2 aJ o Nl (Zc (va aD 4))) aA)))) (Z5 (Zp (iI aP (va aD 4) (va aD 5) (λ_ _=>rfl)) (Z9 (2) (Ze (ga bA.nd bF 6) (Zs (ga bA.nd bF 7))))) (Z5 (Z4 bA.nd bF 8 (Z0 TK (c8 (va aD 0) (Zc aC)))) (Z5 (Zb (Zo bV (va aD 8) aC) (Zd (Zu (Zl (Z1 (va aD 2) (Zc (va aD 4))))))) (Z5 (@kL _ _ _ _ _ _ _ _ (Zo bV (va aD 8) aC) (Zd (sa bA.nd bF 6 (va aD 2))) (Zd (@kL _ _ _ _ _ _ _ _ (Zh mS (Z2 aJ o Nl (Zc (va aD 7))) aC (bI _)) (Zd (Z4 bA.nd bF 7 (Zm jA (va aD 7) (Zl (Z1 (Z0 ac (Z1 (va aD 0) (Zc (va aD 2)))) aA))))) (Z5 (Z4 bA.nd bF 9 (Z0 TK (c8 (va aD 0) (Zc aC)))) (Zd (Z4 bA.nd bF 7 (Zm jA (Zm jA (@dX _ _ _ _ _ _ _ _ _ _ ku (va aD 7) eY (dj (va aD 9))) (Zl (Z1 (Z0 ac (Z1 (va aD 0) (Zc (va aD 2)))) aA))) (@dX _ _ _ _ _ _ _ _ _ _ ku (va aD 7) (@dj _ _ _ (bS dR (va aD 9) aC)) eY)))))))) cK)))))),?_]
 right
 right
 have(ka,w1,w2,rfl,a8,g1,g2):=(show Rp K H (.t [.s kd.1,.t (kd.2.map kI)]) v from r).t2;obtain rfl:=g1.aM;have(ta,us,rfl,ag,S):=id g2.aS;have ai:=S.length;rw[bM]at ai;have l0:(0:Int)<(us.length:Int):=()
 have l1:(us.length:Int)<1073741824:=()
 refine xT ?_;intro N1 N2 N3 N4 N5 N6 c1 c2 c3 c4 c5 c6;ext r2 H2 a6 a5 L;obtain⟨l,bc,rfl⟩:∃q:Nat,q<us.length/\r2=q:=#[r2.toNat,(),()];have k2:=L.kt y;have ax:=ag.kt k2;have u:l<kd.2.length:=()
 have(tv,am,U):=S.get (i:=l) (x:=kI kd.2[l]) (by rw[xn,my u];rfl);have e:kd.2[l]∈kd.2:=NT u;generalize kd.2[l]=tg at U e;have av:eK us (l:Int)=some tv:=aH am;have(ga,u1,u2,rfl,aw,q1,q2):=(show Rp K H (.t [.s tg.1,.t (tg.2.map jI)]) tv from U).t2;obtain rfl:=q1.aM;have(ia,j,rfl,B,I):=id q2.aS;have aj:=I.length;rw[bM]at aj;have ah:=G tg e;have a1:=aw.kt k2;have bb:=L.2;have a4:=g2.kt k2
 have fin:∀{H':Hp}{t':Str}{ia:Addr}{ks:List Kk}{o8 o9:Option V},Ext fe H H'->Rp K H' (.t (ks.map jI)) (.ref ia)->ks.length<=2->Wo t'->(∀c∈ks,yC c)->N6 [some (.ref fe),some (.ref ka),some (.str wd),some (.str kd.1),some (.ref ta),some (.int l),some (.str t'),some (.ref ia),o8,o9] H':=λ{H' t' ia ks o8 o9} x' ri hk wt wks=>by
  refine Cut.go c6 ?_;exact Je hr x'.2 (g2.kt (x'.kt y)) ri u Y G hk ak wt wks d λv' H2 k' L r2 b2=>k v' H2 k' (x'.trans L) r2 b2
 clear c6;ext fm H3 bg bf x3;have g:=L.trans x3;have ba:=x3.2;have i3:=q2.kt (g.kt y);have a0:=B.kt (g.kt y);ext;refine bW (λc=>?_) (λc=>?_)
 .ext;intro p4 ab;have s4:=ae ab (.tup [.str wd,.ref ta]);exact k _ _ (wd,kd.2) (g.same s4) (Rp.new (K:=K) (xs:=[.s wd,.t (kd.2.map kI)]) ab (.cons .s (.one (g2.kt (g.kt y))))) #[al,Y,G,aa,d]
 ext;refine bW (λc=>?_) (λc=>?_)
 .ext;exact fin g i3 ah aa (d tg e).2
 ext;refine bW (λc=>?_) (λc=>?_)
 .have c':(j.length:Int)<2:=of_decide_eq_true c;ext R H4 k4 x4 r4 w4;have m:=g.trans x4;ext p5 ao;have D:=ae ao (.tup [R]);have h5:cP K (upd H4 p5 (.tup [R])) p5 [R]:=cP.of af;have Z:=(B.kt (m.kt y)).same D;have C:=(I.kt (m.kt y)).same D;have X:=r4.same D;have p:=m.same D;generalize upd H4 p5 (.tup [R])=H5 at D h5 Z C X p|-;have l5:j.length+[R].length<=mH:=small (by show _+1<=_;omega);ext p6 H6 s6 h6;refine fin (ks:=tg.2++[k4]) (p.same s6) ?_ (by rw[i4];show _+1<=2;omega) (d tg e).1 (λc hc=>(L0.mp hc).elim ((d tg e).2 c) (λz=>by rw[EF.mp z];exact w4));rw[i5];exact Rp.t h6 ((C.same s6).snoc (X.same s6))
 .ext;intro r4 H4 a3 a2 x4;obtain⟨sp,a9,rfl⟩:∃q:Nat,q<2/\r4=q:=#[r4.toNat,(),()];have m:=g.trans x4;have az:=B.kt (m.kt y);ext p5 H5 D h5;rw[iL]at h5;have p:=m.same D;have ap:=p.2;ext J H6 k6 x6 r6 w6;have ad:=p.trans x6;have ar:=h5.kt (x6.kt ap);ext p7 an;have s7:=ae an (.tup [J]);have h7:cP K (upd H6 p7 (.tup [J])) p7 [J]:=cP.of af;have aq:=ar.same s7;have W:=r6.same s7;have O:=ad.same s7;generalize upd H6 p7 (.tup [J])=H7 at s7 h7 aq W O|-;have l7:(j.take sp).length+[J].length<=mH:=small (by rw[I0];show _+1<=_;omega);ext p8 H8 s8 h8;have N:=O.same s8;have ay:=B.kt (N.kt y);have ec:ju j (some ((sp:Int)+1)) none=j.drop (sp+1):=by rw[show(sp:Int)+1=((sp+1:Nat):Int) by omega,qH]
  ext p9 H9 s9 h9;rw[ec]at h9;have be:=h8.same s9;have l9:(j.take sp++[J]).length+(j.drop (sp+1)).length<=mH:=small (by rw[i4,I0,N7];show _+1+_<=_;omega);ext a7 bh T as;have M:=(N.same s9).same T;refine fin (ks:=tg.2.take sp++[k6]++tg.2.drop (sp+1)) M ?_ (by rw[i4,i4,I0,N7];show _+1+_<=2;omega) (d tg e).1 (λc hc=>(L0.mp hc).elim (λhc=>(L0.mp hc).elim (λh=>(d tg e).2 c (Oc h)) (λz=>by rw[EF.mp z];exact w6)) (λh=>(d tg e).2 c (OU h)));rw[i5,i5,Po,Rz];exact Rp.t as (bO.Jd (I.kt (M.kt y)) (W.same ((s8.trans s9).trans T)) sp)
def AG(K:bN):Sp:=λm H Q _=>∃(f:Addr) (v:V) (j:Str) (d:Df),m=[.ref f,v,.str j]/\cM H f/\Rp K H (jl d) v/\d.2.1.length<=3/\Wo j/\G0 d/\∀(l:V) (g:Hp) (e:Df),Ext f H g->Rp K g (jl e) l->e.2.2=d.2.2->e.2.1.length<=3->G0 e->Q l g
def D9(Q:VK)(d:Str)(g:Addr)(e:V)(H:Hp):Prop:=∀p,H p=none->Q (.ref p) (upd H p (.tup [.str d,.ref g,e]))
theorem aR :Nm Vd (ak dJ):=by decide
theorem cU :Lm Vd (ak dJ):=by decide
theorem cF :aZ Vd Vq (ak dJ):=by ac_rfl
theorem Gs {P:IF}{w:Nn}{K:bN}{mg:Str->Option eF}{base:Heap}{gT gO:Addr}{tfd ofd:L1}{f:Addr}{cdv:eF}{A:Nx}{outer:List OJ}{s:fy}{H1:Hp}{E:XK}(TK:eL P w K mg base "_law_take" 1 U7 cC gT tfd)(ax:eL P w K mg base "_law_other_kind" 2 VM (rV K) gO ofd)(B:mg "len"=none)(C:mg "int"=none)(hr:di 2 (A.deeper (Np "_law_other_head" (ak dJ) s.heap.objs.size f cdv))){D:L2.Ends}{H:Hp}{fe pa:Addr}{fm:Int}{o1 o7 o8 o9 o10:Option V}{wd:Str}{tv:V}{d:Df}(hf:cM H fe)(rp:Rp K H (.t (d.2.1.map wA)) (.ref pa))(rt:Rp K H (enc d.2.2) tv)(l1:0<d.2.1.length)(l3:d.2.1.length<=3)(hwd:Wo wd)(dw:G0 d)(k:∀(v':V) (H':Hp) (d':Df),Ext fe H H'->Rp K H' (jl d') v'->d'.2.2=d.2.2->d'.2.1.length<=3->G0 d'->D.rt v' H'):
  ja (Zi gy Vd "_law_other_head" (ak dJ) H1).nN ((bh dJ).drop 3) D [some (.ref fe),o1,some (.str wd),some (.str d.1),some (.ref pa),some tv,some (.int fm),o7,o8,o9,o10] H:=by
 refine d7 ((Z5 (Z4 cF.nd cU 7 (Z0 TK (Z1 (va aR 0) (Z1 (Z2 aJ B Nl (Zc (va aR 4))) aA)))) (Z5 (Zp (iI aP (va aR 4) (va aR 7) (λ_ _=>rfl)) (Z9 (2) (Ze (ga cF.nd cU 8) (Zs (ga cF.nd cU 9))))) (Z5 (Z4 cF.nd cU 10 (Zk bx (Zt (Z1 (Zl (Z1 (va aR 2) (Zc (va aR 9)))) (Z1 (Zl (Z1 (va aR 8) (Z1 (Z0 ax (Z1 (va aR 0) (Zc (va aR 2)))) aA))) aA))) (Z7 iH C OF (Z1 (jo pJ (va aR 6) aC (bI _)) aA)))) (Zd (Zu (Zl (Z1 (va aR 3) (Z1 (Zm jA (Zm jA (@dX _ _ _ _ _ _ _ _ _ _ ku (va aR 4) eY (dj (va aR 7))) (Zl (Zc (va aR 10)))) (@dX _ _ _ _ _ _ _ _ _ _ ku (va aR 4) (@dj _ _ _ (bS dR (va aR 7) aC)) eY)) (Zc (va aR 5))))))))))) ?_
 right
 right
 have(_,l,e,W,M):=id rp.aS
 cases e
 have al:=M.length;rw[bM]at al;have l0:(0:Int)<(l.length:Int):=()
 have lb:(l.length:Int)<1073741824:=()
 ext r2 H2 a4 a3 x2;obtain⟨g,a9,rfl⟩:∃q:Nat,q<l.length/\r2=q:=#[r2.toNat,(),()];have k2:=x2.kt hf;have a0:=W.kt k2;have v:g<d.2.1.length:=()
 have(xv,am,Q):=M.get (i:=g) (x:=wA d.2.1[g]) (by rw[xn,my v];rfl);have L:=dw.2 d.2.1[g] (NT v);generalize d.2.1[g]=pp at Q L;have av:eK l (g:Int)=some xv:=aH am;have(ga,u1,u2,rfl,aw,q1,q2):=(show Rp K H (.t [.s pp.1,jI pp.2]) xv from Q).t2;obtain rfl:=q1.aM;have a2:=aw.kt k2;have aj:=q2.kt k2;have a8:=x2.2;ext r Z;have s3:=ae Z (.tup [.str wd,u2]);have r3:Rp K (upd H2 r (.tup [.str wd,u2])) (wA (wd,pp.2)) (.ref r):=Rp.new (K:=K) (xs:=[.s wd,jI pp.2]) Z (.cons .s (.one aj));have J:=x2.same s3;generalize upd H2 r (.tup [.str wd,u2])=H3 at s3 r3 J|-;have ap:=J.2;ext v4 H4 k4 x4 r4 w4;have ah:=r3.kt (x4.kt ap);have aa:=J.trans x4;ext p Y;have s5:=ae Y (.tup [.str pp.1,v4]);have r5:Rp K (upd H4 p (.tup [.str pp.1,v4])) (wA (pp.1,k4)) (.ref p):=Rp.new (K:=K) (xs:=[.s pp.1,jI k4]) Y (.cons .s (.one r4));have T:=ah.same s5;generalize upd H4 p (.tup [.str pp.1,v4])=H5 at s5 r5 T|-;ext l6 ao;have s6:=ae ao (.lst [.ref r,.ref p]);have h6:bQ K (upd H5 l6 (.lst [.ref r,.ref p])) l6 [.ref r,.ref p]:=bQ.of af;have R:=r5.same s6;have S:=T.same s6;have I:=(aa.same s5).same s6;generalize upd H5 l6 (.lst [.ref r,.ref p])=H6 at s6 h6 R S I|-
 obtain⟨m,y,ba,ag,ab⟩:∃m y,eK [V.ref r,V.ref p] (if decide (fm>1)=true then 1 else 0)=some (.ref m)/\Rp K H6 (wA y) (.ref m)/\Wo y.1/\yC y.2:=by
  by_cases c:fm>1
  .rw[if_pos (decide_eq_true c)];exact#[_,_,aH (j:=1) rfl,R,L.1,w4]
  .rw[if_neg (by rw[decide_eq_false c];exact Nq)];exact#[_,_,aH (j:=0) rfl,S,hwd,L.2]
 ext;refine .inr #[_,rfl,?_];have U:=W.kt (I.kt hf);ext p7 H7 s7 h7;rw[iL]at h7;ext p8 an;have s8:=ae an (.tup [.ref m]);have h8:cP K (upd H7 p8 (.tup [.ref m])) p8 [.ref m]:=cP.of af;have aq:=h7.same s8;generalize upd H7 p8 (.tup [.ref m])=H8 at s8 h8 aq|-;have l8:(l.take g).length+[V.ref m].length<=mH:=small (by rw[I0];show _+1<=_;omega);ext p9 H9 s9 h9;have N:=(s7.trans s8).trans s9;have az:=U.same N;have ec:ju l (some ((g:Int)+1)) none=l.drop (g+1):=by rw[show(g:Int)+1=((g+1:Nat):Int) by omega,qH]
 ext a6 bb O as;rw[ec]at as;have a1:=h9.same O;have a7:(l.take g++[V.ref m]).length+(l.drop (g+1)).length<=mH:=small (by rw[i4,I0,N7];show _+1+_<=_;omega);ext X ay ad ar;have o:=(N.trans O).trans ad;have G:=I.same o
 have ai:Rp K ay (.t ((d.2.1.take g++[y]++d.2.1.drop (g+1)).map wA)) (.ref X):=by
  refine Rp.t ar ?_;rw[i5,i5,Po,Rz];exact bO.Jd (M.kt (G.kt hf)) (ag.same o) g
 ext a5 u;have ac:=ae u (.tup [.str d.1,.ref X,tv]);refine k _ _ (d.1,d.2.1.take g++[y]++d.2.1.drop (g+1),d.2.2) (G.same ac) (Rp.new (K:=K) (xs:=[.s d.1,.t ((d.2.1.take g++[y]++d.2.1.drop (g+1)).map wA),enc d.2.2]) u (.cons .s (.cons ai (.one (rt.kt (G.kt hf)))))) rfl ?_ #[dw.1,λq hq=>(L0.mp hq).elim (λhq=>(L0.mp hq).elim (λh=>dw.2 q (Oc h)) (λz=>by rw[EF.mp z];exact ab)) (λh=>dw.2 q (OU h))];show(d.2.1.take g++[y]++d.2.1.drop (g+1)).length<=3;rw[i4,i4,I0,N7];show _+1+_<=3;omega
theorem DW (F:jq K "_law_other_head" "_law_other_head" dJ f O)(U:eL P w K mg base "_law_take" 1 U7 cC gT tfd)(J:eL P w K mg base "_law_other_kind" 2 VM (rV K) gO ofd)(e:mg "len"=none)(g:mg "int"=none):cA P w K mg base gy 3 f O Vq (AG K):=by
 refine F.ok cF (λZ H Q E h=>?_) (λcdv A outer s H Z Q E hr h=>?_)
 .have(_,_,_,_,rfl,_):=h;rfl
 have(fe,v,j,d,rfl,hf,r,l3,o,R,k):=h;refine#[_,(Z5 (Zp (va aR 1) (Z9 (3) (Ze (ga cF.nd cU 3) (Ze (ga cF.nd cU 4) (Zs (ga cF.nd cU 5)))))) (Z5 (Z4 cF.nd cU 6 (Z0 U (c8 (va aR 0) (Zc aC)))) (Z5 (Zb (PW.pt (@pq _ _ _ _ _ _ _ (Zo bV (va aR 6) aC) (@oM _ _ _ _ (Zh bV (Z2 aJ e Nl (Zc (va aR 4))) aC (bI _))))) (Zd (Zu (Zl (Z1 (va aR 2) (Z1 (va aR 4) (Zc (va aR 5)))))))) cK))),?_]
 right
 right
 have(da,w1,w2,u,rfl,ac,g1,I,N):=(show Rp K H (.t [.s d.1,.t (d.2.1.map wA),enc d.2.2]) v from r).t3;obtain rfl:=g1.aM;have(D,y,rfl,B,C):=id I.aS;have G:=C.length;rw[bM]at G;refine tI ?_;intro N1 N2 N3 c1 c2 S;ext fm W ab aa q;have m:=q.kt hf;have L:=B.kt m
 have l:D9 Q j D u W:=λp M=>by
  have s4:=ae M (.tup [.str j,.ref D,u]);exact k _ _ (j,d.2) (q.same s4) (Rp.new (K:=K) (xs:=[.s j,.t (d.2.1.map wA),enc d.2.2]) M (.cons .s (.cons (I.kt m) (.one (N.kt m))))) rfl l3 #[o,R.2]
 have rest:0<d.2.1.length->N3 [some (.ref fe),some (.ref da),some (.str j),some (.str d.1),some (.ref D),some u,some (.int fm),none,none,none,none] W:=λl1=>Cut.go S (Gs U J e g hr q.2 (I.kt m) (N.kt m) l1 l3 o R λv' H' d' X r' e' l' Y=>k v' H' d' (q.trans X) r' e' l' Y);clear S;ext;refine bW (λc=>?_) (λc=>?_)
 .ext;exact l
 ext
 by_cases T:y.length=0
 .rw[show decide (V.int (y.length:Int)=V.int 0)=true by rw[T];rfl];ext;exact l
 .rw[show decide (V.int (y.length:Int)=V.int 0)=false from decide_eq_false λz=>T (by have:=V.int.inj z;omega)];ext;exact rest ()
theorem bO.Jf {K:bN}{H:Hp}{x:T}{u:V}:∀{xs:List T}{us:List V}(_:bO K H xs us) (_:Rp K H x u) (i:Nat),bO K H (xs.set i x) (us.set i u)
 | [],us,r,_,_=>by rw[r.ji];exact .nil
 |y::r,us,h,ru,i=>by
  have(v,d,rfl,g,h):=h.inv
  cases i with
  |zero=>exact .cons ru h
  |succ i=>exact .cons g (bO.Jf h ru i)
theorem aL :Nm Va (ak fQ):=by decide
theorem fY :Lm Va (ak fQ):=by decide
theorem eg :aZ Va VP (ak fQ):=by ac_rfl
theorem Jg {K:bN}{mg:Str->Option eF}{f:Addr}{cdv:eF}{A:Nx}{outer:List OJ}{s:fy}{B:Hp}{E:XK}(d:mg "tuple"=none)(hr:di 3 (A.deeper (Np "_law_changed" (ak fQ) s.heap.objs.size f cdv))){D:L2.Ends}{H:Hp}{lk ld:Addr}{o0 o1 o2 o5 o6 o7 o8 o9 o10 o11:Option V}{kl:Kl}{dl:List Df}{kvs dvs:List V}(hk:H lk=some (.lst kvs))(hd:H ld=some (.lst dvs))(rk:bO K H (kl.map gZ) kvs)(rd0:bO K H (dl.map jl) dvs)(k:∀(u:V) (r:Hp),aT H r->Rp K r (.t [.t (kl.map gZ),.t (dl.map jl)]) u->D.rt u r):
  ja (Zi gy Va "_law_changed" (ak fQ) B).nN ((bh fQ).drop 5) D [o0,o1,o2,some (.ref lk),some (.ref ld),o5,o6,o7,o8,o9,o10,o11] H:=by
 refine d7 ((Zd (Zu (Zl (Z1 (Z7 cQ d N8 (Zc (va aL 3))) (Z1 (Z7 cQ d N8 (Zc (va aL 4))) aA)))))) ?_
 right
 right
 ext;refine .inl #[bQ.of hk,λy m=>?_];have p:=ae m (.tup kvs);have r2:=Rp.new (K:=K) m rk;have o:=p _ _ hd;have e:=rd0.same p;generalize upd H y (.tup kvs)=H2 at p r2 o e|-;ext;refine .inl #[bQ.of o,λv l=>?_];have q:=ae l (.tup dvs);have r3:=Rp.new (K:=K) l e;have g:=r2.same q;generalize upd H2 v (.tup dvs)=H3 at q r3 g|-;ext C j;have z:=ae j (.tup [.ref y,.ref v]);exact k _ _ ((p.trans q).trans z) (Rp.new (K:=K) (xs:=[.t (kl.map gZ),.t (dl.map jl)]) j (.cons g (.one r3)))
def vD(K:bN):Sp:=λr H Q _=>∃(f j:Addr) (v:V) (o:Kl) (q:List Df) (g:List Str) (z p:Nat),r=[.ref f,v,.ref j]/\cM H f/\Rp K H (.t [.t (o.map gZ),.t (q.map jl)]) v/\yD z p o q/\H j=some (.lst (g.map V.str))/\j≠f/\1<=g.length/\g.length<=100/\(∀x∈g,Wo x) /\
 ∀(m:V) (l:Hp) (d:Kl) (e:List Df),Ext f H l->Rp K l (.t [.t (d.map gZ),.t (e.map jl)]) m->yD (z+2) (p+1) d e->Q m l
theorem zx (F:jq K "_law_changed" "_law_changed" fQ f fd)(TK:eL P w K mg base "_law_take" 1 U7 cC gT tfd)(b0:eL P w K mg base "_law_other_kind_row" 3 Vq (AF K) gR rfd)(b1:eL P w K mg base "_law_other_head" 3 Vq (AG K) gH hfd)(y:mg "len"=none)(D:mg "list"=none)(M:mg "tuple"=none):cA P w K mg base gy 4 f fd VP (vD K):=by
 refine F.ok eg (λvs H Q E h=>?_) (λcdv A outer s H vs Q E hr h=>?_)
 .have(_,_,_,_,_,_,_,_,rfl,_):=h;rfl
 have(fe,lw,v,kl,dl,ws,z,dp,rfl,L,r,O,bl,bh,w1,b2,bb,k):=h;refine#[_,(Z5 (@yG _ _ (3) (4) _ _ _ _ _ _ _ _ _ _ _ rfl eg.nd rfl rfl (by decide) rfl rfl (Z1 (Z7 iS D O1 (Z1 (Z8 aP (va aL 1)) aA)) (Z1 (Z7 iS D O1 (Z1 (Z8 aP (va aL 1)) aA)) aA)) (by rfl) (by rfl)) (Z5 (Z4 eg.nd fY 5 (Zk bx (va aL 2) (Z0 TK (Z1 (va aL 0) (Z1 (Z2 aJ y Nl (Zc (va aL 2))) aA))))) (Z5 (Z4 eg.nd fY 6 (Z0 TK (c8 (va aL 0) (Zc aC)))) (Z5 (Z4 eg.nd fY 7 (Z0 TK (Z1 (va aL 0) (Z1 (Z2 aJ y Nl (Zc (va aL 4))) aA)))) (Z5 (@kL _ _ _ _ _ _ _ _ (PW.pt (@gz _ _ _ _ _ _ _ (Zo mS (va aL 6) aC) (@fz _ _ _ _ (Zh pJ (Z2 aJ y Nl (Zc (va aL 3))) aC (bI _))))) (Z5 (Z4 eg.nd fY 8 (Z0 TK (Z1 (va aL 0) (Z1 (Z2 aJ y Nl (Zc (va aL 3))) aA)))) (Zd (Zp (Z0 b0 (Z1 (va aL 0) (Z1 (iI bx (va aL 3) (va aL 8) (λ_ _=>rfl)) (Zc (va aL 5))))) (mR (va aL 3) (va aL 8) set_list)))) (Zd (@kL _ _ _ _ _ _ _ _ (Zo mS (va aL 6) aC) (Zd (Zp (Z0 b1 (Z1 (va aL 0) (Z1 (iI bx (va aL 4) (va aL 7) (λ_ _=>rfl)) (Zc (va aL 5))))) (mR (va aL 4) (va aL 7) set_list))) (Z5 (Zp (iI bx (va aL 4) (va aL 7) (λ_ _=>rfl)) (Z9 (3) (Ze (ga eg.nd fY 9) (Ze (ga eg.nd fY 10) (Zs (ga eg.nd fY 11)))))) (Zd (Zp (Zl (Z1 (va aL 9) (Z1 (va aL 10) (Z1 (Zl (Z1 aG (Z1 (va aL 5) (Z1 (Zl (Z1 aG (Zc (va aL 5)))) (Zc (va aL 11)))))) aA)))) (mR (va aL 4) (va aL 7) set_list))))))) cK))))),?_]
 right
 right
 have(pa,u1,u2,rfl,bg,g1,g2):=r.t2;have(ka,j,rfl,bi,R):=g1.aS;have(da,l,rfl,bv,ac):=g2.aS;have lk:=R.length;rw[bM]at lk;have ld:=ac.length;rw[bM]at ld;refine tK ?_;intro N1 N2 N3 N4 N5 c1 c2 c3 c4 c5
 have n1:∀{i:Nat},i<j.length->vL j.length (i:Int)=some i:=λ{i} h=>by
  unfold vL;simp;omega
 have cv:nT K true H ka j:=bi;ext p S;have s2:=ae S (.lst j);have aq:upd H p (.lst j) p=some (.lst j):=af;have aw:=bg.same s2;have a9:=bv.same s2;have I:=bB L S;generalize upd H p (.lst j)=H2 at s2 aq aw a9|-;ext o G;have s3:=ae G (.lst l);have ap:upd H2 o (.lst l) o=some (.lst l):=af;have ao:=s3 _ _ aq;have J:=bB (L.same s2) G;have ax:p≠o:=ay aq G;have Z:=s2.trans s3;have bo:=L.same Z;have ag:=Z _ _ bl;generalize upd H2 o (.lst l)=H3 at s3 ap ao Z bo ag|-;have b4:(0:Int)<((ws.map V.str).length:Int):=by rw[bM];omega
 have b3:((ws.map V.str).length:Int)<1073741824:=by rw[bM];omega
 ext r4 H4 bf be x4;have b6:=x4.1 _ _ bh ag;have(v4,cn,bk):=oV (xs:=ws.map V.str) bf be;have(u,bj,rfl):=NI.mp bk;have a0:=bb u bj;have cs:=x4.2;ext fm H5 cz cy x5;have aj:=x4.trans x5;have cx:=aj.1 _ _ J ap;have cw:=aj.1 _ _ I ao;have cr:=x5.2;have d1:=O.d1;have d3:=O.d3;have cl:(0:Int)<(l.length:Int):=()
 have ck:(l.length:Int)<1073741824:=()
 ext r6 H6 cg ce x6;obtain⟨m,cu,rfl⟩:∃q:Nat,q<l.length/\r6=q:=#[r6.toNat,(),()];have ai:=aj.trans x6;have ab:=ai.1 _ _ J ap;have an:=ai.1 _ _ I ao;have cq:=x6.2;have U:Ext fe H H6:=((Ext.refl L).same Z).trans ai;have az:=U.kt L;have b5:=R.kt az;have ba:=ac.kt az;have a4:H p=none:=S;have a5:H o=none:=s2.free G;have k3:=O.k3
 have fin:∀{B:Hp}{kvs' dvs':List V}{kl':Kl}{dl':List Df}{o8 o9 o10 o11:Option V},Ext fe H B->B p=some (.lst kvs')->B o=some (.lst dvs')->bO K B (kl'.map gZ) kvs'->bO K B (dl'.map jl) dvs'->yD (z+2) (dp+1) kl' dl'->N5 [some (.ref fe),some (.ref pa),some (.ref lw),some (.ref p),some (.ref o),some (.str u),some (.int fm),some (.int m),o8,o9,o10,o11] B:=λ{B kvs' dvs' kl' dl' o8 o9 o10 o11} x' h1 h2 r1 r2 b=>by
  refine Cut.go c5 ?_;exact Jg M hr h1 h2 r1 r2 λv' H2 s2 r2=>k v' H2 kl' dl' (x'.same s2) r2 b
 clear c5
 have bnd:∀d∈dl,Wn d.2.2/\Ta d.2.2/\d.2.2.size<=z+2/\d.2.2.depth<=dp+1/\d.2.1.length<=3:=λd hd=>by
  have(a,b,c,e,g):=O.dd d hd;exact#[a,b,(),(),g]
 have ah:m<dl.length:=()
 have ix:vL l.length (m:Int)=some m:=by
  unfold vL;simp;omega
 have uA:∀{B:Hp}{v':V}{d':Df}{o8 o9 o10 o11:Option V},Ext fe H B->B p=some (.lst j)->B o=some (.lst l)->Rp K B (jl d') v'->(Wn d'.2.2/\Ta d'.2.2/\d'.2.2.size<=z+2/\d'.2.2.depth<=dp+1/\d'.2.1.length<=3)->G0 d'->N5 [some (.ref fe),some (.ref pa),some (.ref lw),some (.ref p),some (.ref o),some (.str u),some (.int fm),some (.int m),o8,o9,o10,o11] (upd B o (.lst (l.set m v'))):=λ{B v' d' o8 o9 o10 o11} x' h1 h2 r' b bw'=>by
  have k7:Kt B (upd B o (.lst (l.set m v'))):=Kt.lst h2 _;have x7:Ext fe H (upd B o (.lst (l.set m v'))):=((Ext.sX L x':dZ [] fe H B).Cz a5 J h2).ex;refine fin (kvs':=j) (dvs':=l.set m v') (kl':=kl) (dl':=dl.set m d') x7 (by rw[au ax];exact h1) af ((R.kt (x'.kt L)).kt k7) ?_ #[k3,O.kt,by rw[RJ];exact d1,by rw[RJ];exact d3,λd hd=>?_,λd hd=>?_]
  .rw[List.map_set];exact bO.Jf ((ac.kt (x'.kt L)).kt k7) (r'.kt k7) m
  .rcases Qz hd with h|h
   .exact bnd d h
   .rw[h];exact b
  .rcases Qz hd with h|h
   .exact O.dw d h
   .rw[h];exact bw'
 have(dv,br,as):=ba.get (i:=m) (x:=jl dl[m]) (by rw[xn,my ah];rfl);have al:dl[m]∈dl:=NT ah;generalize dl[m]=d0 at as al;have(bw,bt,bs,bd,bp):=O.dd d0 al;have bz:=O.dw d0 al;have av:eK l (m:Int)=some dv:=aH br;refine Cut.go c4 ?_;clear c4;refine GR (fm<3/\0<j.length) (λC ct cf=>?_) (λc=>?_) (λc=>?_)
 .ext;refine bW (λc=>?_) (λc=>?_)
  .ext
   by_cases z0:0<j.length
   .rw[show decide ((j.length:Int)>0)=true from decide_eq_true ()];exact ct #[of_decide_eq_true c,z0]
   .rw[show decide ((j.length:Int)>0)=false from decide_eq_false ()];exact cf (λw=>z0 w.2)
  .exact cf (λw=>c (decide_eq_true w.1))
 .have cj:(0:Int)<(j.length:Int):=()
  have ci:(j.length:Int)<1073741824:=()
  ext r7 H7 cd cc x7;obtain⟨sp,co,rfl⟩:∃q:Nat,q<j.length/\r7=q:=#[r7.toNat,(),()];have ak:=U.trans x7;have a8:=x7.1 _ _ I an;have bu:=x7.1 _ _ J ab;have ad:sp<kl.length:=()
  have(kv,bm,bc):=(R.kt (ak.kt L)).get (i:=sp) (x:=gZ kl[sp]) (by rw[xn,my ad];rfl);have bn:kl[sp]∈kl:=NT ad;have kb:Eb kl[sp]:=O.kt _ bn;generalize kl[sp]=k0 at bc kb;have c0:eK j (sp:Int)=some kv:=aH bm
  have cm:vL j.length (sp:Int)=some sp:=by
   unfold vL;simp;omega
  have cp:=ak.2;have ca:bQ K H7 p j:=bQ.of a8;ext v8 H8 k8 x8 r8 b8;have N:=ak.trans x8;have aa:=x8.1 _ _ I a8;have am:=x8.1 _ _ J bu;have k9:Kt H8 (upd H8 p (.lst (j.set sp v8))):=Kt.lst aa _;have x9:Ext fe H (upd H8 p (.lst (j.set sp v8))):=((Ext.sX L N:dZ [] fe H H8).Cz a4 I aa).ex;ext;refine fin (kvs':=j.set sp v8) (dvs':=l) (kl':=kl.set sp k8) (dl':=dl) x9 af (by rw[au ax.symm];exact am) ?_ ((ac.kt (N.kt L)).kt k9) #[by rw[RJ];exact k3,λq T=>?_,d1,d3,bnd,O.dw]
  .rw[List.map_set];exact bO.Jf ((R.kt (N.kt L)).kt k9) (r8.kt k9) sp
  .rcases Qz T with h|h
   .exact O.kt q h
   .rw[h];exact b8
 .have cb:bQ K H6 o l:=bQ.of ab;ext;refine bW (λc5=>?_) (λc5=>?_)
  .ext;intro v8 H8 d8 x8 r8 e8 l8 w8;have N:=U.trans x8;have aa:=x8.1 _ _ I an;have am:=x8.1 _ _ J ab;have fd:=uA (o8:=none) (o9:=none) (o10:=none) (o11:=none) N aa am r8 (by rw[e8];exact#[bw,bt,(),(),l8]) w8;ext;exact fd
  .have(qa,b7,X,W,rfl,ch,q1,q2,q3):=(show Rp K H6 (.t [.s d0.1,.t (d0.2.1.map wA),enc d0.2.2]) dv from as).t3;obtain rfl:=q1.aM;ext p7 a3;have s7:=ae a3 (.tup [.str "name",.str u]);have r7:Rp K (upd H6 p7 (.tup [.str "name",.str u])) (enc (.mk (.name u) [])) (.ref p7):=by rw[cY];exact Rp.new (K:=K) a3 (.cons .s (.one .s))
   generalize upd H6 p7 (.tup [.str "name",.str u])=H7 at s7 r7|-;ext p8 a2;have s8:=ae a2 (.tup [.str "let",.str u,.ref p7,W])
   have r8:Rp K (upd H7 p8 (.tup [.str "let",.str u,.ref p7,W])) (enc (.mk (.lt u) [.mk (.name u) [],d0.2.2])) (.ref p8):=by
    rw[cY];exact Rp.new (K:=K) a2 (.cons .s (.cons .s (.cons r7 (.one (q3.same s7)))))
   generalize upd H7 p8 (.tup [.str "let",.str u,.ref p7,W])=H8 at s8 r8|-;ext p9 a1;have s9:=ae a1 (.tup [.str d0.1,X,.ref p8]);have r9:Rp K (upd H8 p9 (.tup [.str d0.1,X,.ref p8])) (jl (d0.1,d0.2.1,.mk (.lt u) [.mk (.name u) [],d0.2.2])) (.ref p9):=Rp.new (K:=K) (xs:=[.s d0.1,.t (d0.2.1.map wA),enc (.mk (.lt u) [.mk (.name u) [],d0.2.2])]) a1 (.cons .s (.cons ((q2.same s7).same s8) (.one r8)));have Y:=(s7.trans s8).trans s9;have a6:=Y _ _ an;have a7:=Y _ _ ab;have ar:=U.same Y;generalize upd H8 p9 (.tup [.str d0.1,X,.ref p8])=H9 at s9 r9 Y a6 a7 ar|-;have fd:=uA (o8:=none) (o9:=some (.str d0.1)) (o10:=some X) (o11:=some W) ar a6 a7 r9 #[?_,?_,?_,?_,bp] bz
   .ext;exact fd
   .refine .mk rfl ?_ ?_
    .intro b hb;have hb:b∈[[],[u]]:=hb;simp only[Nc,NB,or_false]at hb;rcases hb with rfl|rfl
     .exact Nu _
     .show 1<=5;decide
    .intro q T;simp only[Nc,NB,or_false]at T;rcases T with rfl|rfl
     .exact .mk rfl (λb hb=>by cases hb) (λ_ h=>nomatch h)
     .exact bw
   .refine .mk (ig λ_ z=>nomatch z) True.intro ?_
    intro q T;simp only[Nc,NB,or_false]at T;rcases T with rfl|rfl
    .exact .mk (ig λ_ z=>nomatch z) a0 (λ_ h=>nomatch h)
    .exact bt
   .show(Tm.mk (.lt u) [.mk (.name u) [],d0.2.2]).size<=z+2;rw[Tm.ik,Tm.eB,Tm.eB,Tm.ik];simp only[Tm.sizes];omega
   .show(Tm.mk (.lt u) [.mk (.name u) [],d0.2.2]).depth<=dp+1;rw[Tm.oU];refine Pw (qO λq T=>?_);simp only[Nc,NB,or_false]at T;rcases T with rfl|rfl
    .rw[Tm.depth];exact Nu _
    .exact bd
def AH(K:bN)(m o cW:Addr):Sp:=λl H Q E=>∃(v:V) (g:Kl) (e:List Df),l=[v]/\Rp K H (.t [.t (g.map gZ),.t (e.map jl)]) v/\wV g/\e.length<=8/\(∀d∈e,Kq d) /\
 (∀f,cy g e=some f->TF m o cW E H f)/\(cy g e=none->∀j,aT H j->Q (.bl true) j)
structure Mg(C:Addr) (H:Hp) (o:Addr) (a:qh) (kl:Kl) (dl:List Df) (i:Nat) (ds:List (Str×Nat)) (gs os:List Int) (H2:Hp):Prop where
 k:hU C H o a kl ds gs os H2
 e:cy kl dl=jB kl ds gs os (dl.drop i)
 d:cH [] (ds.map (·.1))=none
 ld:ds.length<=i
 lg:gs.length<=80*i
 lo:os.length<=10*i
structure M6(C:Addr) (H:Hp) (o:Addr) (a:qh) (kl:Kl) (ds:List (Str×Nat)) (gs gs' os:List Int) (pl:List (List Str×Tm)) (j:Nat) (H1 H2:Hp):Prop where
 k:hU C H o a kl ds gs' os H2
 t:j4 a H1 H2
 e:iN kl ds gs pl=iN kl ds gs' (pl.drop j)
 l:gs'.length<=gs.length+j
theorem bG :Nm Vy (ak iW):=by decide
theorem eu :Lm Vy (ak iW):=by decide
theorem dm :aZ Vy Wb (ak iW):=by ac_rfl
theorem BG (F:jq K "look_names" "look_names" iW f fd)(N:Jr K C)(MK:Mk K C gI)(ak:Kp P w K mg base C "__init__" 2 VI (zZ K C) gI ifd)(B:mg "Known"=some (.ref C))(LO:oh P w K mg base "look_once" 3 We (qK K cT) gO ofd)(LKS:oh P w K mg base "look_kinds" 4 ["kinds"] (zV K cT cN cW) gK kfd)(LPS:oh P w K mg base "look_params" 4 ["params","known"] (yf K C cT cN cW) gP pfd)(PLC:eL P w K mg base "places" 2 ["params","term"] (yj K) gL lfd)(LTM:oh P w K mg base "look_term" 5 Wa (Ah K C cT cN cW) gTm tfd)(z_list:mg "list"=none)(z_len:mg "len"=none):cA P w K mg base (xP P w) 6 f fd Wb (AH K cT cN cW):=by
 refine F.E7 dm (λvs H Q E h=>?_) (λcdv A outer s H vs Q E hr h=>?_)
 .have(_,_,_,rfl,_):=h;rfl
 have(v,q,M,rfl,r,hB,bz,hD,hE,k):=h;refine#[_,(Z5 (Zp (va bG 0) (Z9 (2) (Ze (ga dm.nd eu 1) (Zs (ga dm.nd eu 2))))) (Z5 (Zn (@eJ _ _ _ _ _ _ _ _ _ _ _ _ _ _ _ _ LKS.ok (hr.mono ()) (by left) LKS.at' LKS.kp LKS.bd .nil jy (Zc (va bG 1)) (by decide) (by rfl) (by rfl))) (Z5 (Z4 dm.nd eu 3 (@Em _ _ _ _ _ _ _ _ _ _ _ _ _ _ _ _ _ MK ak.ok (hr.mono ()) (by left) B ak.bd .nil kQ (bJ (va bG 0) aA) (by decide) (by rfl) (by rfl))) (Z5 (Zg (iZ rfl rfl rfl) (cz (va bG 2)) (Z9 (3) (Ze (ga dm.nd eu 4) (Ze (ga dm.nd eu 5) (Zs (ga dm.nd eu 6))))) (Z5 (Zn (@eJ _ _ _ _ _ _ _ _ _ _ _ _ _ _ _ _ LO.ok (hr.mono ()) (by left) LO.at' LO.kp LO.bd .nil jy (Z1 (Zm iT (Z7 (zk rfl) z_list O1 (Z1 (jU (va bG 3) rfl) aA)) (Zt (Zc (va bG 4)))) aA) (by decide) (by rfl) (by rfl))) (Z5 (Zn (@eJ _ _ _ _ _ _ _ _ _ _ _ _ _ _ _ _ LPS.ok (hr.mono ()) (by left) LPS.at' LPS.kp LPS.bd .nil jy (Z1 (va bG 5) (Zc (va bG 3))) (by decide) (by rfl) (by rfl))) (Z5 (Zg (iZ rfl rfl rfl) (@lD _ _ _ _ (Z0 PLC (Z1 (va bG 5) (Zc (va bG 6))))) (Z9 (2) (Ze (ga dm.nd eu 7) (Zs (ga dm.nd eu 8)))) (Zd (Zn (@eJ _ _ _ _ _ _ _ _ _ _ _ _ _ _ _ _ LTM.ok (hr.mono ()) (by left) LTM.at' LTM.kp LTM.bd .nil jy (Z1 (va bG 8) (Z1 (va bG 7) (Zc (va bG 3)))) (by decide) (by rfl) (by rfl))))) (Zd (@pR _ _ _ _ _ _ _ _ _ (gE hr) (jU (va bG 3) rfl) (va bG 4) (Z2 aJ z_len Nl (Zc (va bG 5))) (by rfl))))))) (b9 (cG mQ)))))),?_]
 right
 try dsimp only[qc,qd]
 have hc:=N.c;have n4:=N.mdef;have r0:=id r;have(pa,u1,u2,rfl,bk,g1,g2):=r.t2;have(da,ah,rfl,ai,aj):=g2.aS;have as:=aj.length;rw[bM]at as;have kE:∀f,cO [] [] q=some f->TF cT cN cW E H f:=λf hf=>hE f (by unfold cy;rw[hf]);ext ad H1 s1;have e0:cy q M=jB q [] [] [] M:=by unfold cy;rw[ad]
 have(ar,aq):=rj ad;have r1:=r0.same s1;ext o dx ho a2 az;have s2:aT H1 (upd (upd H1 dx (.own o)) o (.ins C dx [])):=(ae a2 _).trans (ae (by rw[au az.symm];exact ho) _);refine#[H,o,dx,_,q,_,rfl,s1.trans s2,s1.free ho,af,r1.same s2,hB,aq,ar,λH3 a k3=>#[rfl,?_]];have bh:=ai.same k3.sm;have g4:=yb a;ext;refine eX (K:=K) (xs:=ah) (λi I H4=>(∃y4 y5 y6 y7 y8,I=[some (.ref pa),some u1,some (.ref da),some (.ref o),y4,y5,y6,y7,y8])/\∃m O os,Mg C H o a q M i m O os H4) #[#[_,_,_,_,_,rfl],[],[],[],k3,e0,rfl,lj _,Nu _,Nu _] ?_ ?_ ?_
 .rintro i I H4 hi ⟨_,m,O,os,u⟩;exact ai.same u.k.sm
 .rintro i xv I H4 hxv ⟨⟨_,_,_,_,_,rfl⟩,m,O,os,u⟩;have(t,ht,rx):=aj.get' hxv;rw[xn]at ht;have(d,Y,rfl):=we.mp ht;have b7:=(bH.mp Y).1;have(bw,bt,bs,bp):=hD d (Nf Y);have G:=u.e;rw[vy Y]at G;have d4:=kX (x:=d.1) u.d;have(qa,v1,v2,v3,rfl,ap,q1,q2,q3):=(show Rp K H (.t [.s d.1,.t (d.2.1.map wA),enc d.2.2]) xv from rx).t3;obtain rfl:=q1.aM;have bb:=ap.same u.k.sm;have bf:=u.k.ins;have bg:=u.k.dd;have bc:=u.ld;ext l5 a0;generalize hnm:m.map (·.1)=nm at G d4;have a5:(List.map (λe=>kV e.1) (List.map (λ(d:Str×Nat)=>((Sum.inr d.1:Key),V.int (d.2:Int))) m))=nm.map V.str:=by rw[<-hnm,Oa,Oa];rfl
  rw[a5];have bv:nm.length<=8:=by rw[<-hnm,bM];omega
  have s5:=ae a0 (.lst (nm.map V.str));have h5:upd H4 l5 (.lst (nm.map V.str)) l5=some (.lst (nm.map V.str)):=af;generalize upd H4 l5 (.lst (nm.map V.str))=H5 at s5 h5|-;ext p6 aw;have s6:=ae aw (.lst [.str d.1]);have h6:upd H5 p6 (.lst [.str d.1]) p6=some (.lst [.str d.1]):=af;have a3:=s6 _ _ h5;generalize upd H5 p6 (.lst [.str d.1])=H6 at s6 h6 a3|-;have lc:(nm.map V.str).length+([.str d.1]:List V).length<=mH:=small (by rw[bM];show _+1<=_;omega);ext p7 av;have ea:nm.map V.str++[.str d.1]=(nm++[d.1]).map V.str:=by simp
  rw[ea];have s7:=ae av (.lst ((nm++[d.1]).map V.str));have h7:nT K false (upd H6 p7 (.lst ((nm++[d.1]).map V.str))) p7 ((nm++[d.1]).map V.str):=bQ.of af;generalize upd H6 p7 (.lst ((nm++[d.1]).map V.str))=H7 at s7 h7|-;have ao:=(s5.trans s6).trans s7;have k7:=u.k.ext ao;have l7:(nm++[d.1]).length<=500:=by rw[i4];show _+1<=_;omega
  have oE:∀x,cH [] (nm++[d.1])=some x->Told E H7 cT "name" (.str x):=λx T=>by
   rw[d4]at T
   by_cases c:d.1∈nm
   .rw[if_pos c]at T G
    cases T
    exact(hE _ G).same k7.sm
   .rw[if_neg c]at T;cases T
  ext W H8 s8;have c:d.1∉nm:=λc=>by rw[d4,if_pos c]at W;cases W
  rw[if_neg c]at G;have k8:=k7.ext s8;have r8:=q2.same k8.sm;have bn:d.2.1.length<=20:=()
  have bu:os.length+d.2.1.length<=90:=by have:=u.lo;omega
  have pE:∀f,cX (q.map (·.1)) [] os d.2.1=.error f->TF cT cN cW E H f:=λf hf=>hE f (by rw[G,hf]);ext J ax H9 k9 t9 bo;rw[ax]at G
  have D:cy q M=match iN q m O (vj (gj [] (d.2.1.map (·.1))) d.2.2)with
   |.error f=>some f
   |.ok g=>jB q (m++[(d.1,d.2.1.length)]) g J (M.drop (i+1)):=G
  have r9:Rp K H9 (IJ (d.2.1.map λp=>(p.1,jI p.2))) v2:=by
   have:=q2.same k9.sm;unfold IJ;rw[Oa];exact this
  have q9:=q3.same k9.sm;have b8:d.2.2.size<=160:=()
  have bm:(d.2.1.map λp=>(p.1,jI p.2)).length<=50:=by rw[bM];omega
  ext lp Ha ws sa X ha ra;have a6:(d.2.1.map λp=>(p.1,jI p.2)).map (·.1)=d.2.1.map (·.1):=by rw[Oa];rfl
  rw[a6]at ra;generalize hpl:vj (gj [] (d.2.1.map (·.1))) d.2.2=pl at ra D;have bl:pl.length=d.2.2.size:=by rw[<-hpl];exact FE _ _ bw
  have ac:∀p∈pl,LM p:=by
   rw[<-hpl];refine FA bw bt bs _ ?_;have:=nI (d.2.1.map (·.1)) [];rw[bM]at this
   have:(gj [] (d.2.1.map (·.1))).length<=10:=by
    have z:([]:List Str).length=0:=rfl;omega
   omega
  have S:=ra.length;rw[bM]at S;have ka:=k9.ext sa;have R:lp≠a.lG/\lp≠a.lO/\lp≠a.dD:=#[(ay k9.gg X).symm,(ay k9.oo X).symm,(ay k9.dd X).symm];have b5:bQ K Ha lp ws:=bQ.of ha;ext;refine xg (K:=K) (xs:=ws) (λj I Z=>(∃y7 y8,I=[some (.ref pa),some u1,some (.ref da),some (.ref o),some (.str d.1),some v2,some v3,y7,y8])/\∃g,M6 C H o a q m O g J pl j Ha Z) #[#[_,_,rfl],O,ka,j4.refl _ _,rfl,lj _] ?_ ?_ ?_
  .rintro j I Z hj ⟨_,g,y⟩;exact bQ.of (y.t _ _ R.2.2 R.1 R.2.1 ha)
  .rintro j yv I Z hyv ⟨⟨_,_,rfl⟩,g,y⟩;have(t,ht,ry):=ra.get' hyv;rw[xn]at ht;have(p,U,rfl):=we.mp ht;have b6:=(bH.mp U).1;have(ns,tm):=p;have(hd,ks):=tm;have(b1,b2,b3,b4):=ac _ (Nf U);have cd:fc hd ks.length=true:=b1;have cc:tW hd:=b2;have ca:ns.length+5*(Tm.mk hd ks).size<=900:=b4;have cb:(Tm.mk hd ks).size<=80:=b3;have lk:ks.length<=900:=by have:ks.length<_:=Ak (.mk hd ks);omega
   have ln:ns.length<=900:=()
   have eb:=y.e;rw[By U]at eb
   have L:iN q m O pl=match eO q m g ns hd ks.length with
    |.error f=>.error f
    |.ok g=>iN q m g (pl.drop (j+1)):=eb
   have kb:=ka.uz y.t;have(ya,y1,y2,rfl,al,z1,z2):=(show Rp K Ha (.t [.t (ns.map .s),enc (.mk hd ks)]) yv from ry).t2;have a9:=al.kt kb;have bj:=z1.kt kb;have bi:=z2.kt kb;have b0:=y.k;have bx:g.length<=900:=by have h1:=y.l;have h2:=u.lg;omega
   have tE:∀f,eO q m g ns hd ks.length=.error f->TF cT cN cW E H f:=λf hf=>by
    rw[hf]at L;rw[L]at D;exact hE f D
   ext a4 ag Hc kc tc;rw[ag]at L;exact#[#[_,_,rfl],a4,kc,y.t.trans tc,L,by have h1:=yk ag;have h2:=y.l;omega]
  .rintro I Z ⟨⟨_,_,rfl⟩,g,y⟩;have eb:=y.e;rw[S,NL]at eb;rw[eb]at D;have a7:cy q M=jB q (m++[(d.1,d.2.1.length)]) g J (M.drop (i+1)):=D;have(va,aa,rfl,am,an):=q2.aS;have ab:=an.length;rw[bM]at ab;have ba:=am.same y.k.sm;have be:=y.k.ins;have a8:=y.k.dd
   have nw:∀kv∈m.map (λ(d:Str×Nat)=>((Sum.inr d.1:Key),V.int (d.2:Int))),kv.1≠Sum.inr d.1:=λkv a1 z=>by
    have(x,T,rfl):=NI.mp a1;have z':x.1=d.1:=Ow z;exact c (by rw[<-z',<-hnm];exact NY T)
   have dp:nZ Z a.dD (.str d.1) (.int aa.length) (upd Z a.dD (.dK ((m++[(d.1,d.2.1.length)]).map λd=>(Sum.inr d.1,.int d.2)))):=by
    have:=nZ.k (k:=Sum.inr d.1) (v:=.int aa.length) a8 (br (by rw[bM];omega));rw[lT nw]at this;rw[i5];rw[ab]at this|-;exact this
   have fin:Mg C H o a q M (i+1) (m++[(d.1,d.2.1.length)]) g J (upd Z a.dD (.dK ((m++[(d.1,d.2.1.length)]).map λd=>(Sum.inr d.1,.int d.2)))):=by
    refine#[y.k.uA _,a7,?_,?_,?_,?_]
    .rw[i5,hnm];exact W
    .rw[i4];show _+1<=_;omega
    .have h1:=y.l;have h2:=u.lg;rw[S]at h1;omega
    .have h2:=u.lo;omega
   ext;exact fin
 .rintro I H4 ⟨_,m,O,os,u⟩;have G:=u.e;rw[show ah.length=M.length by omega,NL]at G;have fin:=k G H4 u.k.sm;ext;exact fin
end G14
namespace L2
open PySem PySem.Spec PyProof.Rows
theorem BH {St:Nat->Heap->Prop}(W:Walks prog w A.in1 I fp wr n P St)(val:Nat->Int)(p:∀i v,P i v->∃b:Bool,v=.bool b/\val i=if b then 1 else 0)(hn:n<=1000)(S:Addr)(y:S∉fp):
  ∀(k i:Nat) (s:fy) (B:Tok) (c:Nat),n-i=k->i<=n->(0<=QN val i/\QN val i<=i)->St i s.heap->s.heap.get? S=some {cls:=.type "list",dict:=none,data:=.seq #[.int (QN val i) B] c,slots:=#[]} ->
  (∀h' l t',(∀b o,b∉wr->b≠S->s.heap.get? b=some o->h'.get? b=some o)->R (.ok (.ret (.int (QN val n) t'))) {s with heap:=h',toks:=l}) ->
  OW (Nj prog w) A (.builtin "sum.loop" #[[.ref I,.ref S,Qh 0,Qh 0],[]]) R s:=by
 have J:S∉wr:=λh=>y (W.sub _ h);intro k
 induction k with
 |zero =>
  intro i s B c T U Q j C L;have H:i=n:=()
  subst H;refine codeAny_builtin F.entry_sum_loop ?_;rw[TM Rv _];show Nd _ A.in1 (UI (.ref S)>>=_) _ _ s;refine cB (O0 C rfl ?_);show Nd _ A.in1 (tryCatch (Rr (.ref I)) _>>=_) _ _ s;refine cB (wpAny_tryCatch (W.done s _ _ j λh' l d=>?_));exact tF (L h' l B λb o g _ e=>d b o g e)
 |succ k ih =>
  intro i s B c T U Q j C L;have r:i<n:=()
  refine codeAny_builtin F.entry_sum_loop ?_;rw[TM Rv _];show Nd _ A.in1 (UI (.ref S)>>=_) _ _ s;refine cB (O0 C rfl ?_);show Nd _ A.in1 (tryCatch (Rr (.ref I)) _>>=_) _ _ s;refine cB (wpAny_tryCatch (W.item i s _ _ r j λv h' l Y q d=>?_));have(b,rfl,O):=p i v Y;have z:=d S _ J C;have N:0<=val i/\val i<=1:=by rw[O];cases b<;>decide
  have G:0<=QN val (i+1)/\QN val (i+1)<=((i+1:Nat):Int):=by
   show 0<=QN val i+val i/\QN val i+val i<=_;omega
  show Nd _ A.in1 (if(_:Bool)=true then(mkInt (QN val i+(if b then(1:Int)else 0))>>=_)else _) _ _ _;rw[<-O]
  split
  .refine cB (wpAny_mkInt ?_);show Nd _ A.in1 (updateSeq S (λ_=>#[.int (QN val i+val i) l])>>=_) _ _ _;refine cB ?_;refine wpAny_updateSeq z rfl (tF #[plainId_quiet Rv _,ih (i+1) _ l _ () r G (W.frame _ _ _ q λb X o e=>?_) (OR _ z rfl) λM m D t=>?_])
   .exact(Oz _ _ (λh:S=b=>y (by rw[h];exact X))).trans e
   .exact L M m D λb o g u e=>t b o g u ((Oz _ _ (PR u)).trans (d b o g e))
  .rename_i V
   refine absurd ?_ V;show((decide (-(2 ^ 63)<=val i)&&decide (val i<2 ^ 63))&&(decide (-(2 ^ 63)<=QN val i+val i)&&decide (QN val i+val i<2 ^ 63)))=true;simp only[NO,decide_eq_true_eq];omega
theorem BI (h:Nd (Nj prog w) A.in1 (Tq x) (λit d=>∃I l wr n P St val,it=.ref I/\Walks prog w A.in1 I l wr n P St/\St 0 d.heap/\(∀b∈l,b<d.heap.objs.size) /\
   (∀i v,P i v->∃b:Bool,v=.bool b/\val i=if b then 1 else 0)/\n<=1000 /\
   ∀h' m t',(∀b o,b∉wr->d.heap.get? b=some o->h'.get? b=some o)->Q (.int (QN val n) t') {d with heap:=h',toks:=m}) E s):
  Nd (Nj prog w) A (call (.builtin "sum") [x]) Q E s:=by
 refine call_function_tree F.kind_sum F.plain_sum F.entry_sum (F.args_sum1 _) ?_;unfold QZ.«sum»;simp only[Nv,Qf];rw[if_neg (by decide)];refine cB (wpAny_of_eq (show QZ.Builtins.bindParams "sum" ["start"] 0 {}=pure [none]from rfl) ?_);refine cB (NG h (λit d g=>?_) λ_ _ e=>e);have(I,l,wr,n,P,St,val,rfl,W,p,q,j,u,B):=g;refine cB (wpAny_mkInt ?_);refine cB (tF ?_);simp only[QH,Q8];refine cB (cB (cB (Ru (T:="int") (b:=false) (R7 _ _ _) F.sub_int_str ?_)));simp only[PB,if_false];refine tF (cB (cB (Ru (T:="int") (b:=false) (R7 _ _ _) F.sub_int_bytes ?_)));simp only[PB,if_false];refine tF (cB (cB (Ru (T:="int") (b:=false) (R7 _ _ _) F.sub_int_bytearray ?_)));simp only[PB,if_false];refine tF (tF ?_);refine cB (NX ?_);have t:d.heap.objs.size∉l:=λy=>Om _ (q _ y)
 refine tF #[plainId_quiet Rv _,BH W val j u d.heap.objs.size t n 0 _ d.toks 0 rfl (Nu _) #[Int.le_refl _,Int.le_refl _]
  (W.frame _ _ _ p λb _ o e=>pC _ e) (Nh _ rfl) λh' m t' z=>?_]
 exact B h' m t' λb o r e=>z b o r (ND (Na e)) (pC _ e)
noncomputable def Jt(b:Bool):Int:=if b then 1 else 0
theorem qu (bs:List Bool):∀k,QN (λi=>Jt ((bs[i]?).getD false)) k=((bs.take k).map Jt).sum
 |0=>by simp[QN]
 |k+1=>by
  rw[QN,qu bs k]
  by_cases h:k<bs.length
  .rw[mu h,i5,List.sum_append,my h];simp
  .rw[Ol (),Ol (),Rk ()];simp[Jt]
theorem BJ (D:X.calm=true):iQ X (.builtin "sum") (λxs H Q=>∃(p:Addr) (bs:List Bool),xs=[.ref p]/\bQ X.K H p (bs.map V.bl)/\bs.length<=1000/\Q (.int (bs.map Jt).sum) H):=by
 intro m s J H xs L Q I r h;have(p,bs,rfl,z,B,q):=h;have(u,rfl,t):=vals1 r
 cases t
 have(d,o,y,O):=I.list z;have l:=sQ o;have j:=y.isList;have g:p<s.heap.objs.size:=by have(_,e,_):=j;exact Na e
 refine BI (QY j ?_)
 refine#[s.heap.objs.size,[s.heap.objs.size,p],[s.heap.objs.size],d.toArray.size,_,_,λi=>Jt ((bs[i]?).getD false),rfl,Walks.list (A:=X.A.in1) (I.ok.hd D) _ p (ND g) d.toArray,
  #[#[_,Nh _ rfl,rfl,rfl],j.push _],λb hb'=>?_,λi v G=>?_,?_,λR M N C=>?_]
 .show b<(s.heap.push _).objs.size;rw[Oh];rcases Nc.mp hb' with rfl|hb'
  .exact Pp _
  .rcases Nc.mp hb' with rfl|hb'
   .exact Sq g
   .cases hb'
 .have(b,e,rfl):=l.get i v (by simpa using G);exact#[b,rfl,by dsimp only;rw[e];rfl]
 .rw[Nb,l.length];exact B
 .rw[qu,Nb,l.length,Nr];exact#[.int _,H,I.kept (LSm.kept_iter C),#[_,rfl],q]
def Gu:V->List V->Hp->VK->Prop:=λx d H Q=>∃(l:Addr) (bs:List Bool) (c:Bool) (k:Nat),x=.ref l/\d=[.bl c]/\H l=some (.lst (bs.map V.bl))/\bs[k]?=some c/\(∀m,m<k->bs[m]?≠some c)/\Q (.int k) H
noncomputable def eqB(c:Bool):eF->Bool
 |.bool x=>decide (x=c)
 |_=>false
theorem BK :KQ X "list.index" Gu:=by
 intro t s U H x V v W Q I C D h;have(l,bs,c,k,rfl,rfl,R,B,g,q):=h
 cases C
 have(u,rfl,G):=D.one
 cases G
 have(z,J,n,r,Y,e):=I.xu R;have S:=xG r;subst S;have O:k<bs.length:=(bH.mp B).1;have p:k<(bs.map Value.bool).toArray.size:=by rw[Nb,bM];exact O
 have L:bs.length<=mH:=by rw[bM]at z;exact z
 have d:(k:Int)<2 ^ 63-1:=by
  rw[Qo]at L;omega
 refine R8 F.slot_list_index #[_,e,rfl] F.entry_list_index (F.args_list_index_2 _ _)
  (SeqAt.list_indexAt l (bs.map Value.bool).toArray n none #[] (.bool c) (eqB c) k p d ?_ (λm N j=>?_)) #[e,λw M=>?_,?_]
 .rw[TN,Rt,(bH.mp B).2];simp[eqB]
 .have o:m<bs.length:=by rwa [Nb,bM]at N
  rw[TN,Rt];exact decide_eq_false λz=>g m j (by rw[my o,z])
 .have(b,Z,rfl):=NI.mp (List.mem_toArray.mp M);have:=Ca (A:=X.A.in1) (s:=s) (y:=.bl b) (x:=.bl c) rfl rfl rfl rfl;have T:Eu (.bl b) (.bl c)=eqB c (.bool b):=by cases b<;>cases c<;>rfl
  rw[T]at this;exact this
 .exact#[.int k,H,I.tok _,#[_,rfl],q]
theorem DX :mG X (OB .Is) (λx y H Q=>∃a b,x=.bl a/\y=.bl b/\Q (.bl (a == b)) H):=by
 intro d s j H x y v u Q I g e h;have(a,b,rfl,rfl,q):=h
 cases g
 cases e
 exact is_bool (cg I q rfl)
theorem Gv :mG X (OB .IsNot) (λx y H Q=>∃a b,x=.bl a/\y=.bl b/\Q (.bl (!(a == b))) H):=by
 intro d s j H x y v u Q I g e h;have(a,b,rfl,rfl,q):=h
 cases g
 cases e
 exact isnot_bool (cg I q rfl)
def yy(H:Hp):Option (Str×Str)->V->Prop
 |none,v=>v=.bl true
 |some w,v=>∃p,v=.ref p/\H p=some (.lst [.str w.1,.str w.2])
def twOk:Option (Str×Str)->Prop
 |none=>True
 |some w=>(∀c∈w.1.cps.toList,c<1000)/\(∀c∈w.2.cps.toList,c<1000)/\w.1.length<=100/\w.2.length<=100
@[irreducible] noncomputable def Jh:Option (Str×Str)->Str
 |none=>"True"
 |some w=>(PyData.list (T.EN [.s w.1,.s w.2])).shown
theorem BL (m:∀c∈a.cps.toList,c<1000)(l:∀c∈b.cps.toList,c<1000)(l1:a.length<=100)(l2:b.length<=100):GN (.list (T.EN [.s a,.s b])):=by
 have e:T.EN [.s a,.s b]=[.str a,.str b]:=by simp[T.EN,T.py]
 rw[e]
 have d:∀{x:Str},(∀c∈x.cps.toList,c<1000)->(x.cps.toList.all λc=>decide (c<16 ^ 8))=true:=λ{x} h=>by
  rw[NS];intro c j;exact decide_eq_true (Nat.lt_trans (h c j) (by decide))
 have g:(PyData.list [.str a,.str b]).leavesShort 13=true:=by
  show((a.cps.toList.all λc=>decide (c<16 ^ 8))&&((b.cps.toList.all λc=>decide (c<16 ^ 8))&&true))=true;rw[d m,d l];rfl
 refine#[rfl,rfl,(by show max 0 (max 0 0)+1<=100;decide),PyData.shown_fits (B:=13) (by decide) (by decide) g ?_];show a.length+1+(b.length+1+0)<=2 ^ 20;omega
theorem mh (v:X.A.guards=some [])(m:X.A.units+150<Ri):iQ X (.builtin "repr") (λxs H Q=>∃x o,xs=[x]/\yy H o x/\twOk o/\Q (.str (Jh o)) H):=by
 intro d s g H xs j Q I r h;have(x,o,rfl,e,ok,q):=h
 cases o with
 |none =>
  obtain rfl:x=.bl true:=e;unfold Jh at q;have(u,rfl,l):=vals1 r
  cases l
  exact PySem.P.repr_of_bool #[.str _,H,I.tok _,#[_,rfl],q]
 |some w =>
  have(p,rfl,t):=e;have(z,y,l1,l2):=ok;unfold Jh at q;exact yY v m d s g H _ j Q I r #[p,[.s w.1,.s w.2],_,rfl,bQ.of t,.cons .s (.one .s),BL z y l1 l2,q]
end L2
namespace G14
open PySem L2 PyProof.Rows PySem.W
def ET(l m cW:Addr)(kl:Kl)(dl:List Df)(H:Hp):XK:=λd j g=>∃f e,cy kl dl=some f/\d=.ref (oj l m cW f.1)/\j=some e/\aT H g/\g e=some (.xd [("name",.str f.2)])
noncomputable instance:DecidableEq Er:=λa b=>match a,b with
 |.tw,.tw=>isTrue rfl
 |.nn,.nn=>isTrue rfl
 |.wr,.wr=>isTrue rfl
 |.tw,.nn=>isFalse nofun
 |.tw,.wr=>isFalse nofun
 |.nn,.tw=>isFalse nofun
 |.nn,.wr=>isFalse nofun
 |.wr,.tw=>isFalse nofun
 |.wr,.nn=>isFalse nofun
theorem _root_.L2.kH.same {H d:Hp}{x C:Addr}{fs:List (Str×V)}(e:kH H x C fs)(s:aT H d):kH d x C fs:=by
 rcases e with⟨e,h⟩|⟨dx,h1,h2⟩
 .exact .inl #[e,s _ _ h]
 .exact .inr #[dx,s _ _ h1,s _ _ h2]
noncomputable def LR:Er->Nat
 |.tw=>0
 |.nn=>1
 |.wr=>2
structure Mh(K:bN) (cT cN cW G:Addr) (oth:List Addr):Prop where
 sub:∀e,wo K (oj cT cN cW e) G
 g:∀e,Bb K (oj cT cN cW e)
 one:∀e d,RL K (.ref (oj cT cN cW e)) (.ref (oj cT cN cW d))=some (decide (e=d))
 any:∀e,U1 K (.ref (oj cT cN cW e)) (oth.map Value.ref)=some false
 val:∀e,RL K (.ref (oj cT cN cW e)) (.type "ValueError")=some true
 r:∀e,Ik K (oj cT cN cW e) "name"
noncomputable def twF(o:Option Flt):Option (Str×Str):=o.map λf=>(IB f.1,f.2)
def zA(K:bN):Sp:=λm H Q _=>∃(v:V) (g:Kl) (e:List Df),m=[v]/\Rp K H (.t [.t (g.map gZ),.t (e.map jl)]) v/\wV g/\e.length<=8/\(∀d∈e,Kq d) /\
 ∀l j,aT H j->yy j (twF (cy g e)) l->Q l j
theorem dQ :Nm Vw (ak ni):=by decide
theorem jT :Lm Vw (ak ni):=by decide
theorem iO :aZ Vw VR (ak ni):=by ac_rfl
theorem Gw {K:bN}(F:jq K "_law_told" "_law_told" ni f fd)(l:oh P w K mg base "look_names" 6 Wb (AH K cT cN cW) gL lfd)(C:Mh K cT cN cW G [o0,o1,o2,o3,o4,o5])(m_GapError:mg "GapError"=some (.ref G))(m_Twice:mg "Twice"=some (.ref cT))(m_NoName:mg "NoName"=some (.ref cN))(m_WrongCount:mg "WrongCount"=some (.ref cW))(m_BadText:mg "BadText"=some (.ref o0))(m_Clash:mg "Clash"=some (.ref o1))(m_NoGap:mg "NoGap"=some (.ref o2))(m_NoRow:mg "NoRow"=some (.ref o3))(m_TooLong:mg "TooLong"=some (.ref o4))(m_TooMany:mg "TooMany"=some (.ref o5))(z_isinstance:mg "isinstance"=none)(z_ValueError:mg "ValueError"=none)(z_sum:mg "sum"=none)(z_int:mg "int"=none):cA P w K mg base gy 7 f fd VR (zA K):=by
 refine F.MQ iO (λvs H Q E h=>?_) (λcdv A outer s H vs Q E hr h=>?_)
 .have(_,_,_,rfl,_):=h;rfl
 have(v,I,R,rfl,r,hB,ld,hD,kq):=h;have kf:∀f,cy I R=some f->∀S d,aT H d->mK d (some f) S->Q S d:=λf N S d B ft=>kq S d B (by rw[N];exact ft);have ko:cy I R=none->∀d,aT H d->Q (.bl true) d:=λhn d B=>kq _ d B (by rw[hn];exact rfl)
 refine#[_,(qJ (PS.top (sa iO.nd jT 1 gv))
  (qJ (PS.top (sa iO.nd jT 2 gv))
  (qJ (Ip (E':=(ET cT cN cW I R H)) (i:=3) rfl rfl rfl (Zd (Z4 iO.nd jT 2 (@eJ _ _ _ _ _ _ _ _ _ _ _ _ _ _ _ _ l.ok (hr.mono ()) (by left) l.at' l.kp l.bd .nil jy (Zc (va dQ 0)) (by decide) (by rfl) (by rfl)))) (by left) m_GapError iO.nd rfl (by kernel_rfl) (λ_=>(Zd (sa iO.nd jT 1 (va dQ 3)))))
  (qP.top (Z5 (Zb (Zo qC (va dQ 1) gv) (Zd (Zu (Zk bx (Zt (Z1 (Zl (Z1 aG (Zc (va dQ 2)))) (Zc mQ))) (Z7 iH z_int OF (Z1 (jo DX (va dQ 2) mQ (bI _)) aA)))))) (Z5 (Z4 iO.nd jT 4 (Zt (Z1 (Z2 ny z_isinstance OA (Z1 (va dQ 1) (Zc (iz (v:=.ref cT) (by left) m_Twice rfl)))) (Z1 (Z2 ny z_isinstance OA (Z1 (va dQ 1) (Zc (iz (v:=.ref cN) (by left) m_NoName rfl)))) (Z1 (Z2 ny z_isinstance OA (Z1 (va dQ 1) (Zc (iz (v:=.ref cW) (by left) m_WrongCount rfl)))) aA))))) (Z5 (Z4 iO.nd jT 5 (Z2 wu z_isinstance OA (Z1 (va dQ 1) (Z1 (Zl (Z1 (iz (v:=.ref o0) (by left) m_BadText rfl) (Z1 (iz (v:=.ref o1) (by left) m_Clash rfl) (Z1 (iz (v:=.ref o2) (by left) m_NoGap rfl) (Z1 (iz (v:=.ref o3) (by left) m_NoRow rfl) (Z1 (iz (v:=.ref o4) (by left) m_TooLong rfl) (Zc (iz (v:=.ref o5) (by left) m_TooMany rfl)))))))) aA)))) (Z5 (Zb (PW.pt (@pq _ _ _ _ _ _ _ (sr (va dQ 5)) (@pq _ _ _ _ _ _ _ (@yE _ _ _ _ (@sr _ _ _ (Z2 wq z_isinstance OA (Z1 (va dQ 1) (Zc (zD (v:=.ty "ValueError") (by left) z_ValueError (by decide) rfl)))) (by intro _;rfl))) (@oM _ _ _ _ (Zh pI (Z2 (BJ rfl) z_sum PyProof.Rows.boot_sum (Zc (va dQ 4))) aC (bI _)))))) (b9 (cG aG))) (Zd (Zu (Zt (Z1 (Zk bx (Zt (Z1 aG (c8 aG (Zc aG)))) (xr P7 PySem.F.slot_list_index PySem.F.type_list_index BK (va dQ 4) (Zc mQ))) (Zc (CH (va dQ 1))))))))))))))),?_]
 right
 right
 have eE:∀f,cy I R=some f->TF cT cN cW (ET cT cN cW I R H) H f:=λf N q d B h0 h'=>#[f,q,N,rfl,rfl,B,h'];ext
 .ext;intro hn Y Z;have fin:=ko hn;ext y ag;have u:=ae ag (.tup [.str "told",.bl true]);generalize upd Y y (.tup [.str "told",.bl true])=H2 at u|-;ext p2 ad;have t:=ae ad (.lst [.ref y,.bl true]);have X:bQ K (upd H2 p2 (.lst [.ref y,.bl true])) p2 [.ref y,.bl true]:=bQ.of af;have o:=fin _ ((Z.trans u).trans t);generalize upd H2 p2 (.lst [.ref y,.bl true])=H3 at t X o|-;have a1:eK [V.ref y,V.bl true] 1=some (V.bl true):=aH (j:=1) rfl;ext;refine .inr #[_,rfl,?_];ext;exact o
 rintro cls od Y ⟨f,q,N,rfl,rfl,Z,hx⟩;refine#[_,rfl,C.sub f.1,λx J=>?_];have nx:q≠x:=ay hx J;have u:=ae J (.ext (uy x (oj cT cN cW f.1) (some q)));have e2:kH (upd Y x (.ext (uy x (oj cT cN cW f.1) (some q)))) x (oj cT cN cW f.1) [("name",.str f.2)]:=.inr #[q,af,u _ _ hx];generalize upd Y x (.ext (uy x (oj cT cN cW f.1) (some q)))=H2 at u e2|-;have g:=C.g f.1;have k1:RL K (.ref (oj cT cN cW f.1)) (.ref cT)=_:=C.one f.1 .tw;have k2:RL K (.ref (oj cT cN cW f.1)) (.ref cN)=_:=C.one f.1 .nn;have k3:RL K (.ref (oj cT cN cW f.1)) (.ref cW)=_:=C.one f.1 .wr;have k4:=C.any f.1;have k5:=C.val f.1;have k6:=C.r f.1;ext
 first|(intro D L)|(dsimp only[LU,iF,behind,Ends.wn];ext D L)
 have t:=ae L (.lst [.bl (decide (f.1=.tw)),.bl (decide (f.1=.nn)),.bl (decide (f.1=.wr))]);have X:upd H2 D (.lst [.bl (decide (f.1=.tw)),.bl (decide (f.1=.nn)),.bl (decide (f.1=.wr))]) D=some (.lst ([decide (f.1=.tw),decide (f.1=.nn),decide (f.1=.wr)].map V.bl)):=af;have e3:=e2.same t;generalize upd H2 D (.lst [.bl (decide (f.1=.tw)),.bl (decide (f.1=.nn)),.bl (decide (f.1=.wr))])=H3 at t X e3|-;ext W ac;have U:=ae ac (.tup [.ref o0,.ref o1,.ref o2,.ref o3,.ref o4,.ref o5]);have h4:cP K (upd H3 W (.tup [.ref o0,.ref o1,.ref o2,.ref o3,.ref o4,.ref o5])) W ([o0,o1,o2,o3,o4,o5].map V.ref):=cP.of af;have e4:=e3.same U;have p:=U _ _ X;have O:bQ K (upd H3 W (.tup [.ref o0,.ref o1,.ref o2,.ref o3,.ref o4,.ref o5])) D ([decide (f.1=.tw),decide (f.1=.nn),decide (f.1=.wr)].map V.bl):=bQ.of p;have z:=(Z.trans u).trans (t.trans U);generalize upd H3 W (.tup [.ref o0,.ref o1,.ref o2,.ref o3,.ref o4,.ref o5])=H4 at U h4 e4 p O z|-;have l3:[decide (f.1=.tw),decide (f.1=.nn),decide (f.1=.wr)].length<=1000:=by show 3<=1000;decide
 have sm:([decide (f.1=.tw),decide (f.1=.nn),decide (f.1=.wr)].map Jt).sum=1:=by
  have(e,n):=f
  cases e<;>rfl
 have hk:[decide (f.1=.tw),decide (f.1=.nn),decide (f.1=.wr)][LR f.1]?=some true:=by
  have(e,n):=f
  cases e<;>rfl
 have ai:∀m,m<LR f.1->[decide (f.1=.tw),decide (f.1=.nn),decide (f.1=.wr)][m]?≠some true:=by
  have(e,n):=f
  cases e with
  |tw=>intro m M;exact absurd M (Nat.not_lt_zero _)
  |nn =>
   intro m M;obtain rfl:m=0:=Nat.lt_one_iff.mp M;exact nofun
  |wr =>
   intro m M
   match m,M with
   |0,_=>exact nofun
   |1,_=>exact nofun
 have ha:eK [V.str "twice",V.str "noname",V.str "wrong"] (LR f.1)=some (.str (IB f.1)):=by
  have(e,n):=f
  cases e
  .exact aH (j:=0) rfl
  .exact aH (j:=1) rfl
  .exact aH (j:=2) rfl
 have fin:=kf f N;ext;rw[sm];ext p5 ab;have T:=ae ab (.lst [.str "twice",.str "noname",.str "wrong"]);have h5:bQ K (upd H4 p5 (.lst [.str "twice",.str "noname",.str "wrong"])) p5 [.str "twice",.str "noname",.str "wrong"]:=bQ.of af;have ah:=T _ _ p;have e5:=e4.same T;generalize upd H4 p5 (.lst [.str "twice",.str "noname",.str "wrong"])=H5 at T h5 ah e5|-;ext p6 aa;have s6:=ae aa (.lst [.str (IB f.1),.str f.2]);exact fin _ _ ((z.trans T).trans s6) #[p6,rfl,af]
end G14
namespace G14
open PySem L2
theorem bP :Nm Vc (ak iX):=by decide
theorem gm :Lm Vc (ak iX):=by decide
theorem fP :aZ Vc VR (ak iX):=by ac_rfl
theorem uq {P:IF}{w:Nn}{K:bN}{mg:Str->Option eF}{base:Heap}{gF gH:Addr}{ffd hfd:L1}{n j:Nat}(hj:4<=j){f:Addr}{cdv:eF}{A:Nx}{outer:List OJ}{s:fy}{H1:Hp}{E:XK}(a5:eL P w K mg base "_law_kind_fault" 2 Vv (qj K) gF ffd)(a4:eL P w K mg base "_law_term_fault" j Vf (ue K n) gH hfd)(aa:mg "len"=none)(hr:di j (A.deeper (Np "_law_due" (ak iX) s.heap.objs.size f cdv))){D:L2.Ends}{H0 H:Hp}{S:mC}{kl:Kl}{dl:List Df}{i:Nat}{d:Df}{pv I pav tv:V}{o6 o7 o8:Option V}(hdi:dl[i]?=some d)(hB:wV kl)(hD:K8 n dl)(rp:Rp K H (.t (d.2.1.map wA)) pav)(rt:Rp K H (enc d.2.2) tv)(sm:aT H0 H)(st:Kr H0 S kl dl i d none 0 I H)(k:∀an o6 o7 o8 J,Kt H J->IP H0 S kl dl (i+1) an J->D.nx [some pv,some (.ref S.d),some an,some (.str d.1),some pav,some tv,o6,o7,o8] J):
  ja (Zi gy Vc "_law_due" (ak iX) H1).nN ((forA ((bh iX).drop 2)).drop 1) D [some pv,some (.ref S.d),some I,some (.str d.1),some pav,some tv,o6,o7,o8] H:=by
 refine d7 ((Z5 (sa fP.nd gm 6 (dB aA)) (Z5 (Zg NH (cz (va bP 4)) (Z9 (2) (Ze (ga fP.nd gm 7) (Zs (ga fP.nd gm 8)))) (Z5 (Zb (PW.pt (@gz _ _ _ _ _ _ _ (Zo qC (va bP 2) gv) (@fz _ _ _ _ (nQ gq (va bP 7) (va bP 6) (by with_unfolding_all rfl))))) (Zd (Z4 fP.nd gm 2 (Zt (Z1 aG (Zc (va bP 7))))))) (Z5 (Zn (Z6 (va bP 6) (Zc (va bP 7)))) (Zd (Zb (Zo qC (va bP 2) gv) (Zd (Z4 fP.nd gm 2 (Z0 a5 (Z1 (va bP 1) (c8 (va bP 8) (Zc mQ))))))))))) (Z5 (Zb (Zo qC (va bP 2) gv) (Zd (Z4 fP.nd gm 2 (Z0 a4 (Z1 (va bP 1) (Z1 (va bP 5) (Zc (va bP 6)))))))) (Zd (@pR _ _ _ _ _ _ _ _ _ (gE hr) (Zj (va bP 1)) (va bP 3) (Zl (Z1 (va bP 3) (Z1 (Z2 aJ aa Nl (Zc (va bP 4))) aA))) (by rfl))))))) ?_
 right
 right
 have az:=(bH.mp hdi).1;have be:i<8:=Ni az hD.1;have((bw,bt,bs,bp),bd):=hD.2 d (Nf hdi);have(pa,g,rfl,ar,aj):=rp.aS;have R:=aj.length;rw[bM]at R;ext l hl;have s2:=ae hl (.lst []);have h2:upd H l (.lst []) l=some (.lst []):=af;have l0:H0 l=none:=sm.free hl
 have ah:Kr H0 S kl dl i d (some l) 0 I (upd H l (.lst [])):=by
  cases st with
  |bad f p u w e2 e3 _=>exact .bad f p u (w.ext s2) e2 (s2 _ _ e3) (λz=>(ay e3 hl) (Nk z).symm)
  |good ds gs os u sc ld lg lo nd nm _ e2=>exact .good ds gs os u (sc.ext s2) ld lg lo nd nm (λa ha=>#[ds,gs,os,H,sc,Nk ha▸hl]) e2
 have L:=ar.same s2;generalize upd H l (.lst [])=H2 at s2 h2 ah L|-;ext;refine eX (K:=K) (xs:=g) (λq σ B=>∃I o7 o8,σ=[some pv,some (.ref S.d),some I,some (.str d.1),some (.ref pa),some tv,some (.ref l),o7,o8]/\LN H0 S kl dl i d l q H2 I B) #[_,_,_,rfl,Kt.refl,h2,ah] ?_ ?_ ?_
 .rintro q σ B hq ⟨_,_,_,_,O,_,_⟩;exact L.kt O
 .rintro q xv σ B hxv ⟨I,o7,o8,rfl,⟨O,U,ab⟩⟩;have(t,ht,rx):=aj.get' hxv;rw[xn]at ht;have(p,hp,rfl):=we.mp ht;have ax:=(bH.mp hp).1;have ao:d.2.1.take (q+1)=d.2.1.take q++[p]:=by rw[mu ax,(bH.mp hp).2]
  have r:=(Kt.same s2).trans O;have(ka,k1,k2,rfl,aw,g1,g2):=(show Rp K H (.t [.s p.1,jI p.2]) xv from rx).t2;obtain rfl:=g1.aM;have a6:=aw.kt r;have a2:=g2.kt r;have fl:=iM ((d.2.1.take q).map (·.1));have iv:=jZ (x:=p.1) (xs:=(d.2.1.take q).map (·.1));have et:(((d.2.1.take (q+1)).map (·.1)).map V.str)=((d.2.1.take q).map (·.1)).map V.str++[.str p.1]:=by rw[ao];simp
  have a7:bQ K B l (((d.2.1.take q).map (·.1)).map V.str):=bQ.of U;have ll:(((d.2.1.take q).map (·.1)).map V.str).length<mH:=br (by rw[bM,bM,I0];omega)
  cases ab with
  |bad f m u w e2 e3 n =>
   subst e2;have np:m≠l:=λz=>n (by rw[z]);have fin:LN H0 S kl dl i d l (q+1) H2 (.ref m) (upd B l (.lst (((d.2.1.take q).map (·.1)).map V.str++[.str p.1]))):=#[O.trans (Kt.lst U _),by rw[af,et],.bad f m u (w.other l0 U _) rfl (by rw[au np];exact e3) n];ext;exact fin
  |good ds gs os u sc ld lg lo nd nm ow e2 =>
   subst u;have(a3,a1,as,HB,C,G):=ow l rfl;have ac:=sc.other C G U (((d.2.1.take q).map (·.1)).map V.str++[.str p.1]);have N:Kt B (upd B l (.lst (((d.2.1.take q).map (·.1)).map V.str++[.str p.1]))):=Kt.lst U _;have h4:upd B l (.lst (((d.2.1.take q).map (·.1)).map V.str++[.str p.1])) l=some (.lst (((d.2.1.take (q+1)).map (·.1)).map V.str)):=by rw[af,et]
   have bf:=a2.kt N;rw[rA hp]at e2;ext;refine bW (λc=>?_) (λc=>?_)
   .have hm:p.1∈(d.2.1.take q).map (·.1):=by
     have c':nR (.str p.1) (((d.2.1.take q).map (·.1)).map V.str)=true:=c;rw[iv]at c';exact of_decide_eq_true c'
    rw[if_pos hm]at e2;ext m T;have y:=ae T (.lst [.str "twice",.str p.1]);have h5:upd B m (.lst [.str "twice",.str p.1]) m=some (.lst [.str "twice",.str p.1]):=af;have n5:m≠l:=(ay U T).symm;have ag:=y _ _ U;have w5:=(sc.ext y).w ld;have Z:Kt H2 (upd B m (.lst [.str "twice",.str p.1])):=O.trans (Kt.same y);generalize upd B m (.lst [.str "twice",.str p.1])=H5 at y h5 ag w5 Z|-;have fin:LN H0 S kl dl i d l (q+1) H2 (.ref m) (upd H5 l (.lst (((d.2.1.take q).map (·.1)).map V.str++[.str p.1]))):=#[Z.trans (Kt.lst ag _),by rw[af,et],.bad (.tw,p.1) m e2 (w5.other l0 ag _) rfl (by rw[au n5];exact h5) (λz=>n5 (Nk z).symm)];ext;exact fin
   .have hm:p.1∉(d.2.1.take q).map (·.1):=λz=>c (by show nR (.str p.1) (((d.2.1.take q).map (·.1)).map V.str)=true;rw[iv];exact decide_eq_true z);rw[if_neg hm]at e2;have a9:os.length<=100:=()
    ext
    first|(focus (intro z;cases z;done))|skip
    refine λ_=>#[λf hf v' J s' ft fp=>?_,λav ho J ad W=>?_]
    .rw[hf]at e2;have(m,rfl,T):=ft;have n5:m≠l:=(ay h4 (fp m rfl)).symm;exact#[_,_,_,rfl,(O.trans N).trans (Kt.same s'),s' _ _ h4,.bad f m e2 ((ac.ext s').w ld) rfl T (λz=>n5 (Nk z).symm)]
    .rw[ho]at e2;have nl:l≠S.lg/\l≠S.lo:=#[(ay C.hg G).symm,(ay C.ho G).symm];refine#[_,_,_,rfl,(O.trans N).trans (ac.uz W),ac.ym W h4 nl,.good ds gs av rfl ad ld lg ?_ nd nm ow ?_]
     .have:=BC ho;omega
     .rw[ao,i5];exact e2
 .rintro σ B ⟨I,o7,o8,rfl,⟨O,U,ab⟩⟩;rw[R,Nr]at U;have Y:=L.kt O;have r:=(Kt.same s2).trans O;have a8:=rt.kt r
  have X:∀{I:V}{f:Flt}{m o:Addr}{H4:Hp}{dv:List (Key×V)},cy kl dl=some f->rQ H0 S i H4->I=.ref m->H4 m=some (.lst [.str (IB f.1),.str f.2])->H4 S.dd=some (.dK dv)->dv.length<=i->IP H0 S kl dl (i+1) I (upd H4 S.dd (.dK (putK dv (Sum.inr d.1) (.ref o)))):=λ{I f m o H4 dv} e w ev hp hd ld=>by
   refine .bad f e ((w.le (OC _)).uA ?_) #[m,ev,?_]
   .exact Nz Du (Pw ld)
   .rw[au (λz=>by rw[z,hd]at hp;cases hp)];exact hp
  cases ab with
  |bad f m u w e2 e3 n =>
   subst e2;have(dv,d1,d2):=w.hd;ext o M;have s4:=ae M (.tup [.str d.1,.int g.length]);have w4:=w.ext s4;have h4:=s4 _ _ d1;have e4:=s4 _ _ e3;have N:Kt H (upd B o (.tup [.str d.1,.int g.length])):=r.trans (Kt.same s4);generalize upd B o (.tup [.str d.1,.int g.length])=H4 at s4 w4 h4 e4 N|-;have gd:=fh w4.sd (lV S);have dp:=nZ.k (k:=Sum.inr d.1) (v:=.ref o) h4 (br ());ext;exact k _ _ _ _ _ (N.trans (Kt.upd h4 (λ_ z=>nomatch z) (λ_ _ z=>nomatch z) _)) (X u w4 rfl e4 h4 d2)
  |good ds gs os u sc ld lg lo nd nm ow e2 =>
   subst u;rw[R,Nr,NL]at e2;have ap:cy kl dl=oK kl ds gs d (dl.drop (i+1)) (.ok os):=e2;have(a3,a1,as,HB,C,G):=ow l rfl;have nl:l≠S.lg/\l≠S.lo:=#[(ay C.hg G).symm,(ay C.ho G).symm];have ln:(d.2.1.map (·.1)).length+5*d.2.2.size<=900:=by rw[bM];omega
   have ba:gs.length+d.2.2.size<=900:=()
   ext
   .intro f hf v' J w' W ft;have(m,rfl,e4):=ft;have u:cy kl dl=some f:=by rw[ap];unfold oK;dsimp only;rw[hf]
    have ai:=Y.kt (sc.uz W);have N:=r.trans (sc.uz W);have(dv,d1,d2):=w'.hd;ext o M;have y:=ae M (.tup [.str d.1,.int g.length]);have w5:=(w'.le ld).ext y;have h5:=y _ _ d1;have e5:=y _ _ e4;have Z:Kt H (upd J o (.tup [.str d.1,.int g.length])):=N.trans (Kt.same y);generalize upd J o (.tup [.str d.1,.int g.length])=H5 at y w5 h5 e5 Z|-;have gd:=fh w5.sd (lV S);have dp:=nZ.k (k:=Sum.inr d.1) (v:=.ref o) h5 (br ());ext;exact k _ _ _ _ _ (Z.trans (Kt.upd h5 (λ_ z=>nomatch z) (λ_ _ z=>nomatch z) _)) (X u w5 rfl e5 h5 (Nz d2 ld))
   intro am a0 J ad W bb;have u:cy kl dl=jB kl (ds++[(d.1,d.2.1.length)]) am os (dl.drop (i+1)):=by rw[ap];unfold oK;dsimp only;rw[a0]
   have ai:=Y.kt (sc.uz W);have N:=r.trans (sc.uz W);ext o M;have y:=ae M (.tup [.str d.1,.int g.length]);have Q:=ad.ext y;have al:upd J o (.tup [.str d.1,.int g.length]) o=some (.tup [.str d.1,.int (d.2.1.length:Nat)]):=by rw[af,R]
   have Z:Kt H (upd J o (.tup [.str d.1,.int g.length])):=N.trans (Kt.same y);generalize upd J o (.tup [.str d.1,.int g.length])=H5 at y Q al Z|-;have(dv,d1,d2):=Q.hd;have gd:=fh Q.sd (lV S);have bc:=d2.length;have dp:=nZ.k (k:=Sum.inr d.1) (v:=.ref o) d1 (br ())
   have vn:cV dv (Sum.inr d.1)=none:=by
    have:=wH (x:=d.1) d2;rw[decide_eq_false nm]at this;exact Option.not_isSome_iff_eq_none.mp (by rw[this];exact Nq)
   rw[Cf _ vn]at dp;have aq:=Q.uA (x:=(d.1,d.2.1.length)) d1 d2 al;ext;refine k _ _ _ _ _ (Z.trans (Kt.upd d1 (λ_ z=>nomatch z) (λ_ _ z=>nomatch z) _)) (.good _ am os rfl aq ?_ ?_ ?_ nd u)
   .rw[i4];exact Pw ld
   .omega
   .omega
theorem yz {P:IF}{w:Nn}{K:bN}{mg:Str->Option eF}{base:Heap}{gF gH:Addr}{ffd hfd:L1}{n j:Nat}(hj:4<=j){f:Addr}{cdv:eF}{A:Nx}{outer:List OJ}{s:fy}{H1:Hp}{E:XK}(B:eL P w K mg base "_law_kind_fault" 2 Vv (qj K) gF ffd)(y:eL P w K mg base "_law_term_fault" j Vf (ue K n) gH hfd)(e:mg "len"=none)(hr:di j (A.deeper (Np "_law_due" (ak iX) s.heap.objs.size f cdv))){D:L2.Ends}{H0 H:Hp}{S:mC}{kl:Kl}{dl:List Df}{pa:Addr}{kv T p:V}{o3 Z Y I G o8:Option V}(hB:wV kl)(hD:K8 n dl)(psq:cP K H pa [kv,T])(rd0:Rp K H (.t (dl.map jl)) T)(st:IP H0 S kl dl 0 p H)(k:∀v' J,aT H0 J->mK J (cy kl dl) v'->D.rt v' J):
  ja (Zi gy Vc "_law_due" (ak iX) H1).nN ((bh iX).drop 2) D [some (.ref pa),some (.ref S.d),some p,o3,Z,Y,I,G,o8] H:=by
 refine d7 ((Z5 (Zg NH (@cz _ _ _ _ (Z8 aP (va bP 0))) (Z9 (3) (Ze (ga fP.nd gm 3) (Ze (ga fP.nd gm 4) (Zs (ga fP.nd gm 5))))) (Z5 (Zb (PW.pt (@gz _ _ _ _ _ _ _ (Zo qC (va bP 2) gv) (@fz _ _ _ _ (Zh (zl (gE hr)) (va bP 3) (Zj (va bP 1)) (by with_unfolding_all rfl))))) (Zd (Z4 fP.nd gm 2 (Zt (Z1 aG (Zc (va bP 3))))))) cK)) (Zd (cG (va bP 2))))) ?_
 right
 right
 have(da,ab,rfl,ac,O):=rd0.aS;have M:=O.length;rw[bM]at M;ext;refine eX (K:=K) (xs:=ab) (λi Q C=>∃p o3 Z Y I G o8,Q=[some (.ref pa),some (.ref S.d),some p,o3,Z,Y,I,G,o8]/\Ma H0 S kl dl i H p C) #[_,_,_,_,_,_,_,rfl,Kt.refl,st] ?_ ?_ ?_
 .rintro q Q C hq ⟨_,_,_,_,_,_,_,_,v,_⟩;exact ac.kt v
 .rintro i xv Q C hxv ⟨p,_,_,_,_,_,_,rfl,⟨v,m⟩⟩;have(t,ht,rx):=O.get' hxv;rw[xn]at ht;have(d,o,rfl):=we.mp ht;have(qa,v1,v2,v3,rfl,W,q1,q2,q3):=(show Rp K H (.t [.s d.1,.t (d.2.1.map wA),enc d.2.2]) xv from rx).t3;obtain rfl:=q1.aM;have ad:=W.kt v;have u:=q2.kt v;have r:=q3.kt v;have go:∀{l:V}{H4:Hp},Kt C H4->IP H0 S kl dl (i+1) l H4->Ma H0 S kl dl (i+1) H l H4:=λk4 U=>#[v.trans k4,U]
  cases m with
  |bad f e1 w ft =>
   have(X,rfl,e3):=ft;ext
   (try refine Cut.go (by assumption) ?_);exact uq hj B y e hr o hB hD u r w.sm (.bad f X e1 w rfl e3 nofun) (λl I G o8 J N g=>#[_,_,_,_,_,_,_,rfl,go N g])
  |good ds gs os e1 sc ld lg lo nd e2 =>
   subst e1;rw[vz o]at e2;have(T,d1,d2):=sc.hd;have gd:=fh sc.sd (lV S);have dg:cu C S.dd (.str d.1) (cV T (Sum.inr d.1)):=cu.k (k:=Sum.inr d.1) d1;have vk:=wH (x:=d.1) d2;ext;refine bW (λc=>?_) (λc=>?_)
   .have R:d.1∈ds.map (·.1):=by rw[vk]at c;exact of_decide_eq_true c
    rw[if_pos R]at e2;ext X aa;have L:=ae aa (.lst [.str "twice",.str d.1])
    (try refine Cut.go (by assumption) ?_);exact uq hj B y e hr o hB hD (u.same L) (r.same L) (sc.sm.trans L) (.bad (.tw,d.1) X e2 ((sc.ext L).w ld) rfl af nofun) (λl I G o8 J N g=>#[_,_,_,_,_,_,_,rfl,go ((Kt.same L).trans N) g])
   .have R:d.1∉ds.map (·.1):=λz=>c (by rw[vk];exact decide_eq_true z);rw[if_neg R]at e2;ext
    (try refine Cut.go (by assumption) ?_);exact uq hj B y e hr o hB hD u r sc.sm (.good ds gs os rfl sc ld lg lo nd R (λ_ z=>nomatch z) e2) (λl I G o8 J N g=>#[_,_,_,_,_,_,_,rfl,go N g])
 .rintro Q C ⟨p,_,_,_,_,_,_,rfl,⟨v,m⟩⟩;rw[M]at m
  have fin:D.rt p C:=by
   cases m with
   |bad f e1 w ft=>exact k _ _ w.sm (by rw[e1];exact ft)
   |good ds gs os e1 sc ld lg lo nd e2 =>
    rw[NL]at e2;exact k _ _ sc.sm (by rw[e2];exact e1)
  ext;exact fin
noncomputable def Ju(j g d e l:Addr):List (Key×V):=Ea #[0,j,g,d,e,l,[]]
theorem Ji (j g d e l:Addr):oQ [] (Ju j g d e l)=Ju j g d e l:=by kernel_rfl
theorem Jj (hj:4<=j)(F:jq K "_law_due" "_law_due" iX f fd)(an:eL P w K mg base "_law_kinds_fault" 3 V4 (ye K) gS sfd)(ab:eL P w K mg base "_law_kind_fault" 2 Vv (qj K) gF ffd)(aa:eL P w K mg base "_law_term_fault" j Vf (ue K n) gH hfd)(q:mg "len"=none):
  cA P w K mg base gy (j+1) f fd VR (Dt K n):=by
 refine F.ok fP (λvs H Q E h=>?_) (λcdv A outer s H vs Q E hr h=>?_)
 .have(_,_,_,rfl,_):=h;rfl
 have(v,kl,dl,rfl,r,hB,hD,k):=h;refine#[_,(Z5 (Z4 fP.nd gm 1 (@yx _ _ _ _ _ _ _ _ _ _ _ _ _ _ _ _ _ _ _ _ _ _ aG (@pS _ _) aG (@pS _ _) aG (dB aA) aG (dB aA) aG (@pS _ _))) (Z5 (Z4 fP.nd gm 2 (Z0 an (Z1 (va bP 1) (Z1 (Z8 aP (va bP 0)) aA)))) cK)),?_]
 right
 right
 have(pa,u1,u2,rfl,aj,g1,g2):=r.t2;ext d hd;have J:=ae hd (.dK []);have Y:upd H d (.dK []) d=some (.dK []):=af;generalize upd H d (.dK [])=H1 at J Y|-;ext l M;have D:=ae M (.dK []);have h2:upd H1 l (.dK []) l=some (.dK []):=af;generalize upd H1 l (.dK [])=H2 at D h2|-;ext g B;have C:=ae B (.dK []);have h3:upd H2 g (.dK []) g=some (.dK []):=af;generalize upd H2 g (.dK [])=H3 at C h3|-;ext o U;have y:=ae U (.lst []);have h4:upd H3 o (.lst []) o=some (.lst []):=af;generalize upd H3 o (.lst [])=H4 at y h4|-;ext p L;have u:=ae L (.lst []);have h5:upd H4 p (.lst []) p=some (.lst []):=af;generalize upd H4 p (.lst [])=H5 at u h5|-;ext m t;have N:=ae t (.dK []);have h6:upd H5 m (.dK []) m=some (.dK []):=af;generalize upd H5 m (.dK [])=H6 at N h6|-;have R:=(((D.trans C).trans y).trans u).trans N;have ah:=((C.trans y).trans u).trans N;have ag:=(y.trans u).trans N;have ad:=u.trans N;have ai:=J.trans R;have am:=R _ _ Y;have al:=ah _ _ h2;have ak:=ag _ _ h3;have W:=ad _ _ h4;have X:=N _ _ h5;have f2:H l=none:=J.free M;have f3:H g=none:=(J.trans D).free B;have f4:H o=none:=((J.trans D).trans C).free U;have f5:H p=none:=(((J.trans D).trans C).trans y).free L;have f6:H m=none:=((((J.trans D).trans C).trans y).trans u).free t;have n1:d≠l:=ay Y M;have n2:d≠g:=ay (D _ _ Y) B;have n3:d≠m:=ay (u _ _ (y _ _ (C _ _ (D _ _ Y)))) t;have n4:l≠g:=ay h2 B;have n5:l≠m:=ay (u _ _ (y _ _ (C _ _ h2))) t;have n6:g≠m:=ay (u _ _ (y _ _ h3)) t;have n7:o≠p:=ay h4 L;have nl:∀{c:Addr}{us:List V},H6 c=some (.lst us)->c≠d:=λe=>jr e am nofun
 ext
 .exact(show _=(Ju l g o p m).map (λkv=>(kV kv.1,kv.2))from rfl)
 refine#[by show 5<=15;decide,?_];rw[Ji];have O:aT H (upd H6 d (.dK (Ju l g o p m))):=ai.n9 hd _;have I:eG H #[d,l,g,o,p,m,[]] [] [] [] [] [] (upd H6 d (.dK (Ju l g o p m))):=#[#[hd,f2,f3,f4,f5,f6,n4,n5,n6,n1,n2,n3,n7],O,af,by show upd _ _ _ l=_;rw[au n1.symm];exact al,.nil,#[[],by show upd _ _ _ g=_;rw[au n2.symm];exact ak,.nil],#[[],by show upd _ _ _ m=_;rw[au n3.symm];exact h6,.nil],by show upd _ _ _ p=_;rw[au (nl X)];exact X,by show upd _ _ _ o=_;rw[au (nl W)];exact W];generalize upd H6 d (.dK (Ju l g o p m))=H7 at O I|-;have G:=aj.same O;have ao:=g1.same O;have Z:=g2.same O;ext
 .intro f hf v' H' w' t' ft;have T:=I.uz t';have e1:cy kl dl=some f:=by unfold cy;rw[hf]
  ext;exact yz (S:=#[d,l,g,o,p,m,[]]) hj ab aa q (hr.mono ()) hB hD (G.kt T) (Z.kt T) (.bad f e1 w' ft) k
 intro hn kv H' ac t';have T:=I.uz t';have e1:cy kl dl=jB kl [] [] [] dl:=by unfold cy;rw[hn]
 ext;exact yz (S:=#[d,l,g,o,p,m,kv]) hj ab aa q (hr.mono ()) hB hD (G.kt T) (Z.kt T) (.good [] [] [] rfl ac (lj _) (Nu _) (Nu _) (rj hn).2 e1) k
def AI(K:bN):Sp:=λe H Q _=>∃(a:Addr) (d:List Int),e=[.ref a]/\bQ K H a (d.map V.int)/\d.length<=63/\∀g,Q (.bl true) g
theorem KI (e:Er):Wo (IB e):=by
 cases e with
 |tw=>exact#[by decide,uo _ (by decide)]
 |nn=>exact#[by decide,uo _ (by decide)]
 |wr=>exact#[by decide,uo _ (by decide)]
theorem tw_ok (b:yD z dp kl dl):twOk (twF (cy kl dl)):=by
 cases e:cy kl dl with
 |none=>exact True.intro
 |some f =>
  have w:=Gn b e;have d:=KI f.1;exact#[d.2,w.2,Nz d.1 (by decide),Nz w.1 (by decide)]
structure KJ(K:bN) (a:Addr) (ns:List Int) (pv:V) (lw:Addr) (kl:Kl) (dl:List Df) (ws:List Str) (H:Hp):Prop where
 s:bQ K H a (ns.map V.int)
 r:Rp K H (.t [.t (kl.map gZ),.t (dl.map jl)]) pv
 w:H lw=some (.lst (ws.map V.str))
theorem KJ.same {pv:V}(h:KJ K a ns pv e kl dl d H)(s:aT H g):KJ K a ns pv e kl dl d g:=#[s.seq h.s,h.r.same s,s _ _ h.w]
theorem twoSame (h:yy H o v)(s:aT H d):yy d o v:=by
 cases o with
 |none=>exact h
 |some w =>
  have(p,e,q):=h;exact#[p,e,s _ _ q]
noncomputable def zy:List Str:=["zzzzzz","yy"]
structure M7(K:bN) (f:Addr) (ov:V) (H0 H:Hp) (kl:Kl) (dl:List Df) (z dp:Nat):Prop where
 s:aT H0 H
 f:cM H f
 r:Rp K H (.t [.t (kl.map gZ),.t (dl.map jl)]) ov
 b:yD z dp kl dl
theorem gw :Nm Vh (ak nj):=by decide
theorem kJ :Lm Vh (ak nj):=by decide
theorem j6 :aZ Vh ["_law_script"] (ak nj):=by ac_rfl
theorem DY {P:IF}{w:Nn}{K:bN}{mg:Str->Option eF}{base:Heap}{gL gD:Addr}{lfd dfd:L1}{n jd j:Nat}(Q:jd<=j)(h7:7<=j)(hn:9<n){f:Addr}{cdv:eF}{A:Nx}{outer:List OJ}{s:fy}{T:Hp}{E:XK}(o:eL P w K mg base "_law_told" 7 VR (zA K) gL lfd)(G:eL P w K mg base "_law_due" jd VR (Dt K n) gD dfd)(g:mg "repr"=none)(hr:di j (A.deeper (Np "law" (ak nj) s.heap.objs.size f cdv))){D:L2.Ends}{H:Hp}{ov:V}{z dp:Nat}{kl:Kl}{dl:List Df}{o0 o1 o2 o3 o4 o6 B:Option V}(r:Rp K H (.t [.t (kl.map gZ),.t (dl.map jl)]) ov)(b:yD z dp kl dl)(hz:z<=80)(hdp:dp<=9)(k:∀B N,aT H N->D.nx [o0,o1,o2,o3,o4,some ov,o6,B] N):
  ja (Zi gy Vh "law" (ak nj) T).nN ((forA ((bh nj).drop 2)).drop 4) D [o0,o1,o2,o3,o4,some ov,o6,B] H:=by
 refine d7 ((Z5 (Z4 j6.nd kJ 7 (Z0 G (Zc (va gw 5)))) (Z5 (Zb (Zo qC (va gw 7) gv) (b9 (sa j6.nd kJ 7 mQ))) (Zd (Zb (PW.pt (@pq _ _ _ _ _ _ _ (Zh pI (Z2 (mh hr.gd hr.Cr) g Qe (Z1 (Z0 o (Zc (va gw 5))) aA)) (Z2 (mh hr.gd hr.Cr) g Qe (Zc (va gw 7))) (bI _)) (@oM _ _ _ _ (Zh pI (Z2 (mh hr.gd hr.Cr) g Qe (Z1 (Z0 o (Zc (va gw 5))) aA)) (Z2 (mh hr.gd hr.Cr) g Qe (Zc (va gw 7))) (bI _))))) (b9 (cG mQ))))))) ?_
 right
 right
 have Z:=b.Mc;have L:=b.Me hz (show dp<n by omega);have d8:=L.1;have R:∀d∈dl,Kq d:=λd hd=>(L.2 d hd).1;have X:=tw_ok b;refine j0 ?_;intro N1 S c1 M
 have fin:∀{q:Hp}{v:V},aT H q->yy q (twF (cy kl dl)) v->S [o0,o1,o2,o3,o4,some ov,o6,some v] q:=λ{q v} l t2=>by
  refine Cut.go M ?_;have r2:=r.same l;ext W H3 y t3;have u:=twoSame t2 y;ext;rw[show(!decide (V.str (Jh (twF (cy kl dl)))=V.str (Jh (twF (cy kl dl)))))=false by rw[decide_eq_true rfl];rfl];have r3:=r2.same y;ext U H4 J t4;have O:=twoSame u J;ext;rw[show(!decide (V.str (Jh (twF (cy kl dl)))=V.str (Jh (twF (cy kl dl)))))=false by rw[decide_eq_true rfl];rfl];ext;exact k _ _ (l.trans (y.trans J))
 clear M;ext I q l m
 cases e:cy kl dl with
 |none =>
  rw[e]at m fin;obtain rfl:I=.eN:=m;have C:=fin l (v:=.bl true) rfl;ext;exact C
 |some f =>
  rw[e]at m fin;have C:=fin l (v:=I) m;have(p,rfl,Y):=m;ext;exact C
theorem qv (s:aT H g)(x:Ext r g d)(h:H r=none):aT H d:=λb o e=>x.1 b o (ay e h) (s b o e)
theorem Jk (az:jp<=j)(ai:jd<=j)(h7:7<=j)(hn:9<n)(F:jq K "law" "law" nj f fd)(FD:eL P w K mg base "_law_feed" 1 V9 (Cw K) gF ffd)(TK:eL P w K mg base "_law_take" 1 U7 cC gT tfd)(am:eL P w K mg base "_law_named_program" jp V1 (AB K) gP pfd)(B:eL P w K mg base "_law_told" 7 VR (zA K) gL lfd)(R:eL P w K mg base "_law_due" jd VR (Dt K n) gD dfd)(ao:eL P w K mg base "_law_changed" 4 VP (vD K) gC cfd)(z_range:mg "range"=none)(m:mg "repr"=none):cA P w K mg base gy (j+1) f fd ["_law_script"] (AI K):=by
 refine F.ok j6 (λvs H Q E h=>?_) (λcdv A outer s H vs Q E hr h=>?_)
 .have(a,ns,rfl,_):=h;rfl
 have(a,ns,rfl,hS,aw,k):=h;refine#[_,(Z5 (Zp (Z0 am (Z1 (Z0 FD (c8 (va gw 0) (Zc aC))) (Zc aC))) (Z9 (2) (Ze (ga j6.nd kJ 1) (Zs (ga j6.nd kJ 2))))) (Z5 (Z4 j6.nd kJ 2 (Zm iT (va gw 2) (Zt (c8 aG (Zc aG))))) (Z5 (Zg NH (uH (by left) z_range (Zc aC)) (ga j6.nd kJ 3) (Z5 (Zb (PW.pt (@pq _ _ _ _ _ _ _ (Zh Gv (Z0 B (Zc (va gw 1))) mQ (bI _)) (@oM _ _ _ _ (Zh rL (Z0 R (Zc (va gw 1))) gv (bI _))))) (b9 (cG mQ))) (Z5 (Z4 j6.nd kJ 4 (Z0 FD (Z1 (va gw 0) (Z1 (bS dR aC (va gw 3)) aA)))) (Z5 (sa j6.nd kJ 5 (va gw 1)) (Z5 (Zg NH (Zq (Z1 (Zm dR aC (Z0 TK (c8 (va gw 4) (Zc aC)))) aA)) (ga j6.nd kJ 6) (Zd (Z4 j6.nd kJ 5 (Z0 ao (Z1 (va gw 4) (Z1 (va gw 5) (Zc (va gw 2)))))))) cK))))) (Zd (Zu (@jo _ _ _ _ _ _ _ _ DX (Z0 B (Zc (va gw 1))) mQ (bI _))))))),?_]
 right
 right
 ext fe H1 s1 aj a0;ext p lw pv H2 kl W l x2 ax h2 lx wx sq r b e;have ac:=qv s1 x2 aj;ext l3 ah;have s3:=ae ah (.lst [.str "zzzzzz",.str "yy"]);have h3:upd H2 l3 (.lst [.str "zzzzzz",.str "yy"]) l3=some (.lst [.str "zzzzzz",.str "yy"]):=af;have ak:=s3 _ _ h2;generalize upd H2 l3 (.lst [.str "zzzzzz",.str "yy"])=H3 at s3 h3 ak|-;have lc:(l.map V.str).length+([.str "zzzzzz",.str "yy"]:List V).length<=mH:=small (by rw[bM];show l.length+2<=_;omega);ext t ag;have ea:l.map V.str++[.str "zzzzzz",.str "yy"]=(l++zy).map V.str:=by rw[i5];rfl
 rw[ea];have s4:=ae ag (.lst ((l++zy).map V.str));have h4:upd H3 t (.lst ((l++zy).map V.str)) t=some (.lst ((l++zy).map V.str)):=af;generalize upd H3 t (.lst ((l++zy).map V.str))=H4 at s4 h4|-;have J:=s3.trans s4
 have Y:∀x∈l++zy,Wo x:=λx hx=>(L0.mp hx).elim (wx x) (λz=>by
  have z:x∈[("zzzzzz":Str),"yy"]:=z;simp only[Nc,NB,or_false]at z;rcases z with rfl|rfl
  .exact#[by decide,uo _ (by decide)]
  .exact#[by decide,uo _ (by decide)])
 have M:1<=(l++zy).length:=by rw[i4];show 1<=_+2;omega
 have L:(l++zy).length<=100:=by rw[i4];show _+2<=100;omega
 have i0:KJ K a ns pv t kl W (l++zy) H4:=#[(ac.trans J).seq hS,r.same J,h4];generalize l++zy=ws at i0 Y M L;have hB:=b.Mc;have hD:=b.Me (show(34:Int).toNat<=80 by decide) (show 6<n by omega);have d8:=hD.1;have a1:∀d∈W,Kq d:=λd hd=>(hD.2 d hd).1;ext;refine iG (n:=4) (λi u H5=>∃o3 o4 o5 o6 T,u=[some (.ref a),some pv,some (.ref t),o3,o4,o5,o6,T]/\KJ K a ns pv t kl W ws H5) #[_,_,_,_,_,rfl,i0] ?_ ?_
 .rintro i u H5 hi ⟨_,_,_,_,_,rfl,U⟩;have r5:=U.r;ext Z H6 s6 I;rw[e]at I;obtain rfl:Z=.bl true:=I;have i6:=U.same s6;have r6:=i6.r;ext v7 H7 s7 t7;rw[e]at t7;obtain rfl:v7=.eN:=t7;have D:=i6.same s7;have aq:=D.s;ext f8 H8 s8 o a2;have i8:=D.same s8;have n8:t≠f8:=ay D.w o;ext m9 H9 av as X;ext;refine iG (n:=(1+m9).toNat) (λq u C=>∃o6 T S v y,u=[some (.ref a),some pv,some (.ref t),some (.int (0+(i:Int))),some (.ref f8),some S,o6,T]/\M7 K f8 S H7 C v y (34+2*q) (6+q)) #[_,_,pv,kl,W,rfl,#[qv s8 X o,X.2,(D.same (qv s8 X o)).r,b]] ?_ ?_
  .rintro q u C hq ⟨_,_,S,v,y,rfl,g⟩;have a3:=g.f;have ar:=g.r;have a4:=g.b;have ap:=(D.same g.s).w;ext aa an N O G ad al;exact#[_,_,aa,N,O,rfl,#[qv g.s G o,G.2,ad,al]]
  .rintro u C ⟨_,_,S,v,y,rfl,g⟩;ext;refine DY (z:=34+2*(1+m9).toNat) (dp:=6+(1+m9).toNat) ai h7 hn B R m hr g.r g.b () () λT an ab=>#[_,_,_,_,_,rfl,D.same (g.s.trans ab)]
 .rintro u H5 ⟨_,_,_,_,_,rfl,U⟩;have r5:=U.r;ext Z H6 s6 I;rw[e]at I;obtain rfl:Z=.bl true:=I;ext;exact k _
end G14
namespace L2
open PySem PySem.Spec PyProof.Rows
end L2
namespace L2
open PySem PySem.Spec PyProof.Rows PySem.W PySem.Calls
noncomputable def ur(d:List PL):Bool:=d.all λe=>match e.key with|.str _ _=>true|_=>false
theorem G7 {K:Frag}(X:K.In h)(e:K.lookup N=some #[c,l,.dict d n,g])(hs:ur d.toList=true):
  h.Ns N (UC d):=by
 refine#[_,d,n,X _ _ e,rfl,λa j=>?_,λ_=>rfl];have z:=NS.mp hs a (RB.mpr j)
 split at z
 .rename_i y t q;exact#[y,t,q]
 .cases z
end L2
namespace L2
open PySem PySem.W
noncomputable def Gx(K:Frag)(C:Addr):Bool:=(Of K (.ref C) "__getattribute__" == some (some (.builtin "BaseException.__getattribute__")))&&(Of K (.ref C) "__getattr__" == some none)&&(mroIn K C (.type "BaseException") == some true)
theorem DZ (h:Gx K C=true):zc K C:=by
 unfold Gx at h;simp only[NO,beq_iff_eq]at h;exact#[h.1.1,h.1.2,h.2]
noncomputable def Gy(K:Frag)(C b:Addr):Bool :=
 Gx K C&&P9 K C&&(Of K (.ref C) "__class__" == some (some (.builtin "object.__class__"))) &&
 (specialIn K (.builtin "object.__class__") "__get__" == some (some (.builtin "getset_descriptor.__get__")))&&(takesIn K (.builtin "object.__class__") == some true)&&(mroIn K C (.type "object") == some true) &&
 (RL K (.ref C) (.ref b) == some true)&&(RL K (.ref C) (.type "ValueError") == some true)&&Pd K (.ref C)
noncomputable def wQ(K:Frag)(C:Addr)(n:Str):Bool :=
 rN K C&&(Of K (.ref C) "__setattr__" == some (some (.builtin "object.__setattr__")))&&(Rg K C n == some none) &&
 Gx K C&&P9 K C&&(Of K (.ref C) n).any (noGet K)
theorem lz (h:wQ K C n=true):wc K C n/\Ik K C n:=by
 unfold wQ at h;simp only[NO,beq_iff_eq]at h;have(((((o,m),l),j),g),d):=h;refine#[#[o,m,l],#[DZ j,g,?_]]
 cases e:Of K (.ref C) n with
 |none=>rw[e]at d;cases d
 |some a=>rw[e]at d;exact#[a,rfl,d]
theorem zB (h:Gy K C b=true):Bb K C/\RL K (.ref C) (.ref b)=some true/\RL K (.ref C) (.type "ValueError")=some true/\Pd K (.ref C)=true:=by
 unfold Gy at h;simp only[NO,beq_iff_eq]at h;have((((((((q,p),o),m),l),j),g),e),d):=h;exact#[#[DZ q,p,o,m,l,j],g,e,d]
structure ClsAt(K:Frag) (C b:Addr) (i:Option eF):Prop where
 ex:∃nm q N bs hdct sn sub ab col dd k0 k1 k2 k3 k5,K.lookup C=some (Qs nm q C N bs (.ref b::iY) hdct sn sub ab col dd k0 k1 k2 k3 k5 "ValueError.__new__") /\
  ∃c d es n sl,K.lookup N=some #[c,d,.dict es n,sl]/\ur es.toList=true/\UC es "__init__"=i
structure nL(K:Frag) (b:Addr):Prop where
 ex:∃nm q N bs hdct sn sub ab col dd k0 k1 k2 k3 k5,K.lookup b=some (Qs nm q b N bs iY hdct sn sub ab col dd k0 k1 k2 k3 k5 "ValueError.__new__") /\
  ∃c d es n sl,K.lookup N=some #[c,d,.dict es n,sl]/\ur es.toList=true/\UC es "__init__"=none
theorem nL.tail (B:nL K b)(X:K.In h):OwnTail h iY (.ref b::iY):=by
 have(r,q,N,bs,d,p,sub,I,o,D,z,y,v,u,t,e,H,G,C,n,g,m,j,l):=B.ex;exact .own (X _ _ e) (G7 X m j) l .base
theorem D4 :iY.contains (.type "BaseException")=true:=by decide
theorem nL.c (B:nL K b):zd K b:=by
 refine⟨λh X=>?_⟩;have(l,q,N,bs,d,j,sub,v,g,u,t,r,p,o,m,e,_):=B.ex;exact#[l,q,N,bs,_,d,j,sub,v,g,u,t,r,p,o,m,_,X _ _ e,D4]
theorem ClsAt.c (Z:ClsAt K C b i):zd K C:=by
 refine⟨λh X=>?_⟩;have(l,q,N,bs,d,j,sub,v,g,u,t,r,p,o,m,e,_):=Z.ex;exact#[l,q,N,bs,_,d,j,sub,v,g,u,t,r,p,o,m,_,X _ _ e,by rw[PD,D4,RU]]
theorem ClsAt.sub (Z:ClsAt K C b i)(B:nL K b):wo K C b:=by
 refine#[λh X=>?_,B.c];have(l,q,N,bs,d,j,sub,v,g,u,t,r,p,o,m,e,_):=Z.ex;exact#[l,q,N,bs,_,d,j,sub,v,g,u,t,r,p,o,m,_,X _ _ e,by rw[PD,PD,beq_self_eq_true (Value.ref b),Bool.true_or,RU]]
theorem ClsAt.k (Z:ClsAt K C b (some (.ref f)))(B:nL K b){x q:Str}{st:Stmt}(F:∃od g,K.lookup f=some #[.type "function",od,.func D,g])(kp:Pd K (.ref C)=true):E4 K C f:=by
 refine#[λh X=>?_,kp];have(o,q,N,bs,j,m,sub,J,l,I,v,u,t,r,p,e,c,d,M,n,L,H,y,z):=Z.ex;have(od,g,G):=F;exact#[o,q,N,bs,_,j,m,sub,J,l,I,v,u,t,r,p,_,_,X _ _ e,G7 X H y,z,B.tail X,X _ _ G,rfl]
noncomputable def D5(K:Frag)(d e:List Addr)(b:Addr):Bool :=
 (Pc 3).all λk=>Gy K (d.getD k 0) b&&((Pc 3).all λj=>RL K (.ref (d.getD k 0)) (.ref (d.getD j 0)) == some (k == j))&&(U1 K (.ref (d.getD k 0)) (e.map Value.ref) == some false)&&wQ K (d.getD k 0) "name"
end L2
namespace G14
open PySem L2
def BN(H:Hp)(k:Str×List (Str×List Kk))(e:Key×V):Prop:=∃l,e=(Sum.inr k.1,V.ref l)/\H l=some (.lst (k.2.map λt=>.str t.1))
structure M8(H:Hp) (kl:Kl) (H2:Hp) (kvs:List (Key×V)):Prop where
 s:aT H H2
 p:Paired (BN H2) kl kvs
structure Jl(H:Hp) (o dK dT dM:Addr) (kl:Kl) (kvs:List (Key×V)) (Hx:Hp):Prop where
 so:So o H Hx
 hK:Hx dK=some (.dK kvs)
 hT:Hx dT=some (.dK ((tl kl).map λx=>(Sum.inr x.1,.str x.2.1)))
 hM:Hx dM=some (.dK ((tl kl).map λx=>(Sum.inr x.1,.int x.2.2.length)))
 pk:Paired (BN Hx) kl kvs
theorem Jl.same (h:Jl H o dK dT dM kl kvs Hx)(s:aT Hx Hy):Jl H o dK dT dM kl kvs Hy :=
 #[h.so.same s,s _ _ h.hK,s _ _ h.hT,s _ _ h.hM,Paired.imp' (λx e ⟨l,g,d⟩=>#[l,g,s _ _ d]) h.pk]
theorem Jl.fld (h:Jl H o dK dT dM kl kvs Hx)(j:Hx o=some (.ins C dx fs))(x:HO):Jl H o dK dT dM kl kvs (upd Hx o x) :=
 have d:∀{b:Addr}{u:HO},Hx b=some u->u≠.ins C dx fs->b≠o:=λ{b u} e n z=>n (by rw[z,j]at e;exact(Nk e).symm)
 #[h.so.upd x,by rw[au (d h.hK nofun)];exact h.hK,by rw[au (d h.hT nofun)];exact h.hT,by rw[au (d h.hM nofun)];exact h.hM,
  Paired.imp' (λy e ⟨l,m,g⟩=>#[l,m,by rw[au (d g nofun)];exact g]) h.pk]
theorem M9 :∀{kl:Kl}{kvs:List (Key×V)},Paired (BN m) kl kvs->Paired (λ(k:Str×List (Str×List Kk)) (e:Key×V)=>∃l,e=(Sum.inr k.1,V.ref l)/\l≠a.lG) kl kvs->Paired (λ(k:Str×List (Str×List Kk)) (e:Key×V)=>∃l,e=(Sum.inr k.1,V.ref l)/\l≠a.lO) kl kvs->Paired (K1 a m) kl kvs:=by
 intro kl kvs p q r
 induction p with
 |nil=>exact .nil
 |cons h t ih =>
  have(l,C,B):=h
  cases q with
  |cons h' t' =>
  cases r with
  |cons h'' t'' =>
  have(z,j,y):=h';have(g,d,v):=h'';subst C;have u:l=z:=V.ref.inj (Su j).2;have o:l=g:=V.ref.inj (Su d).2;subst u o;exact .cons #[l,rfl,B,y,v] (ih t' t'')
structure Mi(H:Hp) (d:Addr) (ob:Obj) (tv:List (Key×V)) (kvs ks:List (Key×V)) (H2:Hp):Prop where
 s:aT H H2
 d:H2 d=some (.nC ob (.dK tv))
 e:kvs=ks
theorem dz :Nm VI (ak fS):=by decide
theorem uE :aZ VI VI (ak fS):=by ac_rfl
theorem D6 (F:jq K "__init__" "Known.__init__" fS f fd)(N:Jr K C)(bi:eL P w K mg base "tags_of" 1 Wb (xZ K) gT tfd)(am:mg "len"=none):cA P w K mg base gy 2 f fd VI (zZ K C):=by
 refine F.ok uE (λvs H Q E h=>?_) (λcdv A outer s H vs Q E hr h=>?_)
 .have(_,_,_,_,_,_,rfl,_):=h;rfl
 have(H0,o,B,v,m,dt,rfl,hs,h0,ho,r,hB,bs,bu,k):=h;refine#[_,(Z5 (@qE _ _ _ _ _ _ _ _ (va dz 0) (@qL _ _ _ _ _ _ _ _ _ _ _ _ _ (ak fS) VI V2 [] rfl rfl rfl (by decide) (@cz _ _ _ _ (Z8 aP (va dz 1))) (λ_ _ _ _=>(Z9 (2) (Ze (Z3 (i:=0) (show(V2:List Str).Nodup by decide)) (Zs (Z3 (i:=1) (show(V2:List Str).Nodup by decide)))))) (λ_ _ _ _=>fZ) (λ_ _ _ _=>(va (show Nm V2 _ by left) 0)) (λ_ _ _ _=>(@kT _ _ _ _ _ _ _ _ _ _ _ _ V2 ["tag","inner"] [] rfl rfl rfl (by kernel_rfl) (zU K rfl (va (show Nm V2 _ by left) 1)) (λ_ _ _ _=>(Z9 (2) (Ze (Z3 (i:=0) (show(["tag","inner"]:List Str).Nodup by decide)) (Zs (Z3 (i:=1) (show(["tag","inner"]:List Str).Nodup by decide)))))) (λ_ _ _ _=>fZ) (λ_ _ _ _=>(va (show Nm ["tag","inner"] _ by left) 0)) (by intro _;rfl))) (by intro _;rfl)) rfl) (Z5 (@qE _ _ _ _ _ _ _ _ (va dz 0) (@qL _ _ _ _ _ _ _ _ _ _ _ _ _ (ak fS) VI Vs [] rfl rfl rfl (by decide) (xX (Z0 bi (Zc (va dz 1))) (by kernel_rfl) (by kernel_rfl)) (λ_ _ _ _=>(Z9 (2) (Ze (Z3 (i:=0) (show(Vs:List Str).Nodup by decide)) (Ze (Z9 (2) (Ze (Z3 (i:=1) (show(Vs:List Str).Nodup by decide)) (Zs (Z3 (i:=2) (show(Vs:List Str).Nodup by decide))))) vG)))) (λ_ _ _ _=>fZ) (λ_ _ _ _=>(va (show Nm Vs _ by left) 0)) (λ_ _ _ _=>(va (show Nm Vs _ by left) 1)) (by intro _;rfl)) rfl) (Z5 (@qE _ _ _ _ _ _ _ _ (va dz 0) (@qL _ _ _ _ _ _ _ _ _ _ _ _ _ (ak fS) VI Vs [] rfl rfl rfl (by decide) (xX (Z0 bi (Zc (va dz 1))) (by kernel_rfl) (by kernel_rfl)) (λ_ _ _ _=>(Z9 (2) (Ze (Z3 (i:=0) (show(Vs:List Str).Nodup by decide)) (Ze (Z9 (2) (Ze (Z3 (i:=1) (show(Vs:List Str).Nodup by decide)) (Zs (Z3 (i:=2) (show(Vs:List Str).Nodup by decide))))) vG)))) (λ_ _ _ _=>fZ) (λ_ _ _ _=>(va (show Nm Vs _ by left) 0)) (λ_ _ _ _=>(Z2 (oG K rfl) am Nl (Zc (va (show Nm Vs _ by left) 2)))) (by intro _;rfl)) rfl) (Z5 (qE (va dz 0) (@pS _ _) rfl) (Z5 (qE (va dz 0) (dB aA) rfl) (Zd (qE (va dz 0) (dB aA) rfl))))))),?_]
 right
 right
 have hc:=N.c;have n1:=N.kinds;have n2:=N.ktag;have n3:=N.mtag;have n4:=N.mdef;have n5:=N.gaps;have n6:=N.opens;have a7:=id r;have(pa,u1,u2,rfl,b5,g1,g2):=r.t2;have(a,us,rfl,sq,rs):=g1.aS;have bl:=rs.length;rw[bM]at bl;have bn:=qg hB;rw[<-oW,bM]at bn;ext;refine Bh (K:=K) (xs:=us) (λi I g H2=>(∃y1 y2,I=[y1,y2])/\M8 H (m.take i) H2 g) #[#[_,_,rfl],aT.refl _,.nil] ?_ (small (by have:=hB.1;omega)) ?_ ?_ ?_
 .rintro i I g H2 hi ⟨_,T⟩;have:=T.p.length;rw[I0]at this;omega
 .rintro i I g H2 hi ⟨_,T⟩;exact sq.same T.s
 .rintro i xv I g H2 hxv ⟨⟨_,_,rfl⟩,T⟩;have(t,ht,rx):=rs.get' hxv;rw[xn]at ht;have(kd,ap,rfl):=we.mp ht;have ag:=(bH.mp ap).1;have bh:m.take (i+1)=m.take i++[kd]:=by rw[mu ag,(bH.mp ap).2]
  have(ka,k1,k2,rfl,bo,q1,q2):=(show Rp K H (.t [.s kd.1,.t (kd.2.map kI)]) xv from rx).t2;obtain rfl:=q1.aM;have b1:=bo.same T.s;have(b4,ar,rfl,bj,av):=q2.aS;have bm:=av.length;rw[bM]at bm;have as:=bj.same T.s;have ca:=(hB.2 kd (Nf ap)).1
  have nw:∀L∈g,L.1≠Sum.inr kd.1:=λL ad z=>by
   have(n,bt):=NV ad;have(x,hx,l,e,_):=Paired.getL T.p bt;rw[e]at z;have z':x.1=kd.1:=Ow z;have hn:=bu.sublist (Qw (·.1) (Ql (i+1) m));rw[bh,i5]at hn;exact(OH.mp hn).2.2 x.1 (NY (Nf hx)) kd.1 (by simp) z'
  ext;refine gb (K:=K) (xs:=ar) (λj I vs Y=>(∃y1 y2,I=[y1,y2])/\Y=H2/\vs=(kd.2.take j).map λt=>V.str t.1) #[#[_,_,rfl],rfl,rfl] ?_ (small ()) ?_ ?_ ?_
  .rintro j I vs Y hj ⟨_,_,rfl⟩;rw[bM,I0];omega
  .rintro j I vs Y hj ⟨_,rfl,_⟩;exact as
  .rintro j yv I vs Y hyv ⟨⟨_,_,rfl⟩,rfl,rfl⟩;have(t,ht,ry):=av.get' hyv;rw[xn]at ht;have(tg,a6,rfl):=we.mp ht;have bv:=(bH.mp a6).1;have b0:kd.2.take (j+1)=kd.2.take j++[tg]:=by rw[mu bv,(bH.mp a6).2]
   have(ga,w1,w2,rfl,bz,p1,p2):=(show Rp K H (.t [.s tg.1,.t (tg.2.map jI)]) yv from ry).t2;obtain rfl:=p1.aM;have b3:=bz.same T.s;ext;rw[b0,i5];rfl
  .rintro I vs Y ⟨_,rfl,rfl⟩ l hl;rw[show ar.length=kd.2.length by omega,Nr];have s4:=ae hl (.lst (kd.2.map λt=>V.str t.1));have h4:upd Y l (.lst (kd.2.map λt=>V.str t.1)) l=some (.lst (kd.2.map λt=>V.str t.1)):=af;generalize upd Y l (.lst (kd.2.map λt=>V.str t.1))=H4 at s4 h4|-;refine#[Sum.inr kd.1,rfl,#[_,_,rfl],?_];rw[lT nw,bh];exact#[T.s.trans s4,Paired.xY (Paired.imp' (λx e ⟨l,R,J⟩=>#[l,R,s4 _ _ J]) T.p) #[l,rfl,h4]]
 .rintro I g H2 ⟨_,T⟩ dK hdK;rw[show us.length=m.length by omega,Nr]at T;have s3:=ae hdK (.dK g);have h3:upd H2 dK (.dK g) dK=some (.dK g):=af;have p3:Paired (BN (upd H2 dK (.dK g))) m g:=Paired.imp' (λx e ⟨l,R,J⟩=>#[l,R,s3 _ _ J]) T.p;generalize upd H2 dK (.dK g)=Y at s3 h3 p3|-;have ax:=T.s.trans s3;have o3:=ax _ _ ho;have an:So o H (upd Y o (.ins C B (aX "kinds" (.ref dK) []))):=((So.refl o H).same ax).upd _;have r4:=a7.kt (an.kt ho);have a0:o≠dK:=jr o3 h3 nofun
  have o4:upd Y o (.ins C B (aX "kinds" (.ref dK) [])) o=some (.ins C B (aX "kinds" (.ref dK) [])):=af;have h4:upd Y o (.ins C B (aX "kinds" (.ref dK) [])) dK=some (.dK g):=by rw[au a0.symm];exact h3
  have p4:Paired (BN (upd Y o (.ins C B (aX "kinds" (.ref dK) [])))) m g:=Paired.imp' (λx e ⟨l,R,J⟩=>#[l,R,by rw[au (jr J o3 nofun)];exact J]) p3
  ext;generalize upd Y o (.ins C B (aX "kinds" (.ref dK) []))=H4 at an r4 o4 h4 p4|-;intro d1 H5 Z s5 bx h5 p5;refine#[d1,Z,rfl,h5,λob=>?_];have k5:Kt H5 (upd H5 d1 (.nC ob (.dK Z))):=Kt.upd h5 (λ_ z=>nomatch z) (λ_ _ z=>nomatch z) _
  have s6:aT H4 (upd H5 d1 (.nC ob (.dK Z))):=s5.n9 bx _;have h6:upd H5 d1 (.nC ob (.dK Z)) d1=some (.nC ob (.dK Z)):=af;have p6:Paired (Fj K (upd H5 d1 (.nC ob (.dK Z)))) (tl m) Z:=Paired.imp' (λx e ⟨q,iv,R,J,e3⟩=>#[q,iv,R,by rw[au (jr J h5 nofun)];exact J,e3.kt k5]) p5
  generalize upd H5 d1 (.nC ob (.dK Z))=H6 at s6 h6 p6|-;have b7:=p6.length;have a1:((tl m).map (·.1)).Nodup:=by rw[oW];exact bs
  refine rg (xs:=Z) (λi I L H7=>(∃y1 y2 y3,I=[y1,y2,y3])/\Mi H6 d1 ob Z L (((tl m).take i).map λx=>(Sum.inr x.1,.str x.2.1)) H7) #[#[_,_,_,rfl],aT.refl _,h6,rfl] ?_ (small ()) ?_ ?_ ?_
  .rintro i I L H7 hi ⟨_,G⟩;rw[G.e,bM,I0];omega
  .rintro i I L H7 hi ⟨_,G⟩;exact G.d
  .rintro i x I L H7 p7 hx ⟨⟨_,_,_,rfl⟩,G⟩ hp7;have(y,hy,q,iv,rfl,hq,az):=Paired.getL p6 hx;have ag:=(bH.mp hy).1;have ah:(tl m).take (i+1)=(tl m).take i++[y]:=by rw[mu ag,(bH.mp hy).2]
   have O:=ae hp7 (.tup [kV (Sum.inr y.1),.ref q]);have h8:upd H7 p7 (.tup [kV (Sum.inr y.1),.ref q]) p7=some (.tup [.str y.1,.ref q]):=af;generalize upd H7 p7 (.tup [kV (Sum.inr y.1),.ref q])=H8 at O h8|-;have q8:=O _ _ (G.s _ _ hq)
   have nw:∀L∈((tl m).take i).map (λx=>((Sum.inr x.1:Key),V.str x.2.1)),L.1≠Sum.inr y.1:=λL ad z=>by
    have(x,hx,rfl):=NI.mp ad;have z':x.1=y.1:=Ow z;have hn:=a1.sublist (Qw (·.1) (Ql (i+1) (tl m)));rw[ah,i5]at hn;exact(OH.mp hn).2.2 x.1 (NY hx) y.1 (by simp) z'
   ext
   .exact(Eq.refl (kV (Sum.inr y.1)))
   refine#[#[_,_,_,rfl],G.s.trans O,O _ _ G.d,?_];rw[G.e,lT nw,ah,i5];rfl
  .rintro I L H7 ⟨_,G⟩ dT hdT;have e7:=G.e;rw[show Z.length=(tl m).length by omega,Nr]at e7;subst e7;have O:=ae hdT (.dK ((tl m).map λx=>(Sum.inr x.1,.str x.2.1)));have t8:upd H7 dT (.dK ((tl m).map λx=>(Sum.inr x.1,.str x.2.1))) dT=some (.dK ((tl m).map λx=>(Sum.inr x.1,.str x.2.1))):=af;generalize upd H7 dT (.dK ((tl m).map λx=>(Sum.inr x.1,.str x.2.1)))=H8 at O t8|-;have ao:=s6.trans (G.s.trans O);have o8:=ao _ _ o4;have aa:So o H4 (upd H8 o (.ins C B (aX "kind_of_tag" (.ref dT) (aX "kinds" (.ref dK) [])))):=((So.refl o H4).same ao).upd _;have r9:=r4.kt (aa.kt o4);have oT:o≠dT:=jr o8 t8 nofun
   have o9:upd H8 o (.ins C B (aX "kind_of_tag" (.ref dT) (aX "kinds" (.ref dK) []))) o=some (.ins C B (aX "kind_of_tag" (.ref dT) (aX "kinds" (.ref dK) []))):=af;have t9:upd H8 o (.ins C B (aX "kind_of_tag" (.ref dT) (aX "kinds" (.ref dK) []))) dT=some (.dK ((tl m).map λx=>(Sum.inr x.1,.str x.2.1))):=by rw[au oT.symm];exact t8
   have l2:(aX "kinds" (.ref dK) []).length<1000:=by show 1<1000;omega
   ext;generalize upd H8 o (.ins C B (aX "kind_of_tag" (.ref dT) (aX "kinds" (.ref dK) [])))=H9 at aa r9 o9 t9|-;clear r4 a7 rs g1 g2;have h9:=aa _ _ a0.symm h4;have q9:Paired (BN H9) m g:=Paired.imp' (λx e ⟨l,R,J⟩=>#[l,R,aa _ _ (jr J o4 nofun) J]) p4
   have aw:=an.trans aa;intro d2 Ha tw sa bw ha bk;refine#[d2,tw,rfl,ha,λS=>?_];have ka:Kt Ha (upd Ha d2 (.nC S (.dK tw))):=Kt.upd ha (λ_ z=>nomatch z) (λ_ _ z=>nomatch z) _
   have sb:aT H9 (upd Ha d2 (.nC S (.dK tw))):=sa.n9 bw _;have hb:upd Ha d2 (.nC S (.dK tw)) d2=some (.nC S (.dK tw)):=af;have pb:Paired (Fj K (upd Ha d2 (.nC S (.dK tw)))) (tl m) tw:=Paired.imp' (λx e ⟨q,iv,R,J,e3⟩=>#[q,iv,R,by rw[au (jr J ha nofun)];exact J,e3.kt ka]) bk
   generalize upd Ha d2 (.nC S (.dK tw))=Hb at sb hb pb|-;have b6:=pb.length;refine rg (xs:=tw) (λi I L Hc=>(∃y1 y2 y3,I=[y1,y2,y3])/\Mi Hb d2 S tw L (((tl m).take i).map λx=>(Sum.inr x.1,.int x.2.2.length)) Hc) #[#[_,_,_,rfl],aT.refl _,hb,rfl] ?_ (small ()) ?_ ?_ ?_
   .rintro i I L Hc hi ⟨_,G⟩;rw[G.e,bM,I0];omega
   .rintro i I L Hc hi ⟨_,G⟩;exact G.d
   .rintro i x I L Hc p7 hx ⟨⟨_,_,_,rfl⟩,G⟩ hp7;have(y,hy,q,iv,rfl,hq,az):=Paired.getL pb hx;have ag:=(bH.mp hy).1;have ah:(tl m).take (i+1)=(tl m).take i++[y]:=by rw[mu ag,(bH.mp hy).2]
    have O:=ae hp7 (.tup [kV (Sum.inr y.1),.ref q]);have h8:upd Hc p7 (.tup [kV (Sum.inr y.1),.ref q]) p7=some (.tup [.str y.1,.ref q]):=af;generalize upd Hc p7 (.tup [kV (Sum.inr y.1),.ref q])=Hd at O h8|-;have q8:=O _ _ (G.s _ _ hq);have(ia,b8,rfl,bp,br):=az.aS;have b2:=(bp.same G.s).same O;have a2:=br.length;rw[bM]at a2
    have nw:∀L∈((tl m).take i).map (λx=>((Sum.inr x.1:Key),V.int x.2.2.length)),L.1≠Sum.inr y.1:=λL ad z=>by
     have(x,hx,rfl):=NI.mp ad;have z':x.1=y.1:=Ow z;have hn:=a1.sublist (Qw (·.1) (Ql (i+1) (tl m)));rw[ah,i5]at hn;exact(OH.mp hn).2.2 x.1 (NY hx) y.1 (by simp) z'
    ext
    .exact(Eq.refl (kV (Sum.inr y.1)))
    refine#[#[_,_,_,rfl],G.s.trans O,O _ _ G.d,?_];rw[G.e,lT nw,ah,i5,a2];rfl
   .rintro I L Hc ⟨_,G⟩ dM hdM;have e7:=G.e;rw[show tw.length=(tl m).length by omega,Nr]at e7;subst e7;have O:=ae hdM (.dK ((tl m).map λx=>(Sum.inr x.1,.int x.2.2.length)));have m8:upd Hc dM (.dK ((tl m).map λx=>(Sum.inr x.1,.int x.2.2.length))) dM=some (.dK ((tl m).map λx=>(Sum.inr x.1,.int x.2.2.length))):=af;generalize upd Hc dM (.dK ((tl m).map λx=>(Sum.inr x.1,.int x.2.2.length)))=Hd at O m8|-;have U:=sb.trans (G.s.trans O);have od:=U _ _ o9;have kp:Jl H o dK dT dM m g Hd:=#[aw.same U,U _ _ h9,U _ _ t9,m8,Paired.imp' (λx e ⟨l,R,J⟩=>#[l,R,U _ _ J]) q9];clear U sb G O ao q9 t9 h9;have l3:(aX "kind_of_tag" (.ref dT) (aX "kinds" (.ref dK) [])).length<1000:=by show 2<1000;omega
    have W:=kp.fld od (.ins C B (aX "many_of_tag" (.ref dM) (aX "kind_of_tag" (.ref dT) (aX "kinds" (.ref dK) []))));have oe:upd Hd o (.ins C B (aX "many_of_tag" (.ref dM) (aX "kind_of_tag" (.ref dT) (aX "kinds" (.ref dK) [])))) o=some (.ins C B (aX "many_of_tag" (.ref dM) (aX "kind_of_tag" (.ref dT) (aX "kinds" (.ref dK) [])))):=af;ext;generalize upd Hd o (.ins C B (aX "many_of_tag" (.ref dM) (aX "kind_of_tag" (.ref dT) (aX "kinds" (.ref dK) []))))=He at W oe|-;intro D X;have l4:(aX "many_of_tag" (.ref dM) (aX "kind_of_tag" (.ref dT) (aX "kinds" (.ref dK) []))).length<1000:=by show 3<1000;omega
    have nD:D≠o:=(ay oe X).symm;have fD:H D=none:=W.so.free nD X;have kD:dK≠D:=ay W.hK X;have tD:dT≠D:=ay W.hT X;have mD:dM≠D:=ay W.hM X;have sf:=ae X (.dK []);have bg:upd He D (.dK []) D=some (.dK []):=af;have oF:=sf _ _ oe;have a5:=W.same sf;generalize upd He D (.dK [])=Hf at sf bg oF a5|-;have aj:=a5.fld oF (.ins C B (aX "many_of_def" (.ref D) (aX "many_of_tag" (.ref dM) (aX "kind_of_tag" (.ref dT) (aX "kinds" (.ref dK) [])))));have og:upd Hf o (.ins C B (aX "many_of_def" (.ref D) (aX "many_of_tag" (.ref dM) (aX "kind_of_tag" (.ref dT) (aX "kinds" (.ref dK) []))))) o=some (.ins C B (aX "many_of_def" (.ref D) (aX "many_of_tag" (.ref dM) (aX "kind_of_tag" (.ref dT) (aX "kinds" (.ref dK) []))))):=af;have bf:upd Hf o (.ins C B (aX "many_of_def" (.ref D) (aX "many_of_tag" (.ref dM) (aX "kind_of_tag" (.ref dT) (aX "kinds" (.ref dK) []))))) D=some (.dK []):=by rw[au nD];exact bg
    ext;generalize upd Hf o (.ins C B (aX "many_of_def" (.ref D) (aX "many_of_tag" (.ref dM) (aX "kind_of_tag" (.ref dT) (aX "kinds" (.ref dK) [])))))=Hg at aj og bf|-;intro M al;have l5:(aX "many_of_def" (.ref D) (aX "many_of_tag" (.ref dM) (aX "kind_of_tag" (.ref dT) (aX "kinds" (.ref dK) [])))).length<1000:=by show 4<1000;omega
    have nG:M≠o:=(ay og al).symm;have fG:H M=none:=aj.so.free nG al;have pG:Paired (λ(k:Str×List (Str×List Kk)) (e:Key×V)=>∃l,e=(Sum.inr k.1,V.ref l)/\l≠M) m g:=Paired.imp' (λx e ⟨l,R,J⟩=>#[l,R,ay J al]) aj.pk;have sh:=ae al (.lst []);have bc:upd Hg M (.lst []) M=some (.lst []):=af;have oH:=sh _ _ og;have be:=sh _ _ bf;have a4:=aj.same sh;generalize upd Hg M (.lst [])=Hh at sh bc oH be a4|-;have ai:=a4.fld oH (.ins C B (aX "gaps" (.ref M) (aX "many_of_def" (.ref D) (aX "many_of_tag" (.ref dM) (aX "kind_of_tag" (.ref dT) (aX "kinds" (.ref dK) []))))));have oi:upd Hh o (.ins C B (aX "gaps" (.ref M) (aX "many_of_def" (.ref D) (aX "many_of_tag" (.ref dM) (aX "kind_of_tag" (.ref dT) (aX "kinds" (.ref dK) [])))))) o=some (.ins C B (aX "gaps" (.ref M) (aX "many_of_def" (.ref D) (aX "many_of_tag" (.ref dM) (aX "kind_of_tag" (.ref dT) (aX "kinds" (.ref dK) [])))))):=af;have bb:upd Hh o (.ins C B (aX "gaps" (.ref M) (aX "many_of_def" (.ref D) (aX "many_of_tag" (.ref dM) (aX "kind_of_tag" (.ref dT) (aX "kinds" (.ref dK) [])))))) D=some (.dK []):=by rw[au nD];exact be
    have aq:upd Hh o (.ins C B (aX "gaps" (.ref M) (aX "many_of_def" (.ref D) (aX "many_of_tag" (.ref dM) (aX "kind_of_tag" (.ref dT) (aX "kinds" (.ref dK) [])))))) M=some (.lst []):=by rw[au nG];exact bc
    ext;generalize upd Hh o (.ins C B (aX "gaps" (.ref M) (aX "many_of_def" (.ref D) (aX "many_of_tag" (.ref dM) (aX "kind_of_tag" (.ref dT) (aX "kinds" (.ref dK) []))))))=Hi at ai oi bb aq|-;intro lO ac;have l6:(aX "gaps" (.ref M) (aX "many_of_def" (.ref D) (aX "many_of_tag" (.ref dM) (aX "kind_of_tag" (.ref dT) (aX "kinds" (.ref dK) []))))).length<1000:=by show 5<1000;omega
    have nO:lO≠o:=(ay oi ac).symm;have fO:H lO=none:=ai.so.free nO ac;have gO:M≠lO:=ay aq ac;have pO:Paired (λ(k:Str×List (Str×List Kk)) (e:Key×V)=>∃l,e=(Sum.inr k.1,V.ref l)/\l≠lO) m g:=Paired.imp' (λx e ⟨l,R,J⟩=>#[l,R,ay J ac]) ai.pk;have sj:=ae ac (.lst []);have a8:upd Hi lO (.lst []) lO=some (.lst []):=af;have oJ:=sj _ _ oi;have ba:=sj _ _ bb;have a9:=sj _ _ aq;have a3:=ai.same sj;generalize upd Hi lO (.lst [])=Hj at sj a8 oJ ba a9 a3|-;have ab:=a3.fld oJ (.ins C B (aX "opens" (.ref lO) (aX "gaps" (.ref M) (aX "many_of_def" (.ref D) (aX "many_of_tag" (.ref dM) (aX "kind_of_tag" (.ref dT) (aX "kinds" (.ref dK) [])))))));ext;have free:∀{b:Addr},H b=none->H0 b=none:=λ{b} e=>hs.free e;refine k _ #[B,dK,dT,dM,D,M,lO,g] #[λb u e=>?_,free fD,free fG,free fO,gO,kD,tD,mD,?_,ab.hK,?_,ab.hT,ab.hM,?_,?_,?_]
    .exact ab.so b u (ay e h0) (hs _ _ e)
    .rw[af];exact congrArg (λz=>some (HO.ins C B z)) (CZ #[B,dK,dT,dM,D,M,lO,g])
    .exact M9 ab.pk pG pO
    .rw[au nD];exact ba
    .rw[au nG];exact a9
    .rw[au nO];exact a8
end G14
namespace G14
open PySem L2 PySem.W
theorem Jm {d:Type}{P:List d->Prop}(h:∀a,P [a]):∀us:List d,us.length=1->P us
 | [a],_=>h a
theorem zC {d:Type}{P:List d->Prop}(h:∀a b,P [a,b]):∀us:List d,us.length=2->P us
 | [a,b],_=>h a b
theorem Jo {d:Type}{P:List d->Prop}(h:∀a b c,P [a,b,c]):∀us:List d,us.length=3->P us
 | [a,b,c],_=>h a b c
theorem Jp {g:Type}{P:List g->Prop}(h:∀a b c d e,P [a,b,c,d,e]):∀us:List g,us.length=5->P us
 | [a,b,c,d,e],_=>h a b c d e
noncomputable abbrev rW:Stmt:=K0 EU 0
theorem D7 :aZ VF VF (ak rW):=by ac_rfl
noncomputable abbrev qw:Stmt:=K0 Cy 0
theorem BO :aZ VF VF (ak qw):=by ac_rfl
noncomputable abbrev jP:Stmt:=K0 vU 0
theorem uF :aZ VF VF (ak jP):=by ac_rfl
theorem D8 (F:jq K "__init__" "Twice.__init__" rW f d)(o:wc K C "name"):cA P w K mg base gy 1 f d VF (xS C "name"):=by
 refine F.ok D7 (λe H Q E h=>?_) (λcdv A outer s H e Q E hr h=>?_)
 .have(x,y,rfl,_):=h;rfl
 have(x,y,rfl,g,go):=h;exact#[_,b9 (zb (pv 0) (pv 1)),_,rfl,_,rfl,x,C,rfl,g,o,λm l j=>go m l j]
theorem BP (F:jq K "__init__" "NoName.__init__" qw f d)(o:wc K C "name"):cA P w K mg base gy 1 f d VF (xS C "name"):=by
 refine F.ok BO (λe H Q E h=>?_) (λcdv A outer s H e Q E hr h=>?_)
 .have(x,y,rfl,_):=h;rfl
 have(x,y,rfl,g,go):=h;exact#[_,b9 (zb (pv 0) (pv 1)),_,rfl,_,rfl,x,C,rfl,g,o,λm l j=>go m l j]
theorem uG (F:jq K "__init__" "WrongCount.__init__" jP f d)(o:wc K C "name"):cA P w K mg base gy 1 f d VF (xS C "name"):=by
 refine F.ok uF (λe H Q E h=>?_) (λcdv A outer s H e Q E hr h=>?_)
 .have(x,y,rfl,_):=h;rfl
 have(x,y,rfl,g,go):=h;exact#[_,b9 (zb (pv 0) (pv 1)),_,rfl,_,rfl,x,C,rfl,g,o,λm l j=>go m l j]
theorem BQ (F:jq K "_law_named" "_law_named" aW gN nfd)(m:mg "_law_named"=some (.ref gN))(o:Binds K nfd U6 [])(q:jq K "_law_named_match" "_law_named_match" b6 gM mfd)(mM:mg "_law_named_match"=some (.ref gM))(r:Binds K mfd Vm [])(p:eL P w K mg base "_law_take" 1 U7 cC gT tfd)(l:eL P w K mg base "_law_named_leaf" 2 VE (wM K) gL lfd)(e:mg "len"=none)(g:mg "int"=none)(z_range:mg "range"=none)(d:mg "tuple"=none):∀n,cA P w K mg base gy (2*n+1) gN nfd U6 (fB K n):=by
 intro n
 induction n with
 |zero =>
  refine zT λt H Q E h=>?_;have(_,_,_,_,_,_,_,_,_,_,_,_,_,_,_,_,_,_,v,u,_):=h;omega
 |succ n ih =>
  rw[show 2*(n+1)+1=2*n+1+2 by omega];exact DM (j:=2*n+1) () F p #[ih,m,F.kp,o] #[BF () q p #[ih,m,F.kp,o] e z_range d,mM,q.kp,r] l e g
theorem Gz (F:jq K "_law_term_fault" "_law_term_fault" bY gH hfd)(l:mg "_law_term_fault"=some (.ref gH))(m:Binds K hfd Vf [])(o:eL P w K mg base "_law_within" 1 VX (qp K) gW wfd)(g:eL P w K mg base "_law_itself_fault" 4 Vf (tX K) gI ifd)(e:mg "zip"=none)(d:mg "list"=none):∀n,cA P w K mg base gy (n+4) gH hfd Vf (ue K n):=by
 intro n
 induction n with
 |zero =>
  refine zT λp H Q E h=>?_;have(_,_,_,_,_,_,_,_,_,_,_,_,_,_,_,_,_,h,_):=h;omega
 |succ n ih=>exact IL (j:=n+4) () F o g #[ih,l,F.kp,m] e d
theorem BR {d:List Addr}(h:(U1 K (.ref C) (d.map Value.ref) == some r)=true):U1 K (.ref C) (d.map Value.ref)=some r:=Pq h
theorem Jq (B:nL K b)(q1:ClsAt K m b (some (.ref J)))(C:ClsAt K l b (some (.ref I)))(y:ClsAt K g b (some (.ref H)))(h:D5 K [m,l,g] r b=true):Mh K m l g b r/\(wc K m "name"/\wc K l "name"/\wc K g "name")/\(Pd K (.ref m)=true/\Pd K (.ref l)=true/\Pd K (.ref g)=true):=by
 have all:∀k,k<3->Gy K ([m,l,g].getD k 0) b=true/\(∀j,j<3->RL K (.ref ([m,l,g].getD k 0)) (.ref ([m,l,g].getD j 0))=some (k == j))/\U1 K (.ref ([m,l,g].getD k 0)) (r.map Value.ref)=some false/\wQ K ([m,l,g].getD k 0) "name"=true:=λk D=>by
  have z:=NS.mp h k (Py.mpr D);simp only[NO]at z;exact#[z.1.1.1,λj G=>Pq (NS.mp z.1.1.2 j (Py.mpr G)),BR z.1.2,z.2]
 have q:=all 0 (by decide);have p:=all 1 (by decide);have o:=all 2 (by decide);have v:=zB q.1;have u:=zB p.1;have t:=zB o.1;refine#[#[λe=>?_,λe=>?_,λe d=>?_,λe=>?_,λe=>?_,λe=>?_],#[(lz q.2.2.2).1,(lz p.2.2.2).1,(lz o.2.2.2).1],v.2.2.2,u.2.2.2,t.2.2.2]
 .cases e with
  |tw=>exact q1.sub B
  |nn=>exact C.sub B
  |wr=>exact y.sub B
 .cases e with
  |tw=>exact v.1
  |nn=>exact u.1
  |wr=>exact t.1
 .cases e with
  |tw =>
   cases d with
   |tw=>exact q.2.1 0 (by decide)
   |nn=>exact q.2.1 1 (by decide)
   |wr=>exact q.2.1 2 (by decide)
  |nn =>
   cases d with
   |tw=>exact p.2.1 0 (by decide)
   |nn=>exact p.2.1 1 (by decide)
   |wr=>exact p.2.1 2 (by decide)
  |wr =>
   cases d with
   |tw=>exact o.2.1 0 (by decide)
   |nn=>exact o.2.1 1 (by decide)
   |wr=>exact o.2.1 2 (by decide)
 .cases e with
  |tw=>exact q.2.2.1
  |nn=>exact p.2.2.1
  |wr=>exact o.2.2.1
 .cases e with
  |tw=>exact v.2.2.1
  |nn=>exact u.2.2.1
  |wr=>exact t.2.2.1
 .cases e with
  |tw=>exact(lz q.2.2.2).2
  |nn=>exact(lz p.2.2.2).2
  |wr=>exact(lz o.2.2.2).2
structure FnAt(K:Frag) (x qual:Str) (st:Stmt) (f:Addr) (fd:L1):Prop where
 ex:∃(od:Option Addr) (kV doc pm:eF) (an:Option Addr) (cdv ct:eF) (osl:Array (Option eF)),
  fd=fnOf x qual (lI st) (bh st) (ak st) .none kV doc pm an cdv ct/\K.lookup f=some #[.type "function",od,.func fd,osl]/\Sy K cdv qual=true
 kp:Pd K (.ref f)=true
theorem FnAt.f {f:Addr}(F:FnAt K x d st f m):jq K x d st f m:=by
 have(p,kV,j,o,r,cdv,q,g,e,l,c):=F.ex;exact#[#[_,p,kV,j,o,r,cdv,q,g,e,l,c],F.kp]
theorem bz {kV:eF}(l:K.lookup f=some #[.type "function",od,.func (fnOf x d (lI st) (bh st) (ak st) .none kV e j m cdv ct),g])(c:Sy K cdv d=true)(k:Pd K (.ref f)=true):FnAt K x d st f (fnOf x d (lI st) (bh st) (ak st) .none kV e j m cdv ct):=#[#[od,kV,e,j,m,cdv,ct,g,rfl,l,c],k]
theorem FnAt.l {f:Addr}(F:FnAt K x g st f j):∃od d,K.lookup f=some #[.type "function",od,.func j,d]:=by
 have(od,kV,m,o,q,cdv,p,d,e,l,c):=F.ex;exact#[od,d,l]
noncomputable def uu(K:Frag)(a:Addr)(ns:List Nat):Bool:=match K.lookup a with
 |some ⟨.type "tuple",none,.seq its _,_⟩=>its.toList.length == ns.length&&(its.toList.zip ns).all (λp=>match p.1 with|.int i _=>i == (p.2:Int)|_=>false)
 |_=>false
theorem mj (h:uu K a ns=true)(hn:ns.length<=10):∀H,cP K H a (ns.map λ(j:Nat)=>V.int (j:Int)):=by
 intro H;unfold uu at h
 split at h
 .rename_i d n C e
  rw[NO]at h;have(g,p):=h
  replace g:=Pq g
  have u:d.size<=mH:=by
   have z:d.toList.length=d.size:=by simp
   exact small ()
  refine .inr #[_,d,n,e,rfl,rfl,u,?_,rfl];clear u e;generalize d.toList=l at g p;clear hn
  induction l generalizing ns with
  |nil=>cases ns with
   |nil=>exact .nil
   |cons _ _=>simp at g
  |cons v r ih =>
   cases ns with
   |nil=>simp at g
   |cons m q =>
    rw[Qd,SD,NO]at p;have(o,y):=p;refine .cons ?_ (ih (by simpa using g) y)
    split at o
    .rename_i i t B
     have:i=(m:Int):=Pq o;subst this;exact#[t,B]
    .cases o
 .cases h
structure j7(K:Frag) (x:Str) (st:Stmt) (f:Addr) (fd:L1):Prop where
 a:nsIn K NC x=some (some (.ref f))
 F:FnAt K x x st f fd
structure RG(P:IF) (w:Nn) (K:Frag) (mg:Str->Option eF) (base h:Heap):Prop where
 X:K.In h
 G:h.Ns NC mg
abbrev LS(x:Str)(st:Stmt)(ps:List Str):Prop:=∀(kV e g:eF) (l:Option Addr) (cdv j:eF) (d:List eF),d.length=ps.length->bindArgs (fnOf x x (lI st) (bh st) (ak st) .none kV e g l cdv j) #[d,[]]=pure (ps.zip d)
theorem j7.f (F:j7 K x st g fd):jq K x x st g fd:=F.F.f
theorem j7.b (F:j7 K x st g fd)(h:LS x st ps:=by intro _ _ _ _ _ _;first|exact Jm λ_=>rfl|exact zC λ_ _=>rfl|exact Jo λ_ _ _=>rfl|exact len4 λ_ _ _ _=>rfl|exact Jp λ_ _ _ _ _=>rfl):Binds K fd ps []:=F.F.f.binds h
theorem j7.has {sp:Sp}(F:j7 K x st g fd)(R:RG P w K mg base h)(k:Nat)(o:cA P w K mg base gy k g fd ps sp)(b:LS x st ps:=by intro _ _ _ _ _ _;first|exact Jm λ_=>rfl|exact zC λ_ _=>rfl|exact Jo λ_ _ _=>rfl|exact len4 λ_ _ _ _=>rfl|exact Jp λ_ _ _ _ _=>rfl):eL P w K mg base x k ps sp g fd:=#[o,QF R.X R.G F.a,F.F.kp,F.b b]
theorem j7.wR {sp:Sp}(F:j7 K x st g fd)(R:RG P w K mg base h)(k:Nat)(o:cA P w K mg base (xP P w) k g fd ps sp)(b:LS x st ps:=by intro _ _ _ _ _ _;first|exact Jm λ_=>rfl|exact zC λ_ _=>rfl|exact Jo λ_ _ _=>rfl|exact len4 λ_ _ _ _=>rfl|exact Jp λ_ _ _ _ _=>rfl):oh P w K mg base x k ps sp g fd:=#[o,QF R.X R.G F.a,F.F.kp,F.b b]
theorem all_mk {l:RP}{bg bf ay:Addr}{cg b7 bz bx bu br bq:L1}(X:K.In h)(G:h.Ns NC mg)(aj:mg "law"=some (.ref fa))(F1:j7 K "innermost" jv g1 e1)(F2:j7 K "right_in" jk g2 e2)(F3:j7 K "bound" nS g3 e3)(F4:j7 K "places" jW g4 e4)(F5:j7 K "tags_of" jQ g5 e5)(F6:j7 K "look_once" jw g6 e6)(F7:j7 K "look_tag" jX g7 e7)(F8:j7 K "look_kinds" iV g8 e8)(F9:j7 K "look_params" iu g9 e9)(F10:j7 K "look_gap" lK bg cg)(F11:j7 K "look_count" jM bf cf)(F12:j7 K "look_arms" iJ be ce)(F13:j7 K "look_term" jx bc cd)(F14:j7 K "look_names" iW bb cb)(F15:j7 K "_law_feed" sV ba ca)(F16:j7 K "_law_take" sW a9 b8)(F17:j7 K "_law_names" cZ a8 b7)(F18:j7 K "_law_named_kind" dF a7 b5)(F19:j7 K "_law_heads" jR a6 b4)(F20:j7 K "_law_named_leaf" bX a5 b3)(F21:j7 K "_law_named_match" b6 a4 b2)(F22:j7 K "_law_named" aW a3 b1)(F23:j7 K "_law_named_program" aQ a2 b0)(F24:j7 K "_law_within" jY a1 bz)(F25:j7 K "_law_leaf_kind" iw a0 bx)(F26:j7 K "_law_kind_fault" gQ az bw)(F27:j7 K "_law_kinds_fault" eR ay bv)(F28:j7 K "_law_arms_fault" dH ax bu)(F29:j7 K "_law_itself_fault" fL aw bt)(F30:j7 K "_law_term_fault" bY av bs)(F31:j7 K "_law_due" iX as br)(F32:j7 K "_law_told" ni ar bq)(F33:j7 K "_law_other_kind" gU aq bp)(F34:j7 K "_law_other_kind_row" bZ ap bo)(F35:j7 K "_law_other_head" dJ ao bn)(F36:j7 K "_law_changed" fQ am bm)(F37:j7 K "law" nj al bl)(ab:nsIn K NC "GapError"=some (some (.ref b)))(ac1:nsIn K NC "Twice"=some (some (.ref W)))(ac2:nsIn K NC "NoName"=some (some (.ref U)))(ac3:nsIn K NC "WrongCount"=some (some (.ref S)))(ao0:nsIn K NC "BadText"=some (some (.ref o0)))(ao1:nsIn K NC "Clash"=some (some (.ref o1)))(ao2:nsIn K NC "NoGap"=some (some (.ref o2)))(ao3:nsIn K NC "NoRow"=some (some (.ref o3)))(ao4:nsIn K NC "TooLong"=some (some (.ref o4)))(ao5:nsIn K NC "TooMany"=some (some (.ref o5)))(j1:Of K (.ref W) "__init__"=some (some (.ref f1)))(j2:Of K (.ref U) "__init__"=some (some (.ref f2)))(j3:Of K (.ref S) "__init__"=some (some (.ref f3)))(B:nL K b)(y1:ClsAt K W b (some (.ref f1)))(y2:ClsAt K U b (some (.ref f2)))(y3:ClsAt K S b (some (.ref f3)))(I1:FnAt K "__init__" "Twice.__init__" rW f1 d1)(I2:FnAt K "__init__" "NoName.__init__" qw f2 d2)(I3:FnAt K "__init__" "WrongCount.__init__" jP f3 d3)(tB:D5 K [W,U,S] [o0,o1,o2,o3,o4,o5] b=true)(aK:nsIn K NC "Known"=some (some (.ref C)))(bK:Of K (.ref C) "__init__"=some (some (.ref mI)))(iK:isFn K (.ref mI)=true)(MK:FnAt K "__init__" "Known.__init__" fS mI dI)(k1:plainGet K C Nt=true)(k2:P9 K C=true)(k3:plainOver K C=true)(k4:Of K (.ref C) "__setattr__"=some (some (.builtin "object.__setattr__")))(k5:makesIn K C=true)(k6:Pd K (.ref C)=true)(n1:Of K (.ref C) "kinds"=some none)(n2:Of K (.ref C) "kind_of_tag"=some none)(n3:Of K (.ref C) "many_of_tag"=some none)(n4:Of K (.ref C) "many_of_def"=some none)(n5:Of K (.ref C) "gaps"=some none)(n6:Of K (.ref C) "opens"=some none)(pP:nsIn K NC "PLACES"=some (some (.ref dP)))(lP:K.lookup dP=some {cls:=.type "dict",dict:=none,data:=.dict O nP,slots:=#[]})(kP:GL w O.toList [("num",V.ref t0),("name",V.ref t1),("gap",V.ref t2),("op",V.ref t3),("more",V.ref t4),("first",V.ref t5),("others",V.ref t6),("long",V.ref t7),("if",V.ref t8)])(sP:(dP == OV)=false)(pM:nsIn K NC "PLACE_OF_MANY"=some (some (.ref dM)))(lM:K.lookup dM=some {cls:=.type "dict",dict:=none,data:=.dict Q nM,slots:=#[]})(kM:GL w Q.toList tY)(sM:(dM == OV)=false)(q0:uu K t0 []=true)(q1:uu K t1 []=true)(q2:uu K t2 []=true)(q3:uu K t3 [2,3]=true)(q4:uu K t4 [1,2]=true)(q5:uu K t5 [1]=true)(q6:uu K t6 [1]=true)(q7:uu K t7 [1]=true)(q8:uu K t8 [1,2,3]=true)(z0:nsIn K NC "len"=some none)(z1:nsIn K NC "range"=some none)(z2:nsIn K NC "int"=some none)(z3:nsIn K NC "tuple"=some none)(z4:nsIn K NC "list"=some none)(z5:nsIn K NC "zip"=some none)(z6:nsIn K NC "repr"=some none)(z7:nsIn K NC "all"=some none)(z8:nsIn K NC "sum"=some none)(z9:nsIn K NC "isinstance"=some none)(z10:nsIn K NC "enumerate"=some none)(z11:nsIn K NC "sorted"=some none)(z12:nsIn K NC "ValueError"=some none):
  ∃fd:L1,(∀(s:fy) (v:eF),Us s fd #[[v],[]] [("_law_script",v)])/\∀base:Heap,K.In base->base.Ns NC mg->cA l.prog w K mg base gy 17 fa fd ["_law_script"] (AI K):=by
 have e:=aj.symm.trans (QF X G F37.a)
 cases e
 have D1:=I1.f.binds (ps:=VF) λ_ _ _ _ _ _=>zC λ_ _=>rfl;have D2:=I2.f.binds (ps:=VF) λ_ _ _ _ _ _=>zC λ_ _=>rfl;have D3:=I3.f.binds (ps:=VF) λ_ _ _ _ _ _=>zC λ_ _=>rfl;have DK:=MK.f.binds (ps:=VI) λ_ _ _ _ _ _=>zC λ_ _=>rfl;have d:=Pg X G z0;have z_range:=Pg X G z1;have p:=Pg X G z2;have g:=Pg X G z3;have t:=Pg X G z4;have J:=Pg X G z5;have I:=Pg X G z6;have M:=Pg X G z7;have L:=Pg X G z8;have m:=Pg X G z9;have y:=Pg X G z10;have z:=Pg X G z11;have u:=Pg X G z12
 have TB:Kh K w mg dP dM [("num",V.ref t0),("name",V.ref t1),("gap",V.ref t2),("op",V.ref t3),("more",V.ref t4),("first",V.ref t5),("others",V.ref t6),("long",V.ref t7),("if",V.ref t8)]:={
  mP:=QF X G pP,mM:=QF X G pM,kP:=#[O,nP,lP,kP,(show(["num","name","gap","op","more","first","others","long","if"]:List Str).Nodup by decide),sP],kM:=#[Q,nM,lM,kM,by decide,sM],
  at_:=λf ps hm=>by
   unfold placesOf at hm;simp only[Nc,NB,or_false,Prod.mk.injEq]at hm;rcases hm with⟨rfl,rfl⟩|⟨rfl,rfl⟩|⟨rfl,rfl⟩|⟨rfl,rfl⟩|⟨rfl,rfl⟩|⟨rfl,rfl⟩|⟨rfl,rfl⟩|⟨rfl,rfl⟩|⟨rfl,rfl⟩
   .exact#[t0,rfl,mj q0 (by decide)]
   .exact#[t1,rfl,mj q1 (by decide)]
   .exact#[t2,rfl,mj q2 (by decide)]
   .exact#[t3,rfl,mj q3 (by decide)]
   .exact#[t4,rfl,mj q4 (by decide)]
   .exact#[t5,rfl,mj q5 (by decide)]
   .exact#[t6,rfl,mj q6 (by decide)]
   .exact#[t7,rfl,mj q7 (by decide)]
   .exact#[t8,rfl,mj q8 (by decide)]}
 have(C3,(bk,bj,bi),ai,ah,ag):=Jq B y1 y2 y3 tB;have N:Jr K C:=#[#[k1,k2,k3,k4],n1,n2,n3,n4,n5,n6];have(od,kV,T,pm,an,cdv,ct,ae,rfl,lk,cc):=F37.F.ex;refine#[fnOf "law" "law" (lI nj) (bh nj) (ak nj) .none kV T pm an cdv ct,λs v=>.of_eq rfl,λbase _ _=>?_];have R:RG l.prog w K mg base h:=#[X,G];have D:BV l.prog w K mg base "Twice" "name" W f1 d1:=#[y1.k (x:="") (q:="") (st:=rW) B I1.l ai,D8 I1.f bk,QF X G ac1,D1,y1.c];have o:BV l.prog w K mg base "NoName" "name" U f2 d2:=#[y2.k (x:="") (q:="") (st:=qw) B I2.l ah,BP I2.f bj,QF X G ac2,D2,y2.c];have r:BV l.prog w K mg base "WrongCount" "name" S f3 d3:=#[y3.k (x:="") (q:="") (st:=jP) B I3.l ag,uG I3.f bi,QF X G ac3,D3,y3.c];have IM:=F1.has R 1 (wC F1.f);have RI:=F2.has R 1 (yh F2.f TB);have c7:=F3.has R 1 (Dj F3.f g);have ck:=F4.has R 2 (Bx F4.f c7 RI);have cj:=F5.has R 1 (zh F5.f);have c0:Kp l.prog w K mg base C "__init__" 2 _ _ mI dI:=#[D6 MK.f N cj d,#[bK,iK,MK.kp],DK,N.c];have LO:=F6.wR R 3 (Fd F6.f D y);have aa:=F10.wR R 3 (Iu F10.f D);have cr:=F7.wR R 3 (Iv F7.f IM o);have cv:=F8.wR R 4 (CS (cW:=S) F8.f LO cr);have cs:=F9.wR R 4 (Bq (cW:=S) F9.f N LO aa IM o);have ac:=F11.wR R 3 (C5 F11.f o r d);have cx:=F12.wR R 4 (Ft F12.f N LO ac o r z);have cq:=F13.wR R 5 (Dc F13.f N LO ac cx aa o);have cu:=F14.wR R 6 (BG F14.f N #[k5,bK,iK,k6] c0 (QF X G aK) LO cv cs ck cq t d);have FD:=F15.has R 1 (EX F15.f d);have H:=F16.has R 1 (EW F16.f);have NM:=F17.has R 2 (Dy F17.f H z_range d p);have Z:=F18.has R 2 (Dz F18.f H z_range d);have c4:=F19.has R 3 (DA F19.f H Z z_range g);have cp:=F20.has R 2 (DG F20.f H d);have co:=F22.has R 15 (BQ F22.f (QF X G F22.a) F22.b F21.f (QF X G F21.a) F21.b H cp d p z_range g 7);have cn:=F23.has R 16 (DT (n:=7) (j:=15) (by decide) (by decide) F23.f H NM c4 Z co d z_range g);have WI:=F24.has R 1 (BB F24.f t p);have cw:=F25.has R 1 (C1 F25.f g m);have ad:=F26.has R 2 (C2 F26.f cw);have cy:=F27.has R 3 (Bp F27.f ad d);have c9:=F28.has R 3 (C9 F28.f d M z_range);have cz:=F29.has R 4 (Bt F29.f c9 d p);have ch:=F30.has R 14 (Gz F30.f (QF X G F30.a) F30.b WI cz J t 10);have c5:=F31.has R 15 (Jj (n:=10) (j:=14) (by decide) F31.f cy ad ch d);have ci:=F32.has R 7 (Gw F32.f cu C3 (QF X G ab) (QF X G ac1) (QF X G ac2) (QF X G ac3) (QF X G ao0) (QF X G ao1) (QF X G ao2) (QF X G ao3) (QF X G ao4) (QF X G ao5) m u L p);have Y:=F33.has R 2 (DU F33.f H z_range);have cl:=F34.has R 3 (DV F34.f H Y d);have cm:=F35.has R 3 (DW F35.f H Y d p);have c6:=F36.has R 4 (zx F36.f H cl cm d t g);exact Jk (n:=10) (jp:=16) (jd:=15) (j:=16) (by decide) (by decide) (by decide) (by decide) #[#[_,od,kV,T,pm,an,cdv,ct,ae,rfl,lk,cc],F37.F.kp] FD H cn ci c5 c6 z_range I
theorem walk {l:RP}{K:Params->bN}(hn:l.most=some 63)(g:d.params.defaults=[])(hY:∀(w:Nn) (h:Heap),o w h->(K w.params).In h)(F:∀(w:Nn) (mg:Str->Option eF) (m:Addr) (h:Heap),(K w.params).In h->h.Ns NC mg->mg d.name=some (.ref m) ->
   ∃j:L1,(∀(s:fy) (u:eF),Us s j #[[u],[]] [("_law_script",u)])/\∀base:Heap,(K w.params).In base->base.Ns NC mg->cA l.prog w (K w.params) mg base gy 17 m j ["_law_script"] (AI (K w.params))):
  U3 q e v o l.row.toRowW d [] (λf vs=>UY f vs) :=
 L2.Ey (n:=63) (k:=17) (x:="_law_script") (CX:=λ_=>gy) (sp:=λw=>AI (K w.params)) hn (by decide) g #[rfl,by decide,by decide,rfl] hY F (λ_ _ a p r _ t=>#[a,p,rfl,t,r,λ_=>rfl]) λ_ _ _ _ _ z=>z
end G14
namespace PySem.W.Fast
theorem tw16894877991743655206:True:=⟨⟩
theorem tw15137483812528517451:True:=⟨⟩
theorem tw7014944253668080339:True:=⟨⟩
theorem tw7797966775457837260:True:=⟨⟩
theorem tw11182312622218741549:True:=⟨⟩
theorem tw11181649933274476038:True:=⟨⟩
theorem tw10244644100349864792:True:=⟨⟩
theorem tw16734097620834400883:True:=⟨⟩
theorem tw8819842761506397938:True:=⟨⟩
theorem tw8216661503900900445:True:=⟨⟩
theorem tw13695581675044074153:True:=⟨⟩
theorem tw8349044732005334240:True:=⟨⟩
theorem tw11250054710159132025:True:=⟨⟩
theorem tw13444757872589156967:True:=⟨⟩
theorem tw12283114694745269201:True:=⟨⟩
theorem tw14341736028475541187:True:=⟨⟩
theorem tw3706259575666857268:True:=⟨⟩
theorem tw1538426901791290441:True:=⟨⟩
theorem tw6564887018184489647:True:=⟨⟩
theorem tw783504702711883701:True:=⟨⟩
theorem tw3522169317641657139:True:=⟨⟩
theorem tw10044697944551322030:True:=⟨⟩
theorem tw3900565598343904920:True:=⟨⟩
theorem tw7979724294664291012:True:=⟨⟩
theorem tw3411418245855290071:True:=⟨⟩
theorem tw6345197321793168070:True:=⟨⟩
theorem tw17744034291431840730:True:=⟨⟩
theorem tw11083227572280902745:True:=⟨⟩
theorem tw3862514039376284875:True:=⟨⟩
theorem tw2794951374777321300:True:=⟨⟩
theorem tw7540474825461850292:True:=⟨⟩
theorem tw8421530820502423542:True:=⟨⟩
theorem tw2461515382414987856:True:=⟨⟩
theorem tw9714247546374055595:True:=⟨⟩
theorem tw13715015262683812669:True:=⟨⟩
theorem tw4280176260732341078:True:=⟨⟩
theorem tw8768758451263406784:True:=⟨⟩
theorem tw2652873129604359808:True:=⟨⟩
theorem tw429656671760879810:True:=⟨⟩
theorem tw16568114173475120623:True:=⟨⟩
theorem tw7565498898872085397:True:=⟨⟩
theorem tw14939391399859873740:True:=⟨⟩
theorem tw13627184221253637530:True:=⟨⟩
theorem tw16310552468263658181:True:=⟨⟩
theorem tw14566801856829765266:True:=⟨⟩
theorem tw4860328654778686869:True:=⟨⟩
theorem tw4115212404986660142:True:=⟨⟩
theorem tw1822171673929672627:True:=⟨⟩
theorem tw6151092991000643793:True:=⟨⟩
theorem tw15925301420034877984:True:=⟨⟩
theorem tw3124638724816422939:True:=⟨⟩
theorem tw15207447937003303233:True:=⟨⟩
theorem tw14734061887642695821:True:=⟨⟩
theorem tw612241478021577575:True:=⟨⟩
theorem tw11649332370905262786:True:=⟨⟩
theorem tw5037501846663594475:True:=⟨⟩
theorem tw7973204961975703229:True:=⟨⟩
theorem tw1214509402654474925:True:=⟨⟩
theorem tw16947892503093509182:True:=⟨⟩
theorem tw93373645032561570:True:=⟨⟩
theorem tw4678661499140654958:True:=⟨⟩
theorem tw137002960531161378:True:=⟨⟩
theorem tw6114291256189672482:True:=⟨⟩
theorem tw9010743019017238546:True:=⟨⟩
theorem tw16495639194640820329:True:=⟨⟩
theorem tw900212186690677304:True:=⟨⟩
theorem tw10843777761922277563:True:=⟨⟩
theorem tw8811663756274057195:True:=⟨⟩
theorem tw16091000419971166379:True:=⟨⟩
theorem tw13551561547830736647:True:=⟨⟩
theorem tw10988864080638507949:True:=⟨⟩
theorem tw1615756865528496360:True:=⟨⟩
theorem tw11719657688880060628:True:=⟨⟩
theorem tw7928057497800470745:True:=⟨⟩
theorem tw4416939896107584358:True:=⟨⟩
theorem tw1808552725766764109:True:=⟨⟩
theorem tw14553487086631377889:True:=⟨⟩
theorem tw9454119551319623559:True:=⟨⟩
theorem tw7175627543634843938:True:=⟨⟩
theorem tw7679037167689772924:True:=⟨⟩
theorem tw16975450826640667915:True:=⟨⟩
theorem tw263148503395738329:True:=⟨⟩
theorem tw17667891517144329592:True:=⟨⟩
theorem tw14359556777542864855:True:=⟨⟩
theorem tw2955121933648080728:True:=⟨⟩
theorem tw11036134807395434550:True:=⟨⟩
theorem tw432800817940749648:True:=⟨⟩
theorem tw15301155794507996563:True:=⟨⟩
theorem tw15690648901947050363:True:=⟨⟩
theorem tw12695892000499259852:True:=⟨⟩
theorem tw4973586738466608968:True:=⟨⟩
theorem tw17897095490719880086:True:=⟨⟩
theorem tw12706482111105368455:True:=⟨⟩
theorem tw568272237576064299:True:=⟨⟩
theorem tw2349885700527666536:True:=⟨⟩
theorem tw18364884405535406806:True:=⟨⟩
theorem tw1846032651960255495:True:=⟨⟩
theorem tw16600313713993488482:True:=⟨⟩
theorem tw1326135194617114368:True:=⟨⟩
theorem tw12431228957666318903:True:=⟨⟩
theorem tw8686491273051153290:True:=⟨⟩
theorem tw779675284396956968:True:=⟨⟩
theorem tw17126292978213757782:True:=⟨⟩
theorem tw7220775964309377030:True:=⟨⟩
theorem tw15820594851266236975:True:=⟨⟩
theorem tw407478933977137959:True:=⟨⟩
theorem tw2269338596476798692:True:=⟨⟩
theorem tw7817079955355571147:True:=⟨⟩
theorem tw9440559974832869195:True:=⟨⟩
theorem tw16702180466693457567:True:=⟨⟩
theorem tw3734677476537391010:True:=⟨⟩
theorem tw16213469187988136269:True:=⟨⟩
theorem tw5648034084092201354:True:=⟨⟩
theorem tw10621795312547518091:True:=⟨⟩
theorem tw10239670341913890401:True:=⟨⟩
theorem tw4507141041892398635:True:=⟨⟩
theorem tw9309708781485813582:True:=⟨⟩
theorem tw11121448712774809077:True:=⟨⟩
theorem tw5368193566692512015:True:=⟨⟩
theorem tw10092068981054993655:True:=⟨⟩
theorem tw8183339419413962575:True:=⟨⟩
theorem tw6312302721938712254:True:=⟨⟩
theorem tw13922395049330832268:True:=⟨⟩
theorem tw17232908379260171743:True:=⟨⟩
theorem tw10960851045602285238:True:=⟨⟩
theorem tw15086886080512454687:True:=⟨⟩
theorem tw11573022187566911317:True:=⟨⟩
theorem tw8004669634906648672:True:=⟨⟩
theorem tw4842061899926823311:True:=⟨⟩
theorem tw12663271942527771791:True:=⟨⟩
theorem tw11097026762302264824:True:=⟨⟩
theorem tw12487405450035973403:True:=⟨⟩
theorem tw11338977892232439645:True:=⟨⟩
theorem tw13686532790628947023:True:=⟨⟩
theorem tw4057364052715635706:True:=⟨⟩
theorem tw5336790627045050917:True:=⟨⟩
theorem tw11641883966252565037:True:=⟨⟩
theorem tw10282428105491174978:True:=⟨⟩
theorem tw7003705031617579843:True:=⟨⟩
theorem tw1701554375254707435:True:=⟨⟩
theorem tw14974139619952122047:True:=⟨⟩
theorem tw8519001034305111451:True:=⟨⟩
theorem tw6905520910691640526:True:=⟨⟩
theorem tw15159348649360611952:True:=⟨⟩
theorem tw7045624543387466108:True:=⟨⟩
theorem tw3179621282884568242:True:=⟨⟩
theorem tw2930473033794304879:True:=⟨⟩
theorem tw14173019792186233749:True:=⟨⟩
theorem tw6942450291544124769:True:=⟨⟩
theorem tw9280249942243327111:True:=⟨⟩
theorem tw11250874886395574427:True:=⟨⟩
theorem tw17333166835493183737:True:=⟨⟩
theorem tw12282514363853915534:True:=⟨⟩
theorem tw566342680781328091:True:=⟨⟩
theorem tw2558170771428592531:True:=⟨⟩
theorem tw13895396421387633768:True:=⟨⟩
theorem tw4307733960423940773:True:=⟨⟩
theorem tw12905495426305590539:True:=⟨⟩
theorem tw18386329898394826047:True:=⟨⟩
theorem tw13112504004905279469:True:=⟨⟩
theorem tw10116717499236342527:True:=⟨⟩
theorem tw10343174678873577417:True:=⟨⟩
theorem tw5081432038365807051:True:=⟨⟩
theorem tw6473385112753845663:True:=⟨⟩
theorem tw17589740012131636136:True:=⟨⟩
theorem tw8734213132372940110:True:=⟨⟩
theorem tw8277262938722801594:True:=⟨⟩
theorem tw13988834292377238715:True:=⟨⟩
theorem tw5620008663412739524:True:=⟨⟩
theorem tw9987562936358357492:True:=⟨⟩
theorem tw423668712090407912:True:=⟨⟩
theorem tw1306043824194659795:True:=⟨⟩
theorem tw5802867708609100248:True:=⟨⟩
theorem tw16066265180665689654:True:=⟨⟩
theorem tw5768240611144478956:True:=⟨⟩
theorem tw6400964262219548901:True:=⟨⟩
theorem tw5540757826133450628:True:=⟨⟩
theorem tw11292400020846366743:True:=⟨⟩
theorem tw594123716386749047:True:=⟨⟩
theorem tw11066026815632443550:True:=⟨⟩
theorem tw7617494002068642566:True:=⟨⟩
theorem tw3674787064508280641:True:=⟨⟩
theorem tw5939853186988481960:True:=⟨⟩
theorem tw353942945197609846:True:=⟨⟩
theorem tw17173257643477089471:True:=⟨⟩
theorem tw16468708260621947932:True:=⟨⟩
theorem tw17827287641249432493:True:=⟨⟩
theorem tw4979756913348159801:True:=⟨⟩
theorem tw2949967850491752359:True:=⟨⟩
theorem tw9648687402198524981:True:=⟨⟩
theorem tw8839783607157399949:True:=⟨⟩
theorem tw7796581534319524628:True:=⟨⟩
theorem tw7160822405813825787:True:=⟨⟩
theorem tw5988953023897181798:True:=⟨⟩
theorem tw13005290314639907909:True:=⟨⟩
theorem tw14831506977581841396:True:=⟨⟩
theorem tw18387463774895399010:True:=⟨⟩
theorem tw4971702469213465789:True:=⟨⟩
theorem tw14040568043830886129:True:=⟨⟩
theorem tw1419001539797128131:True:=⟨⟩
theorem tw7277091381845263678:True:=⟨⟩
theorem tw11967442032361823408:True:=⟨⟩
theorem tw1479536553341522358:True:=⟨⟩
theorem tw12383860663856274020:True:=⟨⟩
theorem tw3039268573346681846:True:=⟨⟩
theorem tw16411760389613368502:True:=⟨⟩
theorem tw13002780491409100675:True:=⟨⟩
theorem tw6442734411564565207:True:=⟨⟩
theorem tw5858523254499269596:True:=⟨⟩
theorem tw2851478099755369960:True:=⟨⟩
theorem tw5724270685545408459:True:=⟨⟩
theorem tw6561394739803821289:True:=⟨⟩
theorem tw9195309795895099866:True:=⟨⟩
theorem tw9706261496968810871:True:=⟨⟩
theorem tw18092267523927040844:True:=⟨⟩
theorem tw6146125193221363781:True:=⟨⟩
theorem tw8160862320390589864:True:=⟨⟩
theorem tw13419045415306747876:True:=⟨⟩
theorem tw2115495246870843411:True:=⟨⟩
theorem tw557017859299904485:True:=⟨⟩
theorem tw1294227822953165090:True:=⟨⟩
theorem tw1005356968543035544:True:=⟨⟩
theorem tw17204611053403873006:True:=⟨⟩
theorem tw14570409191317442254:True:=⟨⟩
theorem tw14066450120598573339:True:=⟨⟩
theorem tw1931379158873104824:True:=⟨⟩
theorem tw16355927945078981774:True:=⟨⟩
theorem tw17881266794175814516:True:=⟨⟩
theorem tw8405737134654969634:True:=⟨⟩
theorem tw14440785507828919955:True:=⟨⟩
theorem tw7654641895292242800:True:=⟨⟩
theorem tw5331170241224884327:True:=⟨⟩
theorem tw12081028909687238158:True:=⟨⟩
theorem tw13697163375835865012:True:=⟨⟩
theorem tw1759435055662292115:True:=⟨⟩
theorem tw8702668480968704655:True:=⟨⟩
theorem tw4673280941554498413:True:=⟨⟩
theorem tw13832761790954639812:True:=⟨⟩
theorem tw3321946993574732349:True:=⟨⟩
theorem tw15153887690751891153:True:=⟨⟩
theorem tw10095979678294456312:True:=⟨⟩
theorem tw15750924794169642220:True:=⟨⟩
theorem tw7512542586561646803:True:=⟨⟩
theorem tw13919212973150203754:True:=⟨⟩
theorem tw18439983487257355463:True:=⟨⟩
theorem tw3417350654909977099:True:=⟨⟩
theorem tw17564353139277578411:True:=⟨⟩
theorem tw16832356702954831288:True:=⟨⟩
theorem tw9555869575132006838:True:=⟨⟩
theorem tw4918364188950820006:True:=⟨⟩
theorem tw17420408075579444853:True:=⟨⟩
theorem tw14903870709291346463:True:=⟨⟩
theorem tw4821957091166769464:True:=⟨⟩
theorem tw18336280797413412774:True:=⟨⟩
theorem tw16450748715435645350:True:=⟨⟩
theorem tw14192964067207494372:True:=⟨⟩
theorem tw756125317410931357:True:=⟨⟩
theorem tw7545247302701878951:True:=⟨⟩
theorem tw17698054600162661129:True:=⟨⟩
theorem tw16779931788834158127:True:=⟨⟩
theorem tw11978568787185592055:True:=⟨⟩
theorem tw11650556922432826953:True:=⟨⟩
theorem tw8287159070555678380:True:=⟨⟩
theorem tw1960593551964910769:True:=⟨⟩
theorem tw10898885291500541384:True:=⟨⟩
theorem tw11509463631063950673:True:=⟨⟩
theorem tw18387605942109801396:True:=⟨⟩
theorem tw6689841680833789520:True:=⟨⟩
theorem tw6514788779316430098:True:=⟨⟩
theorem tw17358786743069778690:True:=⟨⟩
theorem tw16944071874566369793:True:=⟨⟩
theorem tw15705628979709781438:True:=⟨⟩
theorem tw14798070565635157903:True:=⟨⟩
theorem tw2435650102476465571:True:=⟨⟩
theorem tw13154214026487395671:True:=⟨⟩
theorem tw17673932378835071921:True:=⟨⟩
theorem tw253221241682703939:True:=⟨⟩
theorem tw15374114905438469829:True:=⟨⟩
theorem tw17701878920795086219:True:=⟨⟩
theorem tw9121147215402998242:True:=⟨⟩
theorem tw8168548405863313938:True:=⟨⟩
theorem tw6274605295461661515:True:=⟨⟩
theorem tw10781470712468585082:True:=⟨⟩
theorem tw3656520995576840276:True:=⟨⟩
end PySem.W.Fast
open PySem PySem.W PyProof.Rows
set_option maxRecDepth 100000 in
set_option maxHeartbeats 0 in
theorem PySem.Challenge.cw_gapwork_k14_kinds_and_heads_amiss_holds : PySem.Challenge.rw_gapwork_k14_kinds_and_heads_amiss.Holds := by
  w_on; o_law; k_head; (case hw => w_witness2)
  k_fill
  refine G14.walk (l := PySem.Challenge.rw_gapwork_k14_kinds_and_heads_amiss) rfl rfl (λw h Y => PySem.W.kIn_of Y) ?F
  case F =>
    intro w mg fa h KX G hmg
    apply G14.all_mk KX G hmg
    case F1|F2|F3|F4|F5|F6|F7|F8|F9|F10|F11|F12|F13|F14|F15|F16|F17|F18|F19|F20|F21|F22|F23|F24|F25|F26|F27|F28|F29|F30|F31|F32|F33|F34|F35|F36|F37=>exact #[by k_is, G14.bz (by k_is) (by k_is) (by k_is)]
    case ab|ac1|ac2|ac3|ao0|ao1|ao2|ao3|ao4|ao5|j1|j2|j3|aK|bK|k1|k2|k3|k4|k5|k6|n1|n2|n3|n4|n5|n6|pP|lP|pM|lM|z0|z1|z2|z3|z4|z5|z6|z7|z8|z9|z10|z11|z12=>k_is
    case B|y1|y2|y3=>exact ⟨#[_, _, _, _, _, _, _, _, _, _, _, _, _, _, _, by k_is, _, _, _, _, _, by k_is, by kernel_rfl, by kernel_rfl]⟩
    case tB|sP|sM|q0|q1|q2|q3|q4|q5|q6|q7|q8=>kernel_rfl
    case kP=>exact #[_, _, _, rfl, #[_, rfl], rfl, rfl, #[_, _, _, rfl, #[_, rfl], rfl, rfl, #[_, _, _, rfl, #[_, rfl], rfl, rfl, #[_, _, _, rfl, #[_, rfl], rfl, rfl, #[_, _, _, rfl, #[_, rfl], rfl, rfl, #[_, _, _, rfl, #[_, rfl], rfl, rfl, #[_, _, _, rfl, #[_, rfl], rfl, rfl, #[_, _, _, rfl, #[_, rfl], rfl, rfl, #[_, _, _, rfl, #[_, rfl], rfl, rfl, rfl]]]]]]]]]
    case kM=>exact #[_, _, _, rfl, #[_, rfl], rfl, #[_, rfl], #[_, _, _, rfl, #[_, rfl], rfl, #[_, rfl], #[_, _, _, rfl, #[_, rfl], rfl, #[_, rfl], rfl]]]
    case I1|I2|I3=>exact G14.bz (by k_is) (by k_is) (by k_is)
    case iK=>k_is
    case MK=>exact G14.bz (by k_is) (by k_is) (by k_is)
#print axioms PySem.Challenge.cw_gapwork_k14_kinds_and_heads_amiss_holds

import PyProof.Rows.All
import Wide.All
import OpenK.AllK
import Wide.FinOn
import PyProof.EqAt
import PyProof.EqKinds
import PyProof.NeKinds
import PyProof.TupleCall
import PyProof.StrLawsRepr
import KE.KIsAll
import KE.KItem
import KE.KDictOf
import KE.KBytesAny
import KE.KDictList
import Lean
import PySem.Challenge.RW_gapwork_k14_kinds_and_heads_amiss
local macro_rules|`(tactic|decide)=>`(tactic|decide +kernel)
local macro_rules|`(tactic|left)=>`(tactic|(show _=_;kernel_rfl))
local macro_rules|`(())=>`(by omega)
local macro_rules|`(tactic|right)=>`(tactic|try dsimp only[L2.bj])
open Lean in
def rP:Nat->Syntax->MacroM (TSyntax `rcasesPat)
 |0,_=>Macro.throwUnsupported
 |n+1,s=>match s with
  |`(($a,$b,*))=>do
   let x<-rP n a
   let y<-b.getElems.mapM fun z=>rP n z
   let x:=#[x]++y
   `(rcasesPat|⟨$[$x:rcasesPat],*⟩)
  |`(_)=>`(rcasesPat|_)
  |`($i:ident)=>`(rcasesPat|$i:ident)
  |_=>Macro.throwUnsupported
local macro_rules|`(tactic|have($a,$b,*):=$e)=>do
 let x<-rP 9 a
 let y<-b.getElems.mapM fun z=>rP 9 z
 let x:=#[x]++y
 `(tactic|obtain⟨$[$x:rcasesPat],*⟩:=$e)
local macro_rules|`(#[$x,*])=>if x.elemsAndSeps.size<2||x.elemsAndSeps.size%2==0 then Lean.Macro.throwUnsupported else `(⟨$x,*⟩)
local macro_rules|`(tactic|omega)=>`(tactic|first|lia|omega +splitDisjunctions)
set_option Elab.async false
set_option linter.all false
set_option maxRecDepth 100000
open Array renaming length_toList->OY,getElem?_setIfInBounds_self_of_lt->Qi,mem_toList_iff->Ry,toList_append->RO,getElem?_eq_some_iff->Sb,getElem?_toList->Ti,append_assoc->Ub,find?_toList->Uc
open Bool renaming false_ne_true->Nk,and_eq_true->NJ,false_eq_true->Px,or_eq_true->Qc,eq_iff_iff->QD,or_true->RS,and_false->Tr
open False renaming elim->OA
open Int renaming toNat_natCast->OL,zero_add->Q9,emod_lt_of_pos->R9,emod_nonneg->Te,ediv_one->Ut
open LawfulBEq renaming eq_of_beq->Pn
open List renaming getElem?_eq_some_iff->bH,length_map->bM,length_append->i4,map_append->lj,take_succ_eq_append_getElem->mu,getElem?_eq_getElem->my,mem_append_right->we,getElem?_map->EF,mem_singleton->IF,length_take->L1,size_toArray->M6,mem_append->M7,mem_cons->M8,mem_of_getElem?->M9,replicate->Nb,take_length->Nl,length_cons->Np,map_cons->Nr,not_mem_nil->Nv,append_nil->Ny,mem_map->ND,drop_eq_getElem_cons->NF,mem_append_left->NG,drop_length->NH,lookup_cons->NK,getElem?_append_right->NN,all_eq_true->NO,getElem_mem->NP,flatMap_append->NQ,getElem?_of_mem->NR,mem_map_of_mem->NT,length_drop->NW,getElem?_append_left->NY,map_map->NZ,mem_of_mem_take->N9,append_assoc->Oa,find?_cons->Ob,mem_cons_of_mem->Oe,zipWith->Og,take_of_length_le->Oh,getD_eq_getElem?_getD->Om,length_zipWith->Oz,nodup_append->OC,mem_cons_self->OF,length_replicate->OM,mem_of_mem_drop->OQ,map_nil->OS,flatMap_cons->OT,filterMap_cons->OX,nodup_cons->O0,lookup->O6,range->Pa,of_mem_zip->Pc,replicate_succ->Pf,length_reverse->Pg,map_take->Pk,mem_flatMap->Pr,mem_range->Pu,contains_cons->Pz,find?_eq_none->PB,mem_of_find?_eq_some->PC,nil_append->PF,reverse_cons->PR,getElem?_replicate->PY,take_zero->PZ,length_eq_zero_iff->P0,getElem?_set_self->P4,drop_of_length_le->P6,zip_cons_cons->P8,length_nil->Qa,eq_nil_or_concat->Qg,take_sublist->Qh,getElem?_set_ne->Qj,cons_append->Qq,getElem?_eq_none_iff->Qt,mem_or_eq_of_mem_set->Qv,forIn_cons->QE,getElem?_take->QJ,length->QL,pairwise_singleton->QN,getElem?_cons_zero->QO,any_eq_false->QX,flatten_cons->Q3,forIn_nil->Q4,length_range->Ra,length_singleton->Rg,getElem?_eq_none->Rh,getElem?_zipWith->Ri,take_append_drop->Rk,length_filter_le->Rl,getElem_map->Ro,any_cons->Rt,map_drop->Rw,length_set->RE,range_succ->RL,mem_filterMap->RY,getElem?_drop->Sd,all_cons->Sy,flatMap_nil->SM,mem_filter->S9,isPerm_iff->Tg,concat_eq_append->Tj,getElem_reverse->Tv,length_take_le'->Tz,nodup_nil->TH,getElem_toArray->TM,reverse_append->T3,filterMap_map->Ug,pairwise_cons->Uj,append_of_mem->Uk,mem_replicate->Ul,Sublist->UA,getElem_drop->UB,zipIdx_cons->UJ,any_eq_true->UK,map_reverse->UL,foldl->UW
open List.Sublist renaming map->Qs
open Nat renaming le_refl->i5,lt_of_lt_of_le->Nd,zero_le->Nn,ne_of_lt->Nt,le_trans->Nu,lt_irrefl->N7,le_of_lt->Ol,le_succ->Ot,lt_succ_self->O1,max_eq_left->Pd,le_add_right->Po,succ_le_succ->Pq,min_eq_left->PJ,mul_le_mul_right->PU,ne_of_gt->QU,lt_succ_of_lt->Q6,min_self->Q7,lt_of_le_of_lt->R7,le_max_right->SK,min_eq_right->SN,succ_mul->S4,sub_self->S6,le_max_left->Td,add_le_add_left->TX,mul_le_mul_left->T4,le_of_eq->Up,le_total->Uv,not_lt->UY
open Ne renaming symm->PK
open Option renaming map_eq_some_iff->xn,bind_some->Pp,map_eq_none_iff->P7,map_some->RH,isSome_map->Sk,map_map->TJ,getD_none->UG
open Option.some renaming inj->Ng,injEq->Q5
open Prod.mk renaming inj->Sm
open PyProof.Rows renaming envOfC->Nj,slot_tuple_getitem->NI,boot_tuple->NX,boot_isinstance->Ow,boot_int->OB,boot_list->OW,callWith_type1->Ph,boot_repr->P9,entry_tuple_getitem->RM,AllBare->RP,assignInOrder_cons->RW,args_tuple_getitem->R3,boot_sorted->SA,Subscript_->SX,subscriptTail_builtinR->SY,tupleItemsOf_->T7,subscriptTail->T8,IntsAre->UR,IsTup->US
open PyProof.Rows.IsTup renaming new->TQ
open PySem renaming wpAny_bind->cB,Value->eF,Shared->fy,sizeLine->mH,wpAny_pure->vv,Program->I0,FuncData->M5,wpAny->Na,model->Nf,boot_len->Nh,World->Ni,Around->Nq,mainGlobals->Nx,wpAny_mono->Nz,wpAny_newObj_type->NL,wpAny_field->NU,foldedSetIterable->NV,starEach->N8,sliceBounds->Oj,wpAny_holding->Oo,compareOp->Ox,wpAny_callSpecial?_slot->OD,Env->OE,wpAny_standAt->OG,mem_of_lookup->OH,Scope->OI,sysModules->OR,wpAny_seqItems->OV,letOwnedTupleGo->OZ,wpAny_Call_Name_kw->O2,wpAny_call_entry->O3,codeAny->O5,DictEntry->O7,wpAny_loadPart_at->O8,strKind->Pj,wpAny_setField_rec->Py,wpAny_passesOwn->PD,wpAny_truthy_bool->PM,binaryOp->PN,rawInt->Qd,IsPair->Qe,sizeLine_eq->Qk,NameKind->Ql,excClassObj->Qn,codeAny_mono->Qo,valueAt->Qp,wpAny_isSubtype_exc->Qx,attributeBase->Qz,wpAny_comprehension_free->QB,assignEach->QF,tupleKind_room_in1->QG,preSum->QK,bootBuiltins->QT,wpAny_pyIter_list->QV,Builtin->QW,getItem->Q2,wpAny_setField->Q8,plainObj_wpAny_Assign_Attribute->Rc,cLine->Rf,swapsWith->Rm,pyNext->Rn,wpAny_isInstance->Rq,wpAny_onRaise->Ru,strLen_append->Rv,wpAny_newFunctionEnv->Rz,wpAny_updateSeq_pair->RA,unbindBehindTheSuite->RB,wpAny_execs_nil->RD,wpAny_loadPart'->RK,wpAny_typeOf->RQ,backTo->RT,assign->RV,wpAny_rule->RX,wpAny_loadPart->RZ,wpAny_call->R0,wpAny_newFunctionEnv_cells->R1,typeIs_int->R5,call_meets->R6,sliceRange->R8,holding->Sh,wpAny_sequenceKey->Si,slot_list_getitem->Sj,behindInMarks->Ss,IsPart->Sw,wpAny_getItem_list_slice->Sx,wpAny_attempt->Sz,wpAny_execs_cons->SG,noFill_tuple_add->SI,wpAny_Call_method0_late->SJ,Within->SR,standAt->SS,Result->SV,codeAny_loop->S5,codeAny_compStart_dict->S8,IsZip->Tf,codeAny_call_function->Th,bindName->Tn,wpAny_bindName->To,pyIter->Tp,subscripted->Tq,compTurn->Tt,wpAny_noted->Tu,tupleKind->TN,callerA->TR,noteFrame->TU,evalArgs_none->TV,assignInOrder->T5,seq_tuple_add->T6,isInstance->Uh,BindsTo->Ur,concat_meets->Us,compEnvC->Uu,wpAny_mkText->Uz,nsFind->UC,cellsFrom->UE,slicePick->UH,seqItems?->UI,Model->UM,atKey->UN,getAttr->UQ,bindL->UT,bindC->UU,call->UX,field->UZ
open PySem.Around renaming under->SW,under_plainId->TL
open PySem.Builtin.List renaming listTooLong->PV
open PySem.Builtin.Slice renaming slicePlaces->Ou,sliceApplied->Pw,sliceAdjust->Qu,sliceFields->Se
open PySem.Builtin.SmallTypes renaming nextOf->NS,ownedTupleIsFree->OO,ownedTupleHandOut->Qw
open PySem.Builtin.Tuple renaming tupleExact->Oi,tupleItemsOf->Qm
open PySem.Calls renaming Name_function_global->RU,callWith_builtin->S3
open PySem.Code renaming quiet_builtin->Ui,isFrame->Uq
open PySem.EntryCells renaming newEntry->TZ
open PySem.F renaming slot_tuple_iterator_next->OU,plainAttrs_list->P1,slot_zip_next->Qf,args_tuple_add_2->QA,args_tuple_iterator_next_1->QH,entry_tuple_add->QM,entry_tuple_iterator_next->QS,slot_tuple_add->Q0,plain_sum_loop->Rr,slot_dict_itemiterator_iter->RC,slot_dict_getitem->Sf,slot_list_extend->SD,type_list_extend->SE,args_zip_next_1->SO,attr_ValueError->SQ,entry_zip_next->S7
open PySem.Heap renaming get?_push_of_some->tF,lt_size->L0,get?_push_size->Nc,size_push->Oc,get?_update_other->Ov,get?_update_self->ON,SameBut->PL,get?_update_ne->Qy,get?_none_of_le->Rx,ExtBut->Tw,get?_push_at->Ux
open PySem.Heap.DictOf renaming new->Tc
open PySem.Heap.IsSliceOf renaming new->R4
open PySem.Heap.SameBut renaming update->TY
open PySem.Obj renaming mapFields->PX,data_mapFields->QI,isFreed_of_fields->Rj,mapSeq->S2,cls_mapFields->Uw
open PySem.PassesOwn renaming never->NC
open PySem.PyData renaming keyHash->Sa
open PySem.SeqAt renaming EqAt->OP
open PySem.SeqAt.EqAt renaming int_str->T9,str_int->Ua
open PySem.Shared renaming heap->UO
open PySem.Str renaming empty->NB,ofString->Of,length->S1
open PySem.Txt renaming slice->O4,mul->Sl,slice_le->Um
open PySem.Value renaming isStrOf->Sq
open PySem.W renaming Frag->bN,findIn->Od,emptyDict->OJ,instObj->O9,keepIn->Pb,mg_none_of->Pe,hasDictIn->P5,mg_of->QC,cellsFrom_some->QY,fnOf->QZ,takerIn->Rb,kitOne->RJ,OpenLaw->RN,methodObj->Sg,lookIn->Su,codeIn->Sv,plainGet->SH,callWith_K->Ud,codeRec_of->Ue,plainOver->Uo,looks_findIn->Uy,handedIn->UD,makesIn->UP,kitAny->U0,WalkO->U1
open Sum.inr renaming inj->Oq
abbrev U3:List PySem.Str:=["_law_feed_here","_law_scene","_law_around","_law_room","_law_down","_law_form","_law_share","_law_x","_law_y","_law_one","_law_other","_law_some","_law_name","_law_many"]
abbrev U4:List PySem.Str:=["_law_feed_here","_law_room","_law_names_here","_law_kinds","_law_scene","_law_name","_law_tags","_law_told_here","_law_opens","_law_defs","_law_k","_law_params"]
abbrev U5:List PySem.Str:=["_law_feed_here","_law_scene","_law_around","_law_room","_law_down"]
abbrev U6:List PySem.Str:=["_law_feed_here","_law_many"]
abbrev U7:List PySem.Str:=["_law_feed_here","_law_scene","_law_around","_law_share","_law_down","_law_name","_law_tags","_law_first","_law_arms","_law_t","_law_inner","_law_turn","_law_own"]
abbrev U8:List PySem.Str:=["_law_scope","_law_arms","_law_t","_law_names_here","_law_inner","_law_some","_law_told_here","_law_twice"]
abbrev U9:List PySem.Str:=["_law_feed_here","_law_program","_law_words","_law_kinds","_law_defs","_law_word","_law_form","_law_at","_law_spot","_law_f","_law_params","_law_term"]
abbrev Va:List PySem.Str:=["_law_feed_here","_law_many","_law_letters","_law_stem","_law_first","_law_at","_law_turn","_law_kept","_law_found","_law_k","_law_sign","_law_name"]
abbrev Vb:List PySem.Str:=["_law_program","_law_scope","_law_fault","_law_f","_law_params","_law_term","_law_around","_law_x","_law_kind"]
abbrev Vc:List PySem.Str:=["_law_feed_here","_law_told_here","_law_word","_law_f","_law_params","_law_term","_law_form","_law_at","_law_x","_law_kind","_law_fresh"]
abbrev Vd:List PySem.Str:=["_law_scope","_law_term","_law_around","_law_fault","_law_some","_law_inner","_law_own"]
abbrev Ve:List PySem.Str:=["_law_scope","_law_term","_law_around"]
abbrev Vf:List PySem.Str:=["_law_feed_here","_law_told_here","_law_word","_law_name","_law_tags","_law_at","_law_t","_law_inner","_law_form","_law_spot"]
abbrev Vg:List PySem.Str:=["_law_script","_law_program","_law_words","_law_turn","_law_feed_here","_law_other","_law_change","_law_due_here"]
abbrev Vh:List PySem.Str:=["_law_t","_law_names_here","_law_inner"]
abbrev Vi:List PySem.Str:=["_law_feed_here","_law_names_here","_law_found","_law_at","_law_k","_law_own","_law_j","_law_some"]
abbrev Vj:List PySem.Str:=["_law_scope","_law_kinds","_law_name","_law_tags","_law_t","_law_inner","_law_kind","_law_fault"]
abbrev Vk:List PySem.Str:=["_law_feed_here","_law_ahead","_law_opens"]
abbrev Vl:List PySem.Str:=["_law_feed_here","_law_scene","_law_around","_law_share","_law_down"]
abbrev Vm:List PySem.Str:=["_law_feed_here","_law_ahead","_law_opens","_law_form","_law_found","_law_turn"]
abbrev Vn:List PySem.Str:=["_law_feed_here","_law_scene","_law_around","_law_form"]
abbrev Vo:List PySem.Str:=["_law_x","_law_feed_here","_law_told_here","_law_opens"]
abbrev Vp:List PySem.Str:=["_law_feed_here","_law_told_here","_law_word"]
abbrev Vq:List PySem.Str:=["_law_t","_law_names_here","_law_inner","_law_around"]
abbrev Vr:List PySem.Str:=["tag","name","inner"]
abbrev Vs:List PySem.Str:=["name","tags","tag","inner"]
abbrev Vt:List PySem.Str:=["params","term","told","waiting","names","here"]
abbrev Vu:List PySem.Str:=["_law_scope","_law_kind","_law_fixed"]
abbrev Vv:List PySem.Str:=["_law_program","_law_caught","_law_found","e","_law_sorts","_law_others"]
abbrev Vw:List PySem.Str:=["_law_i","_law_feed_here","_law_names_here","_law_k"]
abbrev Vx:List PySem.Str:=["program","kinds","defs","known","name","params","term","names","here"]
abbrev Vy:List PySem.Str:=["_law_t","_law_inner"]
abbrev Vz:List PySem.Str:=["tag","names","inner"]
abbrev VA:List PySem.Str:=["_law_k","_law_names_here"]
abbrev VB:List PySem.Str:=["_law_scope","_law_term","_law_around","_law_word","_law_there"]
abbrev VC:List PySem.Str:=["arms","known","tag","names","inner","kind"]
abbrev VD:List PySem.Str:=["_law_feed_here","_law_scene","_law_around"]
abbrev VE:List PySem.Str:=["self","name"]
abbrev VF:List PySem.Str:=["kinds","ahead","tags_ahead","name","tags","tag","inner"]
abbrev VG:List PySem.Str:=["_law_feed_here","_law_word","_law_found","_law_turn"]
abbrev VH:List PySem.Str:=["self","program"]
abbrev VI:List PySem.Str:=["name","things","counts"]
abbrev VJ:List PySem.Str:=["_law_scope","_law_kind","_law_fixed","_law_leaf"]
abbrev VL:List PySem.Str:=["_law_feed_here","_law_word"]
abbrev VM:List PySem.Str:=["params","known","ahead","name","kind","core"]
abbrev VN:List PySem.Str:=["_law_j","_law_scene","_law_turn"]
abbrev VO:List PySem.Str:=["_law_feed_here","_law_program","_law_words"]
abbrev VP:List PySem.Str:=["others","inner","names"]
abbrev VQ:List PySem.Str:=["_law_program"]
abbrev VR:List PySem.Str:=["_law_k","_law_feed_here","_law_letters"]
abbrev VS:List PySem.Str:=["_law_feed_here","_law_names_here"]
abbrev VT:List PySem.Str:=["program","kinds","defs"]
abbrev VU:List PySem.Str:=["names","others","other"]
abbrev VW:List PySem.Str:=["_law_term"]
abbrev VX:List PySem.Str:=["_law_name","_law_tags"]
abbrev VY:List PySem.Str:=["inner","ahead","kind","core"]
abbrev VZ:List PySem.Str:=["term","names","known","form"]
abbrev V0:List PySem.Str:=["_law_feed_here","_law_room"]
abbrev V1:List PySem.Str:=["name","tags"]
abbrev V2:List PySem.Str:=["_law_x","_law_kind"]
abbrev V3:List PySem.Str:=["_law_scope","_law_kinds"]
abbrev V4:List PySem.Str:=["_law_t","_law_told_here"]
abbrev V5:List PySem.Str:=["n","ahead"]
abbrev V6:List PySem.Str:=["_law_kind"]
abbrev V7:List PySem.Str:=["_law_scope","_law_arms"]
abbrev V8:List PySem.Str:=["_law_script","_law_k"]
abbrev V9:List PySem.Str:=["term","names","known"]
abbrev Wa:List PySem.Str:=["program"]
abbrev Wb:List PySem.Str:=["name","other"]
abbrev Wc:List PySem.Str:=["param","kind"]
abbrev Wd:List PySem.Str:=["names"]
namespace L2
open PySem PySem.Spec PyProof.Rows
abbrev Key:=Sum Int Str
noncomputable def su:Key->eF->Bool
 |.inl k,v=>Value.isInt k v
 |.inr x,v=>Sq x v
noncomputable def K1(w:Ni):Key->Int
 |.inl k=>hashInt k
 |.inr x=>hashStr w x
theorem er :∀{k:Key}{v:eF},su k v=true->(∃i t,k=Sum.inl i/\v=Value.int i t)\/(∃x t,k=Sum.inr x/\v=Value.str x t)
 |.inl i,v,h=>by
  have(t,e):=eF.isInt_shape (k:=i) (v:=v) h;exact .inl #[i,t,rfl,e]
 |.inr x,v,h=>by
  have(t,e):=eF.isStrOf_shape (x:=x) (v:=v) h;exact .inr #[x,t,rfl,e]
theorem AN (i:Int)(t:Tok):su (.inl i) (.int i t)=true:=by simp[su,Value.isInt]
theorem AO (x:Str)(t:Tok):su (.inr x) (.str x t)=true:=by simp[su,Sq]
theorem G4 (a b:Int):decide ((Sum.inl a:Key)=Sum.inl b)=(a == b):=by
 by_cases e:a=b
 .subst e;simp
 .have h:¬(Sum.inl a:Key)=Sum.inl b:=λq=>e (Sum.inl.inj q);rw[decide_eq_false h];exact(beq_eq_false_iff_ne.mpr e).symm
theorem G7 (a b:Str):decide ((Sum.inr a:Key)=Sum.inr b)=decide (a=b):=by
 by_cases e:a=b
 .subst e;simp
 .have h:¬(Sum.inr a:Key)=Sum.inr b:=λq=>e (Oq q);rw[decide_eq_false h,decide_eq_false e]
theorem G8 (a:Int)(b:Str):decide ((Sum.inl a:Key)=Sum.inr b)=false:=decide_eq_false nofun
theorem G9 (a:Str)(b:Int):decide ((Sum.inr a:Key)=Sum.inl b)=false:=decide_eq_false nofun
noncomputable def bx(prog:I0)(w:Ni):PySem.KeyKind prog w Key where
 is:=su
 hash:=K1 w
 inj:=λv a b m g=>by
  rcases er m with⟨i,t,rfl,rfl⟩|⟨x,t,rfl,rfl⟩
  .rcases er g with⟨j,u,rfl,e⟩|⟨y,u,rfl,e⟩
   .injection e with e1 _;rw[e1]
   .exact nomatch e
  .rcases er g with⟨j,u,rfl,e⟩|⟨y,u,rfl,e⟩
   .exact nomatch e
   .injection e with e1 _;rw[e1]
 byValue:=λk v h=>by
  rcases er h with⟨i,t,rfl,rfl⟩|⟨x,t,rfl,rfl⟩<;>rfl
 pyHash:=λd h=>by
  rcases er d with⟨i,t,rfl,rfl⟩|⟨x,t,rfl,rfl⟩
  .exact wpAny_pyHash_int h
  .exact wpAny_pyHash_str h
 eqBool:=λl d h=>by
  rcases er l with⟨i,t,rfl,rfl⟩|⟨x,t,rfl,rfl⟩
  .rcases er d with⟨j,u,rfl,rfl⟩|⟨y,u,rfl,rfl⟩
   .rw[G4]at h;exact wpAny_eqBool_int h
   .rw[G8]at h;exact T9 i t y u _ _ _ _ h
  .rcases er d with⟨j,u,rfl,rfl⟩|⟨y,u,rfl,rfl⟩
   .rw[G9]at h;exact Ua x t j u _ _ _ _ h
   .rw[G7]at h;exact wpAny_eqBool_str h
 «strs»:=λk x t v h=>by
  rcases er h with⟨i,u,rfl,e⟩|⟨y,u,rfl,e⟩
  .exact nomatch e
  .injection e with e1 _;subst e1
   cases v<;>rfl
theorem xg (prog:I0)(w:Ni)(i:Int)(t:Tok):(bx prog w).is (.inl i) (.int i t)=true:=AN i t
theorem xh (prog:I0)(w:Ni)(x:Str)(t:Tok):(bx prog w).is (.inr x) (.str x t)=true:=AO x t
inductive V where
 |eN|bl (b:Bool)|int (i:Int)|str (x:Str)|byt (b:Array UInt8)|flt (b:UInt64)|ref (a:Addr)|ty (n:String)
 deriving DecidableEq
def RelV:V->eF->Prop
 |.eN,u=>u=Value.none
 |.bl b,u=>u=Value.bool b
 |.int i,u=>∃t,u=Value.int i t
 |.str x,u=>∃t,u=Value.str x t
 |.byt b,u=>∃t,u=Value.bytes b t
 |.flt b,u=>∃t,u=Value.float b t
 |.ref a,u=>u=Value.ref a
 |.ty n,u=>u=Value.type n
abbrev Vals:List V->List eF->Prop:=Paired RelV
theorem Vals.length (r:Vals xs us):xs.length=us.length:=Paired.length r
theorem Vals.get :∀{xs:List V}{us:List eF}{i:Nat}{x:V},Vals xs us->xs[i]?=some x->∃u,us[i]?=some u/\RelV x u
 |_,_,_,_,.nil,e=>by simp at e
 |_,_,0,_,.cons r _,e=>by simp at e;subst e;exact#[_,rfl,r]
 |_,_,i+1,x,.cons _ t,e=>by
  have(u,g,d):=Vals.get (i:=i) (x:=x) t (by simpa using e);exact#[u,by simpa using g,d]
theorem Vals.set (r:RelV x u):∀{xs:List V}{us:List eF}(i:Nat),Vals xs us->Vals (xs.set i x) (us.set i u)
 |_,_,_,.nil=>.nil
 |_,_,0,.cons _ t=>.cons r t
 |_,_,i+1,.cons q t=>.cons q (Vals.set r i t)
theorem Vals.append :∀{xs ys:List V}{us d:List eF},Vals xs us->Vals ys d->Vals (xs++ys) (us++d)
 |_,_,_,_,.nil,s=>s
 |_,_,_,_,.cons r t,s=>.cons r (Vals.append t s)
theorem Vals.take :∀{xs:List V}{us:List eF}(n:Nat),Vals xs us->Vals (xs.take n) (us.take n)
 |_,_,0,_=>.nil
 |_,_,_+1,.nil=>.nil
 |_,_,n+1,.cons r t=>.cons r (Vals.take n t)
theorem Vals.drop :∀{xs:List V}{us:List eF}(n:Nat),Vals xs us->Vals (xs.drop n) (us.drop n)
 |_,_,0,r=>r
 |_,_,_+1,.nil=>.nil
 |_,_,n+1,.cons _ t=>Vals.drop n t
theorem Vals.none_of :∀{xs:List V}{us:List eF}{i:Nat},Vals xs us->xs[i]?=none->us[i]?=none:=λ{xs us i} r e=>by
 have g:=r.length;have d:xs.length<=i:=Qt.mp e;exact Qt.mpr ()
def lC:Option V->Option eF->Prop
 |some v,some u=>RelV v u
 |none,none=>True
 |_,_=>False
def KV{d:Type}:List (d×V)->List (d×eF)->Prop:=Paired λ(p:d×V) (q:d×eF)=>p.1=q.1/\RelV p.2 q.2
noncomputable def kV:Key->V
 |.inl i=>.int i
 |.inr x=>.str x
inductive HO where
 /-- a list -/
 |lst (xs:List V)
 /-- a tuple (never changes) -/
 |tup (xs:List V)
 /-- a dict whose keys are ints and texts;one whose keys are tuples of ints and texts (the empty one is both) -/
 |dK (kvs:List (Key×V))|dT (kvs:List (List Key×V))
 /-- a set of ints: its members,its size -/
 |set (S:Int->Bool) (n:Nat)
 /-- an instance of the class at C,its dict at dx,its attributes -/
 |ins (C dx:Addr) (fs:List (Str×V))
 /-- the dict of the instance at x -/
 |own (x:Addr)
 /-- the dict of an exception -/
 |xd (fs:List (Str×V))
 /-- a bound method,f of x -/
 |met (f x:Addr)
 /-- a range object lo,lo+1,.. below hi -/
 |rng (lo hi:Int)
 /-- a thing that is known to the object (the script;a dict while a loop walks it): read,never written while it is so -/
 |nH (o:Obj) (u:HO)
 /-- a code object's table -/
 |tbl (ps:Array eF)
 /-- any other thing,by what is true of its one object (a def of one's own: SetO a S n:=HO.ext λh=>..) -/
 |ext (φ:Heap->Prop)
abbrev Hp:=Addr->Option HO
noncomputable def upd(H:Hp)(a:Addr)(o:HO):Hp:=λb=>if b=a then some o else H b
theorem af :upd H a o a=some o:=by unfold upd;rw[if_pos rfl]
theorem au (h:b≠a):upd H a o b=H b:=by unfold upd;rw[if_neg h]
theorem jt {H:Hp}(h:H a=some o)(h':H b=some u)(d:o≠u):a≠b:=by
 intro e;subst e;rw[h]at h';exact d (Ng h')
theorem ay {H:Hp}(h:H a=some o)(h':H b=none):a≠b:=by
 intro e;subst e;rw[h]at h';cases h'
section
variable (P:I0) (w:Ni)
def Mf(h:Heap)(a:Addr):Prop:=∃o,h.get? a=some o/\o.dict=none
def eM(H:Hp)(h:Heap)(a:Addr):HO->Prop
 |.lst e=>e.length<=mH/\∃(d:List eF) (n:Nat),Vals e d/\h.get? a=some {cls:=.type "list",data:=.seq d.toArray n}
 |.tup e=>e.length<=mH/\∃d:List eF,Vals e d/\US h a d.toArray/\Mf h a
 |.dK kvs=>kvs.length<=mH/\(a == OR)=false/\∃l,KV kvs l/\h.DictOf (bx P w) a l
 |.dT kvs=>kvs.length<=mH/\(a == OR)=false/\∃e:List (List Key×Addr×eF),
   Paired (λ(p:List Key×V) (q:List Key×Addr×eF)=>p.1=q.1/\H q.2.1=some (.tup (p.1.map kV))/\RelV p.2 q.2.2) kvs e /\
   ∃o y z,h.get? a=some o/\o.ExactDict/\o.data=.dict y z/\y.toList=e.map (entryOfKey (TN (bx P w)))/\(e.map (·.1)).Nodup
 |.set S n=>h.SetOf (intKind P w) a S n
 |.ins C dx fs=>H dx=some (.own a)/\fs.length<=1000/\dx≠a/\h.get? a=some (O9 C dx) /\
   ∃g,h.Ns1 dx g/\(∀f,lC (fs.lookup f) (g f))/\SR g (fs.map (·.1))
 |.own _=>∃o,h.get? a=some o
 |.xd fs=>∃g,h.Ns1 a g/\∀f,lC (fs.lookup f) (g f)
 |.rng lo hi=>∃t u v,h.get? a=some {cls:=.type "range",data:=.fields #[.int lo t,.int hi u,.int 1 v,]}
 |.nH o u=>h.get? a=some o/\eM H h a u
 |.tbl ps=>h.get? a=some {cls:=.none,data:=.fields ps}
 |.met f x=>h.get? a=some (Sg (.ref f) (.ref x))
 |.ext φ=>φ h/\(∃o,h.get? a=some o)/\∀r m:Heap,φ r->(∀o,r.get? a=some o->m.get? a=some o)->φ m
def mQ(H:Hp)(h:Heap):Prop:=∀a o,H a=some o->eM P w H h a o
end
theorem eM.lt (x:eM P w H h a o):a<h.objs.size:=by
 cases o with
 |lst xs=>have(_,_,_,_,e):=x;exact L0 e
 |tup xs=>have(_,_,_,p,_):=x;exact p.lt
 |dK kvs=>have(_,_,_,_,o,_,_,e,_):=x;exact L0 e
 |dT kvs=>have(_,_,_,_,o,_,_,e,_):=x;exact L0 e
 |set S n=>have(o,_,_,_,e,_):=x;exact L0 e
 |ins C dx fs=>have(_,_,_,e,_):=x;exact L0 e
 |own y=>have(_,e):=x;exact L0 e
 |xd fs=>have(_,(_,_,_,e,_),_):=x;exact L0 e
 |rng lo hi=>have(_,_,_,e):=x;exact L0 e
 |nH ob u=>have(e,_):=x;exact L0 e
 |tbl ps=>exact L0 (show h.get? a=some _ from x)
 |met f y=>exact L0 (show h.get? a=some _ from x)
 |ext φ=>have(_,(_,e),_):=x;exact L0 e
theorem Paired.Eg {F G:e->d->Prop}:∀{l₁:List e}{l₂:List d},Paired F l₁ l₂->(∀a b,F a b->G a b)->Paired G l₁ l₂
 |_,_,.nil,_=>.nil
 |_,_,.cons r t,f=>.cons (f _ _ r) (Paired.Eg t f)
theorem Paired.imp' {F G:e->d->Prop}(f:∀a b,F a b->G a b){l₁:List e}{l₂:List d}(r:Paired F l₁ l₂):Paired G l₁ l₂:=Paired.Eg r f
theorem eM.stay (x:eM P w H h a o)(k:∀b u,(b=a\/H b=some (.own a))->h.get? b=some u->h'.get? b=some u)(ho:∀b,H b=some (.own a)->H' b=some (.own a))(ht:∀b xs,H b=some (.tup xs)->H' b=some (.tup xs)):eM P w H' h' a o:=by
 induction o with
 |lst xs=>have(z,B,n,r,e):=x;exact#[z,B,n,r,k _ _ (.inl rfl) e]
 |tup xs=>have(z,B,r,(g,e,c),M,I,Q):=x;exact#[z,B,r,#[g,k _ _ (.inl rfl) e,c],M,k _ _ (.inl rfl) I,Q]
 |dK kvs=>have(z,y,L,r,g,l,m,e,c):=x;exact#[z,y,L,r,g,l,m,k _ _ (.inl rfl) e,c]
 |dT kvs =>
  have(z,y,xs,r,g,l,m,e,c):=x;exact#[z,y,xs,Paired.Eg r λp q z=>#[z.1,ht _ _ z.2.1,z.2.2],g,l,m,k _ _ (.inl rfl) e,c]
 |set S n=>have(g,l,m,t,e,c):=x;exact#[g,l,m,t,k _ _ (.inl rfl) e,c]
 |ins C dx fs =>
  have(d,z,O,e,G,(D,l,m,I,c),r):=x;exact#[ho _ d,z,O,k _ _ (.inl rfl) e,G,#[D,l,m,k _ _ (.inr d) I,c],r]
 |own y=>have(g,e):=x;exact#[g,k _ _ (.inl rfl) e]
 |xd fs=>have(G,(D,l,m,e,c),r):=x;exact#[G,#[D,l,m,k _ _ (.inl rfl) e,c],r]
 |rng lo hi=>have(t,u,v,e):=x;exact#[t,u,v,k _ _ (.inl rfl) e]
 |nH g u ih=>have(e,q):=x;exact#[k _ _ (.inl rfl) e,ih q]
 |tbl ps =>
  have e:h.get? a=some {cls:=.none,data:=.fields ps}:=x;show h'.get? a=some {cls:=.none,data:=.fields ps};exact k a _ (.inl rfl) e
 |met f y =>
  have e:h.get? a=some (Sg (.ref f) (.ref y)):=x;show h'.get? a=some (Sg (.ref f) (.ref y));exact k a _ (.inl rfl) e
 |ext φ=>have(p,(o,e),J):=x;exact#[J _ _ p λo q=>k _ _ (.inl rfl) q,#[o,k _ _ (.inl rfl) e],J]
theorem mQ.lt (x:mQ P w H h)(e:H a=some o):a<h.objs.size:=(x a o e).lt
theorem mQ.fresh (x:mQ P w H h)(e:h.objs.size<=a):H a=none:=by
 cases q:H a with
 |none=>rfl
 |some u=>exact absurd (Nd (x.lt q) e) (N7 _)
theorem mQ.kept (x:mQ P w H h)(k:∀b u,h.get? b=some u->h'.get? b=some u):mQ P w H h':=λa o e =>
 (x a o e).stay (λb u _ q=>k b u q) (λ_ q=>q) λ_ _ q=>q
theorem mQ.laid (x:mQ P w H h)(k:∀b u,h.get? b=some u->h'.get? b=some u)(l:h.objs.size<=a)(new:eM P w (upd H a o) h' a o):mQ P w (upd H a o) h':=λb u e=>by
 have d:=x.fresh l
 by_cases g:b=a
 .subst g;rw[af]at e;cases e;exact new
 .rw[au g]at e;exact(x b u e).stay (λc v _ q=>k c v q) (λc q=>by rw[au (ay q d)];exact q) λc m q=>by rw[au (ay q d)];exact q
def Rd(H:Hp)(a:Addr)(u:HO):Prop:=H a=some u\/∃o,H a=some (.nH o u)
theorem Rd.ok (r:Rd H a u)(x:mQ P w H h):eM P w H h a u:=by
 rcases r with r|⟨o,r⟩
 .exact x a u r
 .have(_,q):=x a _ r;exact q
def Js:Option HO->Prop
 |some (.lst _)=>True
 |some (.dK _)=>True
 |some (.dT _)=>True
 |some (.set _ _)=>True
 |some (.ins _ _ _)=>True
 |some (.ext _)=>True
 |_=>False
theorem mQ.write (ok:mQ P w H h)(o:Js (H x))(C:e=x\/H e=some (.own x))(k:∀b u,b≠e->h.get? b=some u->h'.get? b=some u)(t:∃u,h'.get? e=some u)(new:eM P w (upd H x o') h' x o'):mQ P w (upd H x o') h':=λb u q=>by
 have g:∀c y,H c=some (.own y)->c≠x:=λc y r z=>by subst z;rw[r]at o;exact o
 have l:∀c m,H c=some (.tup m)->c≠x:=λc m r z=>by subst z;rw[r]at o;exact o
 by_cases p:b=x
 .subst p;rw[af]at q;cases q;exact new
 .rw[au p]at q
  by_cases d:b=e
  .have B:H b=some (.own x):=by
    rcases C with z|z
    .exact absurd (d.trans z) p
    .rw[d];exact z
   rw[q]at B;cases B;have(v,D):=t;exact#[v,by rw[d];exact D]
  .refine(ok b u q).stay (λc v hc r=>k c v ?_ r) (λc r=>by rw[au (g c b r)];exact r) λc m r=>by rw[au (l c m r)];exact r
   rcases hc with rfl|hc
   .exact d
   .rintro rfl;rcases C with z|z
    .exact g c b hc z
    .rw[hc]at z;cases z;exact p rfl
structure Un(fs ex:List Addr) (H H':Hp) (h h':Heap):Prop where
 keep:∀b o,h.get? b=some o->H b=none->b∉fs->b∉ex->h'.get? b=some o
 slot:∀b o,h.get? b=some o->H b=none->b∈fs->b∉ex->∃sl,h'.get? b=some {o with slots:=sl}
 free:∀b o,h.get? b=some o->H b=none->b∉ex->H' b=none
 there:∀b o,h.get? b=some o->b∉ex->∃o',h'.get? b=some o'
 tups:∀b xs,H b=some (.tup xs)->H' b=some (.tup xs)
 frzs:∀b o u,H b=some (.nH o u)->H' b=some (.nH o u)
 tbls:∀b ps,H b=some (.tbl ps)->∃more,H' b=some (.tbl (ps++more))
theorem Un.any (u:Un fs ex H H1 h h1)(q:h.get? b=some d)(n:H b=none)(g:b∉ex):∃m,h1.get? b=some {d with slots:=m}:=by
 by_cases l:b∈fs
 .exact u.slot b d q n l g
 .exact#[d.slots,u.keep b d q n l g]
theorem Un.trans (a:Un fs ex H H1 h h1)(b:Un fs ex H1 H2 h1 h2):Un fs ex H H2 h h2 where
 keep:=λc d q n p g=>b.keep c d (a.keep c d q n p g) (a.free c d q n g) p g
 slot:=λc d q n p g=>by
  have(B,l):=a.slot c d q n p g;have(r,u):=b.slot c _ l (a.free c d q n g) p g;exact#[r,u]
 free:=λc d q n g=>by
  have(t,l):=a.there c d q g;exact b.free c t l (a.free c d q n g) g
 there:=λc d q g=>by
  have(t,l):=a.there c d q g;exact b.there c t l g
 tups:=λc m q=>b.tups c m (a.tups c m q)
 frzs:=λc d m q=>b.frzs c d m (a.frzs c d m q)
 tbls:=λc v q=>by
  have(z,l):=a.tbls c v q;have(y,u):=b.tbls c _ l;exact#[z++y,by rw[u,Ub]]
theorem Un.kept (k:∀b u,h.get? b=some u->h'.get? b=some u):Un fs ex H H h h' :=
 #[λb d q _ _ _=>k b d q,λb d q _ _ _=>#[d.slots,k b d q],λ_ _ _ n _=>n,λb d q _=>#[d,k b d q],λ_ _ q=>q,λ_ _ _ q=>q,λ_ g q=>#[#[],by rw[q];simp]]
theorem Un.refl :Un fs ex H H h h:=Un.kept λ_ _ q=>q
theorem Un.laid (k:∀b u,h.get? b=some u->h'.get? b=some u)(g:h.objs.size<=a)(hn:H a=none):Un fs ex H (upd H a o) h h' where
 keep:=λb u q _ _ _=>k b u q
 slot:=λb u q _ _ _=>#[u.slots,k b u q]
 free:=λb u q n _=>by rw[au (Nt (Nd (L0 q) g))];exact n
 there:=λb u q _=>#[u,k b u q]
 tups:=λb d q=>by rw[au (ay q hn)];exact q
 frzs:=λb u d q=>by rw[au (ay q hn)];exact q
 tbls:=λb l q=>#[#[],by rw[au (ay q hn),q];simp]
theorem Un.write (g:Js (H x))(B:e=x\/H e=some (.own x))(k:∀b u,b≠e->h.get? b=some u->h'.get? b=some u)(m:∃u,h'.get? e=some u):Un fs ex H (upd H x o) h h':=by
 have p:∀b,H b=none->b≠x:=λb n z=>by subst z;rw[n]at g;exact g
 have t:∀b,H b=none->b≠e:=λb n z=>by
  subst z;rcases B with r|r
  .exact p b n r
  .rw[n]at r;cases r
 have l:∀b u,H b=some u->¬Js (some u)->b≠x:=λb u q y z=>by subst z;rw[q]at g;exact y g
 refine#[λb u q n _ _=>k b u (t b n) q,λb u q n _ _=>#[u.slots,k b u (t b n) q],λb u q n _=>by rw[au (p b n)];exact n,λb u q _=>?_,
  λb v q=>by rw[au (l b _ q λz=>z)];exact q,λb u v q=>by rw[au (l b _ q λz=>z)];exact q,λb C q=>#[#[],by rw[au (l b _ q λz=>z),q];simp]]
 by_cases d:b=e
 .subst d;exact m
 .exact#[u,k b u d q]
noncomputable def KG(h:Heap)(H:Hp):List Addr:=(Pa h.objs.size).filter λa=>(H a).isSome
noncomputable def vF(h:Heap)(H:Hp):Heap:=PySem.W.hideAll h (KG h H)
theorem AQ (h:Heap)(H:Hp):(vF h H).objs.size=h.objs.size:=PySem.W.hideAll_size _ _
theorem B0 (e:h.get? b=some o)(n:H b=none):(vF h H).get? b=some o :=
 PySem.W.hideAll_get _ e λd=>by
  have q:(H b).isSome=true:=(S9.mp d).2;rw[n]at q;simp at q
theorem Eh (e:(vF h H).get? b=some o):h.get? b=some o/\H b=none:=by
 have d:h.get? b=some o:=PySem.W.of_hideAll (KG h H) e;refine#[d,?_]
 cases q:H b with
 |none=>rfl
 |some x =>
  have g:b∈KG h H:=S9.mpr #[Pu.mpr (L0 d),by simp[q]];have z:(vF h H).get? b=none:=PySem.W.hideAll_none (KG h H) g;rw[z]at e;cases e
structure Mod(K:bN) (mg:Str->Option eF) (base:Heap):Prop where
 kin:K.In base
 glob:base.Ns Nx mg
 blt:∃mb,base.Ns builtinsNs mb/\∀x:Str,x≠"__name__"->mb x=QT x
 nolimit:base.NoLimit
structure Cx where
 prog:I0
 w:Ni
 K:bN
 mg:Str->Option eF
 base:Heap
 A:Nq
 N:List Str
 s₀:fy
 H₀:Hp
 env:Env
 outer:List Env
 stack:List Env
 ex:List Addr
 fn:Str->Bool
 calm:Bool
 pn:List (Addr×Obj)
 xe:eF->fy->Prop
noncomputable def frs(l:List Env):List Addr:=l.filterMap (·.frame)
noncomputable abbrev Cx.fs(X:Cx):List Addr:=frs X.outer
def Jt(d:OI)(x:Str):Prop:=d.names.lookup x=some .local\/d.names.lookup x=some .cell\/d.names.lookup x=some .free
def Loc(d:OI)(x:Str):Prop:=d.names.lookup x=some .local\/d.names.lookup x=some .cell
def Look(d:Env)(h:Heap)(m:Str->Option eF)(x:Str)(u:eF):Prop :=
 (d.kindOf x=some .local/\m x=some u)\/((d.kindOf x=some .cell\/d.kindOf x=some .free)/\∃c,d.cells.lookup x=some c/\h.IsCell c (some u))
structure Cx.Ok(X:Cx):Prop where
 mod:Mod X.K X.mg X.base
 kind:X.env.scope.kind=.function
 glob:X.env.globals=Nx
 blt:X.env.builtins=builtinsNs
 above:X.s₀.heap.objs.size<=X.env.locals
 inj:∀x y c,X.env.cells.lookup x=some c->X.env.cells.lookup y=some c->x=y
 has:∀x,(X.env.kindOf x=some .cell\/X.env.kindOf x=some .free)->∃c,X.env.cells.lookup x=some c
 cab:∀x c,X.fn x=true->X.env.cells.lookup x=some c->X.s₀.heap.objs.size<=c
 hd:X.calm=true->X.A.handled=none
 frames:X.A.frames=some X.stack
 stk:X.stack=X.outer\/(X.stack=X.env::X.outer/\X.env.frame=some X.env.locals)
 exf:∀b∈X.ex,b≠X.env.locals/\∀x c,X.env.cells.lookup x=some c->c≠b
 bs:∀b o,X.base.get? b=some o->X.s₀.heap.get? b=some o/\X.H₀ b=none
 bsz:X.base.objs.size<=X.s₀.heap.objs.size
 noex:∀b o,X.base.get? b=some o->b∉X.ex
 exfs:∀b∈X.ex,b∉X.fs
 qB:X.s₀.heap.FunFrames X.base X.outer
 frf:∀b∈X.fs,X.H₀ b=none
structure Inv(X:Cx) (pins:List (Addr×Obj)) (σ:List (Option V)) (H:Hp) (s:fy):Prop where
 ok:X.Ok
 os:s.os=X.s₀.os
 bare:RP s.gens
 base:Un X.fs X.ex X.H₀ H X.s₀.heap s.heap
 loc:∃m,s.heap.Ns X.env.locals m/\∀(i:Nat) (x:Str) (v:V),X.N[i]?=some x->σ[i]?=some (some v)->Jt X.env.scope x->∃u,RelV v u/\Look X.env s.heap m x u
 cell:∀x c,X.env.cells.lookup x=some c->∃v,s.heap.IsCell c v
 free:H X.env.locals=none
 freeC:∀x c,X.env.cells.lookup x=some c->H c=none
 pin:∀p∈X.pn++pins,s.heap.get? p.1=some p.2/\H p.1=none/\p.1≠X.env.locals/\p.1∉X.fs/\∀v,p.2.data≠.cell v
 hok:mQ X.prog X.w H s.heap
 len:σ.length=X.N.length
theorem Cx.Ok.K2 {X:Cx}(ok:X.Ok)(e:X.base.get? b=some o):b∉X.fs:=λd=>by
 have:=(ok.qB.mem d).1;rw[e]at this;cases this
theorem Inv.bs (I:Inv X pins σ H s):∀b o,X.base.get? b=some o->s.heap.get? b=some o/\H b=none:=λb o e =>
 #[I.base.keep b o (I.ok.bs b o e).1 (I.ok.bs b o e).2 (I.ok.K2 e) (I.ok.noex b o e),I.base.free b o (I.ok.bs b o e).1 (I.ok.bs b o e).2 (I.ok.noex b o e)]
theorem Inv.bk (I:Inv X pins σ H s):∀b o,X.base.get? b=some o->s.heap.get? b=some o:=λb o e=>(I.bs b o e).1
theorem Inv.mod (I:Inv X pins σ H s):Mod X.K X.mg X.base:=I.ok.mod
theorem Inv.sy (I:Inv X pins σ H s):X.K.In s.heap:=I.ok.mod.kin.keeps I.bk
theorem Inv.fr (I:Inv X pins σ H s):∃m,Fr X.base X.env.locals s.heap m :=
 let⟨m,hn,_⟩:=I.loc
 #[m,hn,I.bk,Nu I.ok.bsz I.ok.above]
theorem Inv.lt (I:Inv X pins σ H s):X.env.locals<s.heap.objs.size:=let⟨_,hn,_⟩:=I.loc;hn.lt
theorem Inv.sz (I:Inv X pins σ H s):X.s₀.heap.objs.size<=s.heap.objs.size:=Nu I.ok.above (Ol I.lt)
theorem Inv.B3 (I:Inv X pins σ H s)(h:s.heap.objs.size<=a):a∉X.fs:=λe=>by
 have(_,o,d,_):=I.ok.qB.mem e;exact absurd (Nd (L0 d) (Nu I.sz h)) (N7 _)
theorem Inv.Ei (I:Inv X pins σ H s):∀x c,X.env.cells.lookup x=some c->c≠X.env.locals:=λx c e z=>by
 have(v,o,l,hd):=I.cell x c e;have(m,(p,q,r,d,g,_),_):=I.loc;rw[z,d]at l;cases l;rw[g]at hd;cases hd
theorem Inv.qB (I:Inv X pins σ H s):s.heap.FunFrames X.base X.outer:=by
 have all:∀(l:List Env),(∀b∈frs l,b∈X.fs)->X.s₀.heap.FunFrames X.base l->s.heap.FunFrames X.base l:=by
  intro l
  induction l with
  |nil=>intro _ _;trivial
  |cons env r ih =>
   intro p u;have(v,(L,o,d,t,q,hd),hr):=u;have m:L∈X.fs:=p L (by unfold frs;rw[OX,d];exact OF);have(y,e):=I.base.slot L o q (I.ok.frf L m) m λz=>I.ok.exfs L z m;exact#[v,#[L,_,d,t,e,hd],ih (λb g=>p b (by unfold frs;rw[OX,d];exact Oe _ g)) hr]
 exact all X.outer (λ_ g=>g) I.ok.qB
theorem Inv.stack (I:Inv X pins σ H s):s.heap.FunFrames X.base X.stack:=by
 rcases I.ok.stk with e|⟨e,hf⟩
 .rw[e];exact I.qB
 .rw[e];have(m,d,_):=I.loc;refine .cons (by rw[I.ok.kind];decide) hf d ?_ I.qB;exact Rx (Nu I.ok.bsz I.ok.above)
theorem Inv.qC (I:Inv X pins σ H s):∀b∈frs X.stack,b∈X.env.locals::X.fs:=λb d=>by
 rcases I.ok.stk with e|⟨e,hf⟩
 .rw[e]at d;exact Oe _ d
 .rw[e]at d;unfold frs at d;rw[OX,hf]at d;exact d
theorem Inv.vG (I:Inv X pins σ H s):∀b∈frs X.stack,H b=none:=λb hb=>by
 rcases M8.mp (I.qC b hb)with e|hb
 .rw[e];exact I.free
 .have(_,o,d,_):=I.ok.qB.mem hb;exact I.base.free b o d (I.ok.frf b hb) λz=>I.ok.exfs b z hb
theorem Inv.step {ch:List Addr}(I:Inv X pins σ H s)(hch:∀b∈ch,(b∈X.ex\/X.s₀.heap.objs.size<=b)/\b≠X.env.locals/\(∀x c,X.env.cells.lookup x=some c->c≠b)/\∀p∈X.pn++pins,p.1≠b)(keep:∀b o,b≠X.env.locals->b∉X.fs->b∉ch->s.heap.get? b=some o->H b=none->h'.get? b=some o)(slot:∀b o,b≠X.env.locals->b∈X.fs->b∉ch->s.heap.get? b=some o->H b=none->∃Q,h'.get? b=some {o with slots:=Q})(free:∀b o,b∉ch->s.heap.get? b=some o->H b=none->H' b=none)(there:∀b o,b∉ch->s.heap.get? b=some o->∃J,h'.get? b=some J)(tups:∀b xs,H b=some (.tup xs)->H' b=some (.tup xs))(frzs:∀b o u,H b=some (.nH o u)->H' b=some (.nH o u))(tbls:∀b ps,H b=some (.tbl ps)->∃more,H' b=some (.tbl (ps++more)))(ns:∀m,s.heap.Ns X.env.locals m->h'.Ns X.env.locals m)(hok:mQ X.prog X.w H' h')(hg:RP g'):
  Inv X pins σ H' {s with heap:=h',gens:=g',drawn:=d',toks:=t'}:=by
 have L:∀b o,X.s₀.heap.get? b=some o->b≠X.env.locals:=λb o e=>Nt (Nd (L0 e) I.ok.above)
 have B:∀b o,X.s₀.heap.get? b=some o->b∉X.ex->b∉ch:=λb o e g D=>by
  rcases(hch b D).1 with z|z
  .exact g z
  .exact absurd (Nd (L0 e) z) (N7 _)
 have y:∀x c,X.env.cells.lookup x=some c->∀v,s.heap.IsCell c v->h'.IsCell c v:=λx c e v ⟨o,G,hd⟩=>by
  have t:c∉ch:=λz=>(hch c z).2.2.1 x c e rfl
  by_cases U:c∈X.fs
  .have(Q,q):=slot c o (I.Ei x c e) U t G (I.freeC x c e);exact#[_,q,hd]
  .exact#[o,keep c o (I.Ei x c e) U t G (I.freeC x c e),hd]
 refine#[I.ok,I.os,hg,#[λb o e n D g=>?_,λb o e n D g=>?_,λb o e n g=>?_,λb o e g=>?_,λb xs e=>tups b xs (I.base.tups b xs e),λb o xs e=>frzs b o xs (I.base.frzs b o xs e),λb ps e=>?_],?_,λx c e=>?_,?_,λx c e=>?_,λp T=>?_,hok,I.len]
 .exact keep b o (L b o e) D (B b o e g) (I.base.keep b o e n D g) (I.base.free b o e n g)
 .have(Q,C):=I.base.slot b o e n D g;have(O,M):=slot b _ (L b o e) D (B b o e g) C (I.base.free b o e n g);exact#[O,M]
 .have(J,C):=I.base.there b o e g;exact free b J (B b o e g) C (I.base.free b o e n g)
 .have(J,C):=I.base.there b o e g;exact there b J (B b o e g) C
 .have(W,C):=I.base.tbls b ps e;have(V,M):=tbls b _ C;exact#[W++V,by rw[M,Ub]]
 .have(m,Y,Z):=I.loc;refine#[m,ns m Y,λi x v C M e3=>?_];have(u,r,l):=Z i x v C M e3;refine#[u,r,?_];rcases l with l|⟨k,c,e,z⟩
  .exact .inl l
  .exact .inr #[k,c,e,y x c e _ z]
 .have(v,z):=I.cell x c e;exact#[v,y x c e v z]
 .have(m,(o,_,_,G,_),_):=I.loc;exact free _ o (λz=>(hch _ z).2.1 rfl) G I.free
 .have(v,o,G,hd):=I.cell x c e;exact free c o (λz=>(hch c z).2.2.1 x c e rfl) G (I.freeC x c e)
 .have(e,n,S,R,d):=I.pin p T;have t:p.1∉ch:=λz=>(hch p.1 z).2.2.2 p T rfl;exact#[keep p.1 p.2 S R t e n,free p.1 p.2 t e n,S,R,d]
theorem Inv.un (I:Inv X pins σ H s)(u:Un X.fs [] H H' s.heap h')(g:mQ X.prog X.w H' h'):Inv X pins σ H' {s with heap:=h',toks:=t'}:=by
 have(m,(o,J,L,t,r),_):=id I.loc;have(C,B):=u.any t I.free (by simp)
 exact I.step (g':=s.gens) (d':=s.drawn) (ch:=[]) (λ_ z=>nomatch z) (λb o _ l _ e n=>u.keep b o e n l (by simp)) (λb o _ l _ e n=>u.slot b o e n l (by simp)) (λb o _ e n=>u.free b o e n (by simp)) (λb o _ e=>u.there b o e (by simp)) u.tups u.frzs u.tbls (λG y=>by
  have(D,p,q,d,v):=y;rw[t]at d;cases d;exact#[_,p,q,B,v]) g I.bare
theorem Inv.call (I:Inv X pins σ H s)(u:Un (frs X.stack) ch H H' s.heap h')(l:mQ X.prog X.w H' h')(D:RP g')(hch:∀b∈ch,(b∈X.ex\/X.s₀.heap.objs.size<=b)/\b≠X.env.locals/\(∀x c,X.env.cells.lookup x=some c->c≠b)/\∀p∈X.pn++pins,p.1≠b):
  Inv X pins σ H' {s with heap:=h',gens:=g',drawn:=d',toks:=t'}:=by
 have(m,(o,O,Q,y,r),_):=id I.loc;have(J,q):=u.any y I.free λz=>(hch _ z).2.1 rfl
 exact I.step (ch:=ch) hch (λb o q G d e n=>u.keep b o e n (λz=>(M8.mp (I.qC b z)).elim q G) d) (λb o _ _ d e n=>u.any e n d) (λb o d e n=>u.free b o e n d) (λb o d e=>u.there b o e d) u.tups u.frzs u.tbls (λM C=>by
  have(L,t,v,g,B):=C;rw[y]at g;cases g;exact#[_,t,v,q,B]) l D
theorem Inv.turned (I:Inv X pins σ H s)(k:∀b o,b≠it->s.heap.get? b=some o->h'.get? b=some o)(hn:H it=none)(l:it≠X.env.locals)(h1:it∈X.ex\/X.s₀.heap.objs.size<=it)(h2:∀x c,X.env.cells.lookup x=some c->c≠it)(h3:∀p∈X.pn++pins,p.1≠it):Inv X pins σ H {s with heap:=h',toks:=t'}:=by
 have g:∀b u,H b=some u->b≠it:=λb u e z=>by rw[z,hn]at e;cases e
 refine I.step (g':=s.gens) (d':=s.drawn) (ch:=[it]) (λb B=>?_) (λb o _ _ d e _=>k b o (λz=>d (by simp[z])) e) (λb o _ _ d e _=>#[o.slots,k b o (λz=>d (by simp[z])) e]) (λ_ _ _ _ n=>n)
  (λb o d e=>#[o,k b o (λz=>d (by simp[z])) e]) (λ_ _ e=>e) (λ_ _ _ e=>e) (λb G e=>#[#[],by rw[e];simp]) (λm y=>?_) (λb u e=>?_) I.bare
 .have e:b=it:=by simpa using B
  subst e;exact#[h1,l,h2,h3]
 .have(o,C,D,t,r):=y;exact#[o,C,D,k _ o (PK l) t,r]
 .refine(I.hok b u e).stay (λc v d q=>k c v ?_ q) (λ_ q=>q) λ_ _ q=>q;rcases d with z|z
  .rw[z];exact g b u e
  .exact g c _ z
theorem Inv.tok (I:Inv X pins σ H s)(t:Nat):Inv X pins σ H {s with toks:=t}:=I.un (h':=s.heap) (t':=t) Un.refl I.hok
theorem Inv.kept (I:Inv X pins σ H s)(k:∀b u,s.heap.get? b=some u->h'.get? b=some u):Inv X pins σ H {s with heap:=h',toks:=t'}:=I.un (Un.kept k) (I.hok.kept k)
theorem Inv.laid (I:Inv X pins σ H s)(k:∀b u,s.heap.get? b=some u->h'.get? b=some u)(d:s.heap.objs.size<=a)(new:eM X.prog X.w (upd H a o) h' a o):
  Inv X pins σ (upd H a o) {s with heap:=h',toks:=t'}:=I.un (Un.laid k d (I.hok.fresh d)) (I.hok.laid k d new)
theorem Inv.write (I:Inv X pins σ H s)(g:Js (H x))(l:e=x\/H e=some (.own x))(k:∀b u,b≠e->s.heap.get? b=some u->h'.get? b=some u)(d:∃u,h'.get? e=some u)(new:eM X.prog X.w (upd H x o) h' x o):Inv X pins σ (upd H x o) {s with heap:=h',toks:=t'}:=I.un (Un.write g l k d) (I.hok.write g l k d new)
theorem Inv.weak (I:Inv X pins σ H s)(d:σ'.length=σ.length)(w:∀(i:Nat) v,σ'[i]?=some (some v)->σ[i]?=some (some v)):Inv X pins σ' H s :=
 #[I.ok,I.os,I.bare,I.base,let⟨m,hn,hl'⟩:=I.loc;#[m,hn,λi x v l g e=>hl' i x v l (w i v g) e],I.cell,I.free,I.freeC,I.pin,I.hok,d.trans I.len]
theorem Inv.fu (I:Inv X pins σ H s)(h:∀p∈d,s.heap.get? p.1=some p.2/\H p.1=none/\p.1≠X.env.locals/\p.1∉X.fs/\∀v,p.2.data≠.cell v):Inv X d σ H s :=
 #[I.ok,I.os,I.bare,I.base,I.loc,I.cell,I.free,I.freeC,λp e=>(M7.mp e).elim (λz=>I.pin p (NG _ z)) (h p),I.hok,I.len]
theorem sA {N:List Str}(d:N.Nodup){i:Nat}(a:N[i]?=some x)(b:N[j]?=some x):i=j:=by
 have(m,g):=bH.mp a;have(l,e):=bH.mp b;exact(List.getElem_inj d).mp (g.trans e.symm)
theorem AR (I:Inv X pins σ H s)(hN:X.N.Nodup)(hi:X.N[i]?=some x)(B:Loc X.env.scope x)(r:RelV v u)(h:∀s',Inv X pins (σ.set i (some v)) H s'->(∃a,PL a s.heap s'.heap/\(a=X.env.locals\/X.env.cells.lookup x=some a))->Q Unit.unit s')(hf:X.fn x=true\/X.env.scope.names.lookup x=some .local:=by first|exact .inl rfl|exact .inr rfl|assumption):Na M A (storeName X.env x u) Q E s:=by
 have(m,hn,hl):=id I.loc;have T:(X.env.scope.kind == .class||(X.env.scope.kind == .module&&X.env.locals != X.env.globals))=false:=by rw[I.ok.kind];rfl
 have G:i<σ.length:=by rw[I.len];exact(bH.mp hi).1
 have Ei:=I.Ei
 have l:∀{a:Addr}{h':Heap},(∃o,s.heap.get? a=some o/\H a=none)->PL a s.heap h'->mQ X.prog X.w H h':=λ{a h'} ha g b ob e=>by
  have(_,_,C):=ha;refine(I.hok b ob e).stay (λc Y hc q=>(g.2 c ?_).trans q) (λ_ q=>q) λ_ _ q=>q;rintro rfl;rcases hc with rfl|hc
  .rw[C]at e;cases e
  .rw[C]at hc;cases hc
 rcases B with hk|hk
 .refine wpAny_storeName_local hk hn (λh' ab g=>?_) T;have(oL,_,_,aa,_):=id hn;refine h _ #[I.ok,I.os,I.bare,#[λb o e n O B=>?_,λb o e n O B=>?_,I.base.free,λb o e B=>?_,I.base.tups,I.base.frzs,I.base.tbls],#[_,ab,λj y v' t D e3=>?_],λy c e=>?_,I.free,I.freeC,λp hp=>?_,l #[oL,aa,I.free] g,by simpa using I.len] #[_,g,.inl rfl]
  .exact(g.2 b (Nt (Nd (L0 e) I.ok.above))).trans (I.base.keep b o e n O B)
  .have(sl,t):=I.base.slot b o e n O B;exact#[sl,(g.2 b (Nt (Nd (L0 e) I.ok.above))).trans t]
  .have(o',t):=I.base.there b o e B;exact#[o',(g.2 b (Nt (Nd (L0 e) I.ok.above))).trans t]
  .by_cases J:j=i
   .subst J;rw[hi]at t;cases t;rw[P4 G]at D
    cases D
    exact#[u,r,.inl #[hk,by simp]]
   .rw[Qj (PK J)]at D;have(u',r',q):=hl j y v' t D e3;refine#[u',r',?_];rcases q with⟨k,e⟩|⟨k,c,e,z⟩
    .refine .inl #[k,?_];have:y≠x:=λe=>J (sA hN t (e▸hi));simp[this,e]
    .exact .inr #[k,c,e,z.sameBut g (Ei y c e)]
  .have(Y,z):=I.cell y c e;exact#[Y,z.sameBut g (Ei y c e)]
  .have(e,n,Z,nf,d):=I.pin p hp;exact#[(g.2 p.1 Z).trans e,n,Z,nf,d]
 .have L:X.fn x=true:=by
   rcases hf with z|z
   .exact z
   .rw[z]at hk;cases hk
  have(c,hc):=I.ok.has x (.inl hk);have(Y,z):=I.cell x c hc;refine wpAny_storeName_cell I.ok.kind hk hc z (λh' W g=>?_);have(oc,S,R):=id z;refine h {s with heap:=h'} #[I.ok,I.os,I.bare,#[λb o e n O B=>?_,λb o e n O B=>?_,I.base.free,λb o e B=>?_,I.base.tups,I.base.frzs,I.base.tbls],#[m,hn.sameBut g (PK (Ei x c hc)),λj y v' t D e3=>?_],λy c' e=>?_,I.free,I.freeC,λp hp=>?_,l #[oc,S,I.freeC x c hc] g,by simpa using I.len] #[c,g,.inr hc]
  .exact(g.2 b (Nt (Nd (L0 e) (I.ok.cab x c L hc)))).trans (I.base.keep b o e n O B)
  .have(sl,t):=I.base.slot b o e n O B;exact#[sl,(g.2 b (Nt (Nd (L0 e) (I.ok.cab x c L hc)))).trans t]
  .have(o',t):=I.base.there b o e B;exact#[o',(g.2 b (Nt (Nd (L0 e) (I.ok.cab x c L hc)))).trans t]
  .by_cases J:j=i
   .subst J;rw[hi]at t;cases t;rw[P4 G]at D
    cases D
    exact#[u,r,.inr #[.inl hk,c,hc,W]]
   .rw[Qj (PK J)]at D;have(u',r',q):=hl j y v' t D e3;refine#[u',r',?_];rcases q with q|⟨k,c',e,z'⟩
    .exact .inl q
    .refine .inr #[k,c',e,z'.sameBut g ?_];rintro rfl;exact J (sA hN t (I.ok.inj _ _ _ e hc▸hi))
  .by_cases U:c'=c
   .subst U;exact#[_,W]
   .have(w2,z2):=I.cell y c' e;exact#[w2,z2.sameBut g U]
  .have(e,n,Z,nf,d):=I.pin p hp;refine#[(g.2 p.1 ?_).trans e,n,Z,nf,d];intro q;rw[q,S]at e;have q':oc=p.2:=Ng e;exact d Y (by rw[<-q'];exact R)
theorem kO (I:Inv X pins σ H s)(e:X.N.Nodup)(hi:X.N[i]?=some x)(d:Loc X.env.scope x)(r:RelV v u)(h:∀s',Inv X pins (σ.set i (some v)) H s'->Q Unit.unit s')(hf:X.fn x=true\/X.env.scope.names.lookup x=some .local:=by first|exact .inl rfl|exact .inr rfl|assumption):Na M A (storeName X.env x u) Q E s :=
 AR I e hi d r (λs' g _=>h s' g) hf
theorem Inv.Gy (I:Inv X pins σ H s)(l:s'.os=s.os)(u:Un (frs X.stack) ch H H' s.heap s'.heap)(d:mQ X.prog X.w H' s'.heap)(m:RP s'.gens)(hch:∀b∈ch,(b∈X.ex\/X.s₀.heap.objs.size<=b)/\b≠X.env.locals/\(∀x c,X.env.cells.lookup x=some c->c≠b)/\∀p∈X.pn++pins,p.1≠b):Inv X pins σ H' s':=by
 have(h',g',d',t',g):=s';have e:g=s.os:=l;subst e;exact I.call (g':=g') (t':=t') (d':=d') u d m hch
abbrev XK:=eF->Option Addr->Hp->Prop
abbrev St:=List (Option V)
abbrev VK:=V->Hp->Prop
abbrev TE:=St->Hp->VK->Prop
abbrev TT:=St->Hp->(Bool->Hp->Prop)->Prop
abbrev TA:=St->Hp->(List V->Hp->Prop)->Prop
structure Ends where
 nx:St->Hp->Prop
 rt:VK
 bk:St->Hp->Prop:=λ_ _=>False
 ct:St->Hp->Prop:=λ_ _=>False
abbrev TS:=Ends->St->Hp->Prop
def EP(X:Cx)(d:List (Addr×Obj))(g:St)(Q:VK)(u:eF)(s':fy):Prop:=∃v e,Inv X d g e s'/\RelV v u/\Q v e
def TP(X:Cx)(d:List (Addr×Obj))(g:St)(Q:Bool->Hp->Prop)(b:Bool)(s':fy):Prop:=∃e,Inv X d g e s'/\Q b e
def AP(X:Cx)(d:List (Addr×Obj))(l:St)(Q:List V->Hp->Prop)(us:List eF)(s':fy):Prop:=∃e g,Inv X d l g s'/\Vals e us/\Q e g
def SP(X:Cx)(e:List (Addr×Obj))(D:Ends)(f:Flow)(s':fy):Prop :=
 match f with
 |.next=>∃d g,Inv X e d g s'/\D.nx d g
 |.brk=>∃d g,Inv X e d g s'/\D.bk d g
 |.cont=>∃d g,Inv X e d g s'/\D.ct d g
 |.ret u=>∃v d g,Inv X e d g s'/\RelV v u/\D.rt v g
def PE(X:Cx)(e:Expr)(t:TE):Prop :=
 ∀(d:List (Addr×Obj)) (s:fy) (g:St) (H:Hp) (Q:VK),Inv X d g H s->t g H Q->Na (Nf X.prog X.w) X.A (eval e X.env) (EP X d g Q) X.xe s
def PT(X:Cx)(e:Expr)(t:TT):Prop :=
 ∀(d:List (Addr×Obj)) (s:fy) (g:St) (H:Hp) (Q:Bool->Hp->Prop),Inv X d g H s->t g H Q->Na (Nf X.prog X.w) X.A (isTrue e X.env (eval e X.env)) (TP X d g Q) X.xe s
def PW(X:Cx)(e:Expr)(t:TT):Prop :=
 ∀(g:Sem eF) (d:List (Addr×Obj)) (s:fy) (l:St) (H:Hp) (Q:Bool->Hp->Prop),Inv X d l H s->t l H Q->Na (Nf X.prog X.w) X.A (isTrue e X.env g) (TP X d l Q) X.xe s
theorem PW.pt (h:PW X e t):PT X e t:=h _
def PA(X:Cx)(l:List Expr)(t:TA):Prop :=
 ∀(g:Pos) (d:List (Addr×Obj)) (s:fy) (e:St) (H:Hp) (Q:List V->Hp->Prop),Inv X d e H s->t e H Q->Na (Nf X.prog X.w) X.A (spliced (RT g (N8 l X.env))) (AP X d e Q) X.xe s
def PS(X:Cx)(st:Stmt)(t:TS):Prop :=
 ∀(d:List (Addr×Obj)) (s:fy) (e:St) (H:Hp) (D:Ends),Inv X d e H s->t D e H->Na (Nf X.prog X.w) X.A (exec st X.env) (SP X d D) X.xe s
def qT(X:Cx)(st:List Stmt)(t:TS):Prop :=
 ∀(d:List (Addr×Obj)) (s:fy) (e:St) (H:Hp) (D:Ends),Inv X d e H s->t D e H->Na (Nf X.prog X.w) X.A (execs st X.env) (SP X d D) X.xe s
theorem cR {t:Sem d}{Q e:d->fy->Prop}(h:Na M A t Q E s)(g:∀a s,Q a s->e a s):Na M A t e E s:=Nz h g λ_ _ x=>x
def mR(i:Nat):TE:=λd H Q=>∃v,d[i]?=some (some v)/\Q v H
abbrev tC(v:V):TE:=λ_ H Q=>Q v H
theorem B4 (z:X.N[i]?=some x)(q:Jt X.env.scope x)(hd:(x == ("__debug__":Str))=false:=by decide)(o:(x == ("__classdict__":Str))=false:=by decide):PE X (.Name x g) (mR i):=by
 intro d s p H Q I h;have(v,e,h):=h;have(m,t,y):=I.loc;have(u,r,l):=y i x v z e q;have fin:EP X d p Q u s:=#[v,H,I,r,h];rcases l with⟨hk,hm⟩|⟨hk,c,hc,hcell⟩
 .exact wpAny_Name (wpAny_loadName_local I.ok.kind hk t hm fin) hd
 .rcases hk with hk|hk
  .exact wpAny_Name (wpAny_loadName_cell I.ok.kind hk hc hcell fin) hd
  .exact wpAny_Name (wpAny_loadName_free I.ok.kind hk hc hcell fin o) hd
theorem aC {i j pos}:PE X (.Constant (.int i) j pos) (tC (.int i)):=λ_ _ _ H _ I h=>wpAny_Constant_int #[.int i,H,I.tok _,#[_,rfl],h]
theorem mS {b j pos}:PE X (.Constant (.bool b) j pos) (tC (.bl b)):=λ_ _ _ H _ I h=>Constant_bool #[.bl b,H,I,rfl,h]
theorem gv {j pos}:PE X (.Constant .none j pos) (tC .eN):=λ_ _ _ H _ I h=>Constant_none #[.eN,H,I,rfl,h]
theorem aH {x j pos}:PE X (.Constant (.str x) j pos) (tC (.str x)):=λ_ _ _ H _ I h=>Calls.Constant_str #[.str x,H,I.tok _,#[_,rfl],h]
def Gl(X:Cx)(x:Str):Prop:=X.env.kindOf x=some .globalImplicit
theorem pB (I:Inv X d g H s)(m:Gl X x)(l:X.mg x=some u)(h:Q u s)(hd:(x == ("__debug__":Str))=false:=by decide):Na (Nf X.prog X.w) X.A (eval (.Name x e) X.env) Q E s :=
 RU I.ok.kind m (Calls.loadGlobal_global (by rw[I.ok.glob];exact I.mod.glob.keeps I.bk) l h) hd
theorem qD (I:Inv X d g H s)(o:Gl X x)(m:X.mg x=none)(l:QT x=some u)(h:Q u s)(hn:x≠"__name__":=by decide)(hd:(x == ("__debug__":Str))=false:=by decide):Na (Nf X.prog X.w) X.A (eval (.Name x e) X.env) Q E s:=by
 have(r,q,p):=I.mod.blt;exact RU I.ok.kind o (Calls.loadGlobal_builtin (by rw[I.ok.glob];exact I.mod.glob.keeps I.bk) m (by rw[I.ok.blt];exact q.keeps I.bk) ((p x hn).trans l) h) hd
theorem iz (g:Gl X x)(e:X.mg x=some u)(r:RelV v u)(hd:(x == ("__debug__":Str))=false:=by decide):PE X (.Name x d) (tC v) :=
 λ_ _ _ H _ I h=>pB I g e #[v,H,I,r,h] hd
theorem zG (l:Gl X x)(g:X.mg x=none)(e:QT x=some u)(r:RelV v u)(hn:x≠"__name__":=by decide)(hd:(x == ("__debug__":Str))=false:=by decide):PE X (.Name x d) (tC v) :=
 λ_ _ _ H _ I h=>qD I l g e #[v,H,I,r,h] hn hd
def tB(t:TE):TT:=λd H Q=>t d H λx e=>∃c,x=.bl c/\Q c e
theorem sC {e:Expr}{t:TE}(h:PE X e t)(r:∀g,isTrue e X.env g=(do let v ←g;SS e.pos;Sh [v] (truthy v)):=by intro _;rfl):PT X e (tB t):=by
 intro l s m H Q I p;refine isTrue_plain (cR (h l s m H _ I p) λv z ⟨x,y,u,o,q1⟩=>?_) (r _);have(d,rfl,q):=q1
 cases o
 exact PM #[y,u,q]
abbrev Mg(u:TT)(e:St)(Q:Bool->Hp->Prop):Bool->Hp->Prop:=λc d=>if c=true then u e d Q else Q false d
abbrev Mh(u:TT)(e:St)(Q:Bool->Hp->Prop):Bool->Hp->Prop:=λc d=>if c=true then Q true d else u e d Q
abbrev K7(t u:TT):TT:=λd H Q=>t d H (Mg u d Q)
abbrev Mi(t u:TT):TT:=λd H Q=>t d H (Mh u d Q)
def K8(t:TT):TT:=λd H Q=>t d H λc e=>Q (!c) e
theorem fz {a:Expr}{pos:Pos}{tA:TT}(l:PT X a tA):PW X (.BoolOp .And [a] pos) tA:=by
 intro m d s g H Q I h;refine isTrue_and (cR (l d s g H Q I h) λc o e=>?_)
 cases c with
 |true=>exact isTrue_and_nil e
 |false=>exact e
theorem oQ {a:Expr}{pos:Pos}{tA:TT}(l:PT X a tA):PW X (.BoolOp .Or [a] pos) tA:=by
 intro m d s g H Q I h;refine isTrue_or (cR (l d s g H Q I h) λc o e=>?_)
 cases c with
 |false=>exact isTrue_or_nil e
 |true=>exact e
theorem gz {a b:Expr}{pos:Pos}{tA tB':TT}{rest:List Expr}(q:PT X a tA)(p:PW X (.BoolOp .And (b::rest) pos) tB'):PW X (.BoolOp .And (a::b::rest) pos) (K7 tA tB'):=by
 intro m d s e H Q I h;refine isTrue_and (cR (q d s e H _ I h) λc o ⟨l,g,q1⟩=>?_)
 cases c with
 |true=>exact p m d o e l Q g q1
 |false=>exact#[l,g,q1]
theorem pH {a b:Expr}{pos:Pos}{tA tB':TT}{rest:List Expr}(q:PT X a tA)(p:PW X (.BoolOp .Or (b::rest) pos) tB'):PW X (.BoolOp .Or (a::b::rest) pos) (Mi tA tB'):=by
 intro m d s e H Q I h;refine isTrue_or (cR (q d s e H _ I h) λc o ⟨l,g,q1⟩=>?_)
 cases c with
 |true=>exact#[l,g,q1]
 |false=>exact p m d o e l Q g q1
theorem yH {a:Expr}{pos:Pos}{tA:TT}(g:PT X a tA):PT X (.UnaryOp .Not a pos) (K8 tA):=by
 intro d s e H Q I h;exact isTrue_not (g d s e H (λc l=>Q (!c) l) I h)
def bQ(K:bN)(H:Hp)(a:Addr)(xs:List V):Prop :=
 Rd H a (.lst xs) \/
  ∃(o:Obj) (d:Array eF) (n:Nat),K.lookup a=some o/\o.cls=.type "list"/\o.dict=none/\o.data=.seq d n/\d.size<=mH/\Vals xs d.toList
def cH(K:bN)(H:Hp)(a:Addr)(xs:List V):Prop :=
 Rd H a (.tup xs) \/
  ∃(o:Obj) (d:Array eF) (n:Nat),K.lookup a=some o/\o.cls=.type "tuple"/\o.data=.seq d n/\d.size<=mH/\Vals xs d.toList/\o.dict=none
noncomputable def K9:eF->Option V
 |.none=>some .eN
 |.bool b=>some (.bl b)
 |.int i _=>some (.int i)
 |.str x _=>some (.str x)
 |.bytes b _=>some (.byt b)
 |.float b _=>some (.flt b)
 |.ref a=>some (.ref a)
 |.type n=>some (.ty n)
 |_=>none
theorem RelV.abs (r:RelV x u):K9 u=some x:=by
 cases x with
 |eN=>cases r;rfl
 |bl _=>cases r;rfl
 |int _=>have(t,rfl):=r;rfl
 |str _=>have(t,rfl):=r;rfl
 |byt _=>have(t,rfl):=r;rfl
 |flt _=>have(t,rfl):=r;rfl
 |ref _=>cases r;rfl
 |ty _=>cases r;rfl
theorem RelV.inj (r:RelV x u)(q:RelV y u):x=y:=Ng (r.abs.symm.trans q.abs)
theorem Vals.inj :∀{xs ys:List V}{us:List eF},Vals xs us->Vals ys us->xs=ys
 |_,_,_,.nil,.nil=>rfl
 |_,_,_,.cons r t,.cons r' t'=>by rw[r.inj r',Vals.inj t t']
theorem bQ.of {K:bN}(h:H a=some (.lst xs)):bQ K H a xs:=.inl (.inl h)
theorem cH.of {K:bN}(h:H a=some (.tup xs)):cH K H a xs:=.inl (.inl h)
theorem Inv.list (I:Inv X pins σ H s)(h:bQ X.K H a xs):∃d:List eF,Vals xs d/\PlainL s.heap a d.toArray/\xs.length<=mH:=by
 rcases h with h|⟨o,d,n,hk,hc,hd,hs,hz,r⟩
 .have(z,d,n,r,e):=h.ok I.hok;exact#[d,r,#[_,n,e,rfl,rfl,rfl],z]
 .refine#[d.toList,r,#[o,n,I.sy a o hk,hc,hd,by simpa using hs],?_];have e:=r.length;simp only[OY]at e;omega
theorem Inv.tuple (I:Inv X pins σ H s)(h:cH X.K H a xs):∃d:List eF,Vals xs d/\US s.heap a d.toArray/\xs.length<=mH:=by
 rcases h with h|⟨o,d,n,hk,hc,hs,hz,r,_⟩
 .have(z,d,r,p,_):=h.ok I.hok;exact#[d,r,p,z]
 .refine#[d.toList,r,#[o,I.sy a o hk,hc,n,by simpa using hs],?_];have e:=r.length;simp only[OY]at e;omega
theorem Inv.xm (I:Inv X pins σ H s)(h:bQ X.K H a xs)(h':bQ X.K H a ys):xs=ys:=by
 have(l,r,(o,n,e,_,_,d),_):=I.list h;have(g,q,(t,u,m,_,_,p),_):=I.list h';rw[e]at m;cases m;rw[d]at p;injection p with d1 _;have:l=g:=by simpa using congrArg Array.toList d1
 subst this;exact r.inj q
theorem Inv.qE (I:Inv X pins σ H s)(h:cH X.K H a xs)(h':cH X.K H a ys):xs=ys:=by
 have(l,r,(o,e,_,n,d),_):=I.tuple h;have(g,q,(t,m,_,u,p),_):=I.tuple h';rw[e]at m;cases m;rw[d]at p;injection p with d1 _;have:l=g:=by simpa using congrArg Array.toList d1
 subst this;exact r.inj q
noncomputable abbrev Cx.ju(X:Cx)(E:eF->fy->Prop):Cx:={X with xe:=E}
noncomputable abbrev Cx.nR(X:Cx):Cx:=X.ju λ_ _=>False
theorem Cx.Ok.ju {X:Cx}(ok:X.Ok)(E:eF->fy->Prop):(X.ju E).Ok :=
 #[ok.mod,ok.kind,ok.glob,ok.blt,ok.above,ok.inj,ok.has,ok.cab,ok.hd,ok.frames,ok.stk,ok.exf,ok.bs,ok.bsz,ok.noex,ok.exfs,ok.qB,ok.frf]
theorem Cx.Ok.fF {X:Cx}(ok:(X.ju E).Ok):X.Ok :=
 #[ok.mod,ok.kind,ok.glob,ok.blt,ok.above,ok.inj,ok.has,ok.cab,ok.hd,ok.frames,ok.stk,ok.exf,ok.bs,ok.bsz,ok.noex,ok.exfs,ok.qB,ok.frf]
theorem Inv.ju (I:Inv X pins σ H s)(E:eF->fy->Prop):Inv (X.ju E) pins σ H s:=#[I.ok.ju E,I.os,I.bare,I.base,I.loc,I.cell,I.free,I.freeC,I.pin,I.hok,I.len]
theorem Inv.fF (I:Inv (X.ju E) pins σ H s):Inv X pins σ H s:=#[I.ok.fF,I.os,I.bare,I.base,I.loc,I.cell,I.free,I.freeC,I.pin,I.hok,I.len]
theorem SP.fF (h:SP (X.ju E) pins D f s'):SP X pins D f s':=by
 cases f with
 |next=>have(d,e,I,q):=h;exact#[d,e,I.fF,q]
 |brk=>have(d,e,I,q):=h;exact#[d,e,I.fF,q]
 |cont=>have(d,e,I,q):=h;exact#[d,e,I.fF,q]
 |ret u=>have(v,d,e,I,r,q):=h;exact#[v,d,e,I.fF,r,q]
theorem qT.nR {st:List Stmt}(h:qT X.nR st t):qT X st t:=λpins s σ H D I d =>
 Nz (h pins s σ H D (I.ju _) d) (λ_ _ q=>q.fF) λ_ _ z=>OA z
def Gz:TS:=λD d H=>D.nx d H
noncomputable abbrev Ends.wn(D:Ends)(N:St->Hp->Prop):Ends:={D with nx:=N}
def aY(t u:TS):TS:=λD d H=>t (D.wn (u D)) d H
theorem j9 :qT X [] Gz:=λ_ _ d H _ I h=>RD #[d,H,I,h]
theorem eA {st:Stmt}{rest:List Stmt}{t u:TS}(p:PS X st t)(o:qT X rest u):qT X (st::rest) (aY t u):=by
 intro d s l H D I h;refine SG (cR (p d s l H {D with nx:=u D} I h) λf m q=>?_)
 cases f with
 |next =>
  have(g,y,r,q):=q;exact o d m g y D r q
 |ret v=>exact q
 |brk=>exact q
 |cont=>exact q
theorem b7 {st:Stmt}{t:TS}(l:PS X st t):qT X [st] t:=by
 intro d s g H D I h;refine SG (cR (l d s g H D I h) λf m q=>?_)
 cases f with
 |next=>exact RD q
 |ret v=>exact q
 |brk=>exact q
 |cont=>exact q
theorem Inv.quiet (I:Inv X d g H s):interactive X.env=false:=by simp[interactive,I.ok.kind]
abbrev Mj(d:St)(N:St->Hp->Prop):VK:=λ_ g=>N d g
abbrev Ju(te:TE):TS:=λD d H=>te d H (Mj d D.nx)
theorem Ej {e:Expr}{te:TE}{pos:Pos}(l:PE X e te)(hs:Rm e none pos.line X.env=pure false:=by rfl):PS X (.Expr e pos) (Ju te):=by
 intro d s g H D I h;exact wpAny_Expr_any (cR (l d s g H _ I h) λv p ⟨x,o,m,q,q1⟩=>#[g,o,m,q1]) I.quiet hs
abbrev Jv(te:TE):TS:=λD d H=>te d H D.rt
theorem cI {e:Expr}{te:TE}{pos:Pos}(m:PE X e te):PS X (.Return (some e) pos) (Jv te):=by
 intro d s g H D I h;exact wpAny_Return_some (cR (m d s g H _ I h) λv q ⟨x,p,o,l,q1⟩=>#[x,g,p,o,l,q1])
abbrev Ml(t u:TS)(D:Ends)(d:St):Bool->Hp->Prop:=λb g=>if b=true then t D d g else u D d g
abbrev Jw(c:TT)(t u:TS):TS:=λD d H=>c d H (Ml t u D d)
theorem kQ {t u:TS}{pos:Pos}{c:Expr}{a b:List Stmt}{m:TT}(r:PT X c m)(y:qT X a t)(v:qT X b u):PS X (.If c a b pos) (Jw m t u):=by
 intro g s l H D I h;refine wpAny_If (cR (r g s l H _ I h) λd o ⟨q,p,q1⟩=>?_)
 cases d with
 |true=>exact y g o l q D p q1
 |false=>exact v g o l q D p q1
abbrev TG:=V->St->Hp->(St->Hp->Prop)->Prop
abbrev Ek:=List V->St->Hp->(St->Hp->Prop)->Prop
def PG(X:Cx)(d:Expr)(t:TG):Prop :=
 ∀(e:List (Addr×Obj)) (s:fy) (l:St) (H:Hp) (v:V) (u:eF) (Q:St->Hp->Prop),Inv X e l H s->RelV v u->t v l H Q ->
  Na (Nf X.prog X.w) X.A (RV d X.env u) (λ_ o=>∃g m,Inv X e g m o/\Q g m) X.xe s
def Jx(X:Cx)(p:List Expr)(t:Ek):Prop :=
 ∀(d:List (Addr×Obj)) (s:fy) (g:St) (H:Hp) (l:List V) (m:List eF) (Q:St->Hp->Prop),Inv X d g H s->Vals l m->t l g H Q ->
  Na (Nf X.prog X.w) X.A (T5 ((QF p X.env).map (·.2)) m) (λ_ q=>∃e o,Inv X d e o q/\Q e o) X.xe s
abbrev Hl:=V->V->V->Hp->(Hp->Prop)->Prop
def Jy(X:Cx)(t:Hl):Prop :=
 ∀(d:List (Addr×Obj)) (s:fy) (e:St) (H:Hp) (o i v:V) (g l u:eF) (Q:Hp->Prop),Inv X d e H s->RelV o g->RelV i l->RelV v u->t o i v H Q ->
  Na (Nf X.prog X.w) X.A (setItem g l u) (λ_ p=>∃m,Inv X d e m p/\Q m) X.xe s
abbrev iF(i:Nat):TG:=λv d H Q=>Q (d.set i (some v)) H
theorem lD {pos:Pos}{i:Nat}{x:Str}(l:X.N.Nodup)(hi:X.N[i]?=some x)(e:Loc X.env.scope x)(g:X.fn x=true\/X.env.scope.names.lookup x=some .local:=by first|exact .inl rfl|exact .inr rfl|assumption):PG X (.Name x pos) (iF i):=by
 intro d s o H v u Q I r h;exact wpAny_assign_Name (kO I l hi e r (λp m=>#[_,H,m,h]) g)
def Ho:Ek:=λe d H Q=>e=[]/\Q d H
abbrev Mm(u:Ek)(r:List V)(Q:St->Hp->Prop):St->Hp->Prop:=λd e=>u r d e Q
def sD(t:TG)(u:Ek):Ek:=λe d H Q=>∃v r,e=v::r/\t v d H (Mm u r Q)
theorem vH :Jx X [] Ho:=by
 intro d s g H l m Q I r h;have(e,h):=h;subst e
 cases r
 exact assignInOrder_nil #[g,H,I,h]
theorem pI {e:Expr}{g:List Expr}{t:TG}{u:Ek}(q:PG X e t)(p:Jx X g u)(hs:(QF (e::g) X.env).map (·.2)=RV e X.env::(QF g X.env).map (·.2):=by rfl):Jx X (e::g) (sD t u):=by
 intro d s m H C G Q I r h;have(v,D,y,h):=h;subst y
 cases r with
 |cons r rr =>
  rw[hs];refine RW (cR (q d s m H _ _ _ I r h) λ_ o ⟨l,B,z,q1⟩=>?_);exact p d o l B _ _ Q z rr q1
def El(K:bN)(n:Nat)(t:Ek):TG:=λv e H Q=>∃a d,v=.ref a/\cH K H a d/\d.length=n/\t d e H Q
theorem Hr (G:X.calm=true)(h:Jx X g t)(hn:(QF g X.env).length=n:=by rfl)(hst:(QF g X.env).findIdx? (·.1)=none:=by rfl):PG X (.Tuple g k pos) (El X.K n t):=by
 intro d s m H v u Q I r l;have(a,q,L,C,D,l):=l;subst L
 cases r
 have(y,p,B,O):=I.tuple C;refine assign_Tuple_tuple (I.ok.hd G) B (by simp[hn,<-D,p.length]) hst λJ z=>?_;have M:Inv X d m H {s with heap:=J}:=I.kept (t':=s.toks) λb o e=>z b o (Nt (L0 e)) e;exact h d _ m H q _ Q M (by simpa using p) l
def La(e g:TE)(t:Hl):TG:=λv d H Q=>e d H λo p=>g d p λi m=>t o i v m λl=>Q d l
theorem mT (G:PE X o m)(hi:PE X i p)(hs:Jy X t)(ha:∀v,RV (.Subscript o i pos) X.env v=(do
   let e ←Sh [v] (eval o X.env)
   let g ←Sh [v,e] (eval i X.env)
   SS pos
   Sh [v,e,g] (setItem e g v)
   release [v,e,g] []):=by intro _;rfl):PG X (.Subscript o i pos) (La m p t):=by
 intro d s l H v u Q I r h;rw[ha];refine cB (Oo (cR (G d s l H _ I h) λe z ⟨x,S,M,B,q1⟩=>?_));refine cB (Oo (cR (hi d z l S _ M q1) λg q ⟨y,R,L,r2,D⟩=>?_));refine cB (OG (cB (Oo (cR (hs d q l R x y v e g u _ L B r2 r D) λ_ T ⟨O,J,C⟩=>?_))));exact wpAny_release #[l,O,J,C]
abbrev LP(g:TG)(d:St)(N:St->Hp->Prop):VK:=λx e=>g x d e N
abbrev vI(e:TE)(g:TG):TS:=λD d H=>e d H (LP g d D.nx)
theorem yI {pos:Pos}{l e:Expr}{o:TE}{g:TG}(y:PE X e o)(u:PG X l g)(hs:swapsWithSole [l] e pos.line X.env=pure false:=by rfl)(t:swappedStores [l] e X.env=pure none:=by rfl)(h1:(QF [l] X.env).map (·.2)=[RV l X.env]:=by rfl):PS X (.Assign [l] e pos) (vI o g):=by
 intro d s m H D I h;refine wpAny_Assign_stores (cR (y d s m H _ I h) λv p ⟨x,B,z,r,q1⟩=>?_) hs t;rw[h1];exact cR (u d p m B x v _ z r q1) λ_ C q=>q
theorem lE (t:X.N.Nodup)(hi:X.N[i]?=some x)(p:Loc X.env.scope x)(r:PE X e l)(hs:Rm e (some (.Name x d)) pos.line X.env=pure false:=by rfl)(q:X.fn x=true\/X.env.scope.names.lookup x=some .local:=by first|exact .inl rfl|exact .inr rfl|assumption):
  PS X (.Assign [.Name x d] e pos) (vI l (iF i)):=by
 intro g s m H D I h;refine wpAny_Assign_Name (cR (r g s m H _ I h) λv G ⟨y,B,z,o,q1⟩=>?_) hs;exact kO z t hi p o (λC u=>#[_,B,u,q1]) q
def Lb(i j:Nat)(ta:TA):TS:=λD d H=>ta d H λe g=>∃v w,e=[v,w]/\D.nx ((d.set i (some v)).set j (some w)) g
theorem yJ {pos:Pos}{i j:Nat}{x y:Str}{a b:Expr}{ta:TA}{t py pt:Pos}{kt k2 pt2}(R:X.calm=true)(C:X.N.Nodup)(hi:X.N[i]?=some x)(Q:X.N[j]?=some y)(z:i≠j)(hx:X.env.scope.names.lookup x=some .local)(hy:X.env.scope.names.lookup y=some .local)(ha:PA X [a,b] ta)(hw:swappedStores [.Tuple [.Name x t,.Name y py] kt pt] (.Tuple [a,b] k2 pt2) X.env=pure (some [x,y]))(hs:swapsWithSole [.Tuple [.Name x t,.Name y py] kt pt] (.Tuple [a,b] k2 pt2) pos.line X.env=pure false:=by rfl):
  PS X (.Assign [.Tuple [.Name x t,.Name y py] kt pt] (.Tuple [a,b] k2 pt2) pos) (Lb i j ta):=by
 intro d s B H D I h;rw[exec_Assign_arm];refine cB (OG ?_);rw[hs];refine cB (vv ?_);rw[if_neg (by decide)];refine cB (Tuple_ (cR (ha _ d s B H _ I h) λL m ⟨Y,J,W,O,q1⟩=>?_));have(v,w,S,q1):=q1;subst S
 obtain⟨l,g,rfl,M,r⟩:∃l g,L=[l,g]/\RelV v l/\RelV w g:=by
  cases O with
  |cons p q =>
   cases q with
   |cons p' q' =>
    cases q'
    exact#[_,_,rfl,p,p']
 refine NL ?_ (by show 2<=mH;decide);have V:Inv X d B J {m with heap:=m.heap.push {cls:=.type "tuple",data:=.seq [l,g].toArray}}:=W.kept (t':=m.toks) λb o e=>tF _ e;rw[hw];refine cB (vv ?_);show Na (Nf X.prog X.w) X.A (do rule "assign.swapped-stores";let items ←unpackItems (.ref m.heap.objs.size) 2 none;T5 [λv=>Tn X.env y v,λv=>Tn X.env x v] items.reverse;pure Flow.next) _ _ _;refine cB (RX (cB (unpackItems_tuple (items:=#[l,g,]) (I.ok.hd R) (TQ m.heap _) λh' u=>?_)));have U:=V.kept (h':=h') (t':=m.toks) λb o e=>u b o (Nt (L0 e)) e;show Na _ _ (T5 [λv=>Tn X.env y v,λv=>Tn X.env x v] [g,l]>>=λ_=>pure Flow.next) _ _ _;refine cB (RW (To (kO U C Q (.inl hy) r (λs2 T=>?_) (.inr hy))));refine RW (To (kO T C hi (.inl hx) M (λZ G=>assignInOrder_nil (vv ?_)) (.inr hx)));rw[List.set_comm _ _ (PK z)]at G;exact#[_,J,G,q1]
def Hs(c:TT)(p:TS):TS:=λD d H=>∃W:Nat->St->Hp->Prop,(∃m,W m d H)/\∀m d H,W m d H ->
 c d H λb l=>if b=true then ∃N:St->Hp->Prop,(∀e o,N e o->∃g,g < m/\W g e o)/\p {D with nx:=N,ct:=N,bk:=D.nx} d l else D.nx d l
theorem sE {pos:Pos}{c:Expr}{l:List Stmt}{C:TT}{G:TS}(J:PassesOwn (Nf X.prog X.w) X.A X.env X.xe)(hc:PT X c C)(hb:qT X l G):PS X (.While c l [] pos) (Hs C G):=by
 intro e s S H D I h;have(W,(Z,U),o):=h;refine wpAny_While (codeAny_whileLoop (λn Y=>∃m R,Inv X e m R Y/\W n m R) ?_ Z #[S,H,I,U]);rintro n s1 ⟨g,Q,I1,T⟩;refine PD J (cR (hc e s1 g Q _ I1 (o n g Q T)) λb V ⟨O,M,r⟩=>?_)
 cases b with
 |true =>
  have(N,L,r):=r;rw[if_pos rfl];refine PD J (cR (hb e V g O _ M r) λf s3 q=>?_)
  cases f with
  |next =>
   have(d,p,B,u):=q;have(y,z,t):=L d p u;exact#[y,z,d,p,B,t]
  |cont =>
   have(d,p,B,u):=q;have(y,z,t):=L d p u;exact#[y,z,d,p,B,t]
  |brk=>exact q
  |ret v=>exact q
 |false =>
  rw[if_neg Nk];exact RD #[g,O,M,r]
structure It where
 go:Nat->Hp->Prop
 yld:Nat->Hp->V->Hp->Prop
 stop:Nat->Hp->Prop
def oh(X:Cx)(d:List (Addr×Obj))(H:Hp)(b:Addr):Prop :=
 H b=none/\b≠X.env.locals/\b∉X.fs/\(b∈X.ex\/X.s₀.heap.objs.size<=b)/\(∀x c,X.env.cells.lookup x=some c->c≠b)/\∀p∈X.pn++d,p.1≠b
theorem Inv.AS (I:Inv X d m H s)(g:s.heap.objs.size<=b)(hn:l b=none):oh X d l b:=by
 refine#[hn,QU (Nd I.lt g),I.B3 g,.inr (Nu I.sz g),λx c e z=>?_,λp o z=>?_]
 .have(v,q):=I.cell x c e;exact absurd (Nd q.lt (by rw[z];exact g)) (N7 _)
 .exact absurd (Nd (L0 (I.pin p o).1) (by rw[z];exact g)) (N7 _)
structure Turn(P:I0) (w:Ni) (K:bN) (tg:Expr) (J:It) (fp:List Addr) (it:Addr) (tn:Nat->Heap->Prop):Prop where
 mem:it∈fp
 obj:∀i h,tn i h->∀b∈fp,∃o,h.get? b=some o/\∀v,o.data≠.cell v
 keep:∀i h h',tn i h->(∀b∈fp,∀o,h.get? b=some o->h'.get? b=some o)->tn i h'
 item:∀(X:Cx),X.prog=P->X.w=w->X.K=K->X.calm=true->∀(i:Nat) (pins:List (Addr×Obj)) (s:fy) (σ:St) (H:Hp) (E:eF->fy->Prop),Inv X pins σ H s->(∀b∈fp,oh X pins H b)->tn i s.heap->J.go i H ->
  Na (Nf P w) X.A (Rn (.ref it)) (λr s1=>∃u,r=some u /\
   Na (Nf P w) X.A (OZ tg (.ref it) u) (λ_ s2=>∃x H',Inv X pins σ H' s2/\RelV x u/\J.yld i H x H'/\tn (i+1) s2.heap/\∀b∈fp,H' b=none) E s1) E s
 done:∀(X:Cx),X.prog=P->X.w=w->X.K=K->X.calm=true->∀(i:Nat) (pins:List (Addr×Obj)) (s:fy) (σ:St) (H:Hp) (E:eF->fy->Prop),Inv X pins σ H s->(∀b∈fp,oh X pins H b)->tn i s.heap->J.stop i H ->
  Na (Nf P w) X.A (Rn (.ref it)) (λr s1=>r=none/\Inv X pins σ H s1) E s
 self:∀(A:Nq) (i:Nat) (s:fy) (Q:eF->fy->Prop) (E:eF->fy->Prop),tn i s.heap->Q (.ref it) s->Na (Nf P w) A (Tp (.ref it)) Q E s
abbrev TI:=St->Hp->(It->Hp->Prop)->Prop
def LQ(X:Cx)(d:List (Addr×Obj))(p:St)(q:Expr)(R:It->Hp->Prop)(e:eF)(m:fy):Prop :=
 ∃(o:Addr) (fp:List Addr) (l:Nat->Heap->Prop) (J:It) (g:Hp),e=.ref o/\Inv X d p g m/\Turn X.prog X.w X.K q J fp o l/\l 0 m.heap/\(∀b∈fp,oh X d g b)/\R J g
def PI(X:Cx)(m e:Expr)(l:TI):Prop :=
 ∀(d:List (Addr×Obj)) (s:fy) (g:St) (H:Hp) (R:It->Hp->Prop),Inv X d g H s->l g H R ->
  Na (Nf X.prog X.w) X.A (eval e X.env) (λv o=>Na (Nf X.prog X.w) X.A (Tp v) (LQ X d g m R) X.xe o) X.xe s
theorem B5 (e : s.heap.get? it = some o)(g : o.cls = .type n)(hd : o.data = .fields vs)(hn : ["enumerate", "zip", "dict_itemiterator", "dict_reverseitemiterator", "odict_iterator", "itertools.zip_longest", "itertools.pairwise"].contains n = false)(hQ : Q Unit.unit s): Na M A (OZ d (.ref it) u) Q E s := by
  unfold OZ
  cases d <;> first
    | exact vv hQ
    | (cases u <;> first
        | exact vv hQ
        | (refine cB (wpAny_load e ?_)
           rw [g, hd];show Na M A (if (["enumerate", "zip", "dict_itemiterator", "dict_reverseitemiterator", "odict_iterator", "itertools.zip_longest", "itertools.pairwise"].contains n && vs[0]? == some (Qd _)) = true then _ else _) Q E s;rw [if_neg (by intro h; rw [hn, Bool.false_and] at h; cases h)];exact vv hQ))
noncomputable def GA(K:bN)(a:Addr):It :=
 #[λi H=>∃d x,bQ K H a d/\d[i]?=some x,λi H x e=>e=H/\∀d,bQ K H a d->d[i]?=some x,λi H=>∃d,bQ K H a d/\d.length<=i]
noncomputable def zH(K:bN)(a:Addr):It :=
 #[λi H=>∃d x,cH K H a d/\d[i]?=some x,λi H x e=>e=H/\∀d,cH K H a d->d[i]?=some x,λi H=>∃d,cH K H a d/\d.length<=i]
noncomputable def Ht(d:Int)(n:Nat):It:=#[λi _=>i<n,λi H x e=>e=H/\x=.int (d+i),λi _=>n<=i]
theorem AU {K:bN}(a it:Addr):Turn P w K Z (GA K a) [it] it (λi h=>h.IsListIter it a i) where
 mem:=by simp
 obj:=λi h g b m=>by
  have e:b=it:=by simpa using m
  subst e;have(o,e,c,d):=g;exact#[o,e,λv z=>by rw[d]at z;cases z]
 keep:=λi h y g k=>g.at λo e=>k it (by simp) o e
 item:=by
  intro X L G M V i l s U H E I t g J;subst L G M;have(Y,x,r,D):=J;have(C,B,p,hz):=I.list r;have(u,hu,ru):=B.get D;have(T,S,f2,R,Q,O):=t it (by simp);refine wpAny_pyNext_list_item g p.isList (x:=u) (by simpa using hu) λy q sb=>?_;have I1:Inv X l U H {s with heap:=y}:=I.turned (t':=s.toks) (λb o m e=>(sb.2 b m).trans e) T S R Q O;have(o,e,c,d):=id q;exact#[u,rfl,B5 (s:={s with heap:=y}) e c d (by decide) #[x,H,I1,ru,#[rfl,λys hy=>by rw[I.xm hy r];exact D],q,λb m=>(t b m).1]]
 done:=by
  intro X L G M V i l s U H E I t g J;subst L G M;have(Y,r,D):=J;have(C,B,p,hz):=I.list r;have(T,S,f2,R,Q,O):=t it (by simp);have hl:=B.length;exact wpAny_pyNext_list_end (I.ok.hd V) g p.isList (by simp;omega) λy eb=>#[rfl,I.turned (t':=s.toks) (λb o m e=>eb b o m e) T S R Q O]
 self:=λ_ _ _ _ _ g h=>wpAny_pyIter_listiter g h
theorem yK {K:bN}(a it:Addr):Turn P w K Z (zH K a) [it] it (λi h=>h.IsTupleIter it a i) where
 mem:=by simp
 obj:=λi h g b q=>by
  have e:b=it:=by simpa using q
  subst e;have(o,e,c,d):=g;exact#[o,e,λv z=>by rw[d]at z;cases z]
 keep:=λi h B g k=>g.at λo e=>k it (by simp) o e
 item:=by
  intro X L G M V i l s U H E I y g J;subst L G M;have(Y,x,t,D):=J;have(m,C,p,hz):=I.tuple t;have(u,hu,ru):=C.get D;have(T,S,f2,R,Q,O):=y it (by simp);refine wpAny_pyNext_tuple_item g (show s.heap.IsTuple a m.toArray from p) (x:=u) (by simpa using hu) λB r sb=>?_;have I1:Inv X l U H {s with heap:=B}:=I.turned (t':=s.toks) (λb o q e=>(sb.2 b q).trans e) T S R Q O;have(o,e,c,d):=id r;exact#[u,rfl,B5 (s:={s with heap:=B}) e c d (by decide) #[x,H,I1,ru,#[rfl,λys hy=>by rw[I.qE hy t];exact D],r,λb q=>(y b q).1]]
 done:=by
  intro X L G M V i l s U H E I y g J;subst L G M;have(Y,t,D):=J;have(m,C,p,hz):=I.tuple t;have(T,S,f2,R,Q,O):=y it (by simp);have hl:=C.length;exact wpAny_pyNext_tuple_end (I.ok.hd V) g (show s.heap.IsTuple a m.toArray from p) (by simp;omega) λB eb=>#[rfl,I.turned (t':=s.toks) (λb o q e=>eb b o q e) T S R Q O]
 self:=λ_ _ _ _ _ g h=>wpAny_pyIter_tupleiter g h
theorem yL {K:bN}{T:Expr}(it:Addr)(p:Int)(n:Nat):Turn P w K T (Ht p n) [it] it (λi h=>IsRangeIter h it (p+(i:Nat)*1) ((n:Int) - (i:Nat)) 1) where
 mem:=by simp
 obj:=λi h d b l=>by
  have e:b=it:=by simpa using l
  subst e
  exact#[_,d,λv z=>by
   have S:Data.fields _=Data.cell v:=z
   cases S]
 keep:=λi h r d k=>k it (by simp) _ d
 item:=by
  intro X C u D B i g s Q H E I q d y;subst C u D;have(O,M,Y,L,J,G):=q it (by simp);have W:=Walks.range (prog:=X.prog) (w:=X.w) (I.ok.hd B) it p 1 n;refine W.item i s _ _ y d λv r R V m U=>?_;have(t,rfl):=V;have I1:Inv X g Q H {s with heap:=r,toks:=R}:=I.turned (λb o l e=>U b o (by simpa using l) e) O M L J G;refine#[_,rfl,B5 (s:={s with heap:=r,toks:=R}) (n:="range_iterator") m rfl rfl (by decide) #[.int (p+i),H,I1,#[t,?_],#[rfl,rfl],m,λb l=>(q b l).1]];rw[Int.mul_one]
 done:=by
  intro X C u D B i g s Q H E I q d y;subst C u D;have(O,M,Y,L,J,G):=q it (by simp);exact wpAny_pyNext_range_end (I.ok.hd B) d (by have:n<=i:=y;omega) λr Z=>#[rfl,I.turned (t':=s.toks) (λb o l e=>Z b o l e) O M L J G]
 self:=λ_ _ _ _ _ d h=>wpAny_pyIter_rangeiter d h
def Jz(K:bN)(tl:TE):TI:=λe H R=>tl e H λx d=>∃a,x=.ref a/\(∃g,bQ K d a g)/\R (GA K a) d
def Hu(K:bN)(tl:TE):TI:=λe H R=>tl e H λx d=>∃a,x=.ref a/\(∃g,cH K d a g)/\R (zH K a) d
theorem lF {tg:Expr}{l:Expr}{tl:TE}(z:PE X l tl):PI X tg l (Jz X.K tl):=by
 intro d s r H R I h;refine cR (z d s r H _ I h) λv g ⟨x,C,m,t,q1⟩=>?_;have(a,e,(D,y),q):=q1;subst e
 cases t
 have(u,G,p,J):=m.list y;refine QV p.isList ?_;refine#[g.heap.objs.size,[g.heap.objs.size],_,_,C,rfl,m.kept (t':=g.toks) λb o e=>tF _ e,AU a _,#[_,Nc _ rfl,rfl,rfl],λb B=>?_,q];have e:b=g.heap.objs.size:=by simpa using B
 subst e;exact m.AS (i5 _) (m.hok.fresh (i5 _))
theorem cz {tg:Expr}{l:Expr}{tl:TE}(z:PE X l tl):PI X tg l (Hu X.K tl):=by
 intro g s t H R I h;refine cR (z g s t H _ I h) λv d ⟨x,C,m,u,q1⟩=>?_;have(a,e,(D,y),q):=q1;subst e
 cases u
 have(r,G,p,J):=m.tuple y;refine wpAny_pyIter_tuple (show d.heap.IsTuple a r.toArray from p) ?_;refine#[d.heap.objs.size,[d.heap.objs.size],_,_,C,rfl,m.kept (t':=d.toks) λb o e=>tF _ e,yK a _,#[_,Nc _ rfl,rfl,rfl],λb B=>?_,q];have e:b=d.heap.objs.size:=by simpa using B
 subst e;exact m.AS (i5 _) (m.hok.fresh (i5 _))
theorem B6 (I:Inv X g l H s)(C:-(2 ^ 62)<=d)(B:d<2 ^ 62)(z:-(2 ^ 62)<=hi)(y:hi<2 ^ 62)(q:R (Ht d (hi-d).toNat) H):Na (Nf X.prog X.w) X.A (Tp (.ref s.heap.objs.size)) (LQ X g l tg R) E {s with heap:=s.heap.push {cls:=.type "range",data:=.fields #[.int d t,.int hi u,.int 1 v,]},toks:=m}:=by
 refine wpAny_pyIter_range (IsRange.new ..) (small_one C B z y) ?_;have p:Inv X g l H {s with heap:=s.heap.push {cls:=.type "range",data:=.fields #[.int d t,.int hi u,.int 1 v,]},toks:=m}:=I.kept λb o e=>tF _ e
 refine#[(s.heap.push {cls:=.type "range",data:=.fields #[.int d t,.int hi u,.int 1 v,]}).objs.size,[(s.heap.push {cls:=.type "range",data:=.fields #[.int d t,.int hi u,.int 1 v,]}).objs.size],_,_,H,rfl,
  p.kept (t':=m) λb o e=>tF _ e,yL _ d (hi-d).toNat,?_,λb r=>?_,q]
 .have G:d+((0:Nat):Int)*1=d:=by simp
  have D:(((hi-d).toNat:Nat):Int) - ((0:Nat):Int)=QW.Range.rangeSize d hi 1:=by rw[rangeSize_one];split<;>omega
  show IsRangeIter _ _ (d+((0:Nat):Int)*1) ((((hi-d).toNat:Nat):Int) - ((0:Nat):Int)) 1;rw[G,D];exact Nc _ rfl
 .have e:b=(s.heap.push {cls:=.type "range",data:=.fields #[.int d t,.int hi u,.int 1 v,]}).objs.size:=by simpa using r
  subst e;exact p.AS (i5 _) (p.hok.fresh (i5 _))
def JA(ta:TA):TI:=λd H R=>ta d H λe g=>∃j:Int,e=[.int j]/\-(2 ^ 62)<=j/\j<2 ^ 62/\R (Ht 0 j.toNat) g
theorem uI {tg:Expr}{a:Expr}{ta:TA}{p d:Pos}(v:Gl X "range")(u:X.mg "range"=none)(y:PA X [a] ta)(hs:N8 [a] X.env=[(false,eval a X.env)]:=by rfl):PI X tg (.Call (.Name "range" p) [a] [] d) (JA ta):=by
 intro g s l H R I h;refine Call_ (qD I v u boot_range (Ph (cR (y d g s l H _ I h) λC D ⟨B,G,z,m,q1⟩=>?_) hs rfl));have(j,e,q1,o,q):=q1;subst e
 cases m with
 |cons r rr =>
  cases rr
  have(t,rfl):=r;exact call_range_1 (B6 z () () q1 o (by simpa using q))
def Lc(q:TI)(g:TG)(r:TS):TS:=λD d H=>q d H λJ u=>∃W:Nat->Nat->St->Hp->Prop,(∃m,W 0 m d u)/\∀i m d H,W i m d H ->
 (J.stop i H/\D.nx d H)\/(J.go i H/\∃N:St->Hp->Prop,(∀e l,N e l->∃p,p < m/\W (i+1) p e l)/\∀x l,J.yld i H x l->g x d l λo t=>r {D with nx:=N,ct:=N,bk:=D.nx} o t)
noncomputable def jU(fp:List Addr)(h:Heap):List (Addr×Obj):=fp.filterMap λb=>(h.get? b).map λo=>(b,o)
theorem fc (d:b∈fp)(e:h.get? b=some o):(b,o)∈jU fp h:=RY.mpr #[b,d,by rw[e];rfl]
theorem uJ (d:p∈jU fp h):p.1∈fp/\h.get? p.1=some p.2:=by
 have(b,g,e):=RY.mp d
 cases q:h.get? b with
 |none=>rw[q]at e;cases e
 |some o =>
  rw[q]at e;have l:(b,o)=p:=Ng e;subst l;exact#[g,q]
theorem Inv.pinned (I:Inv X g l H s)(u:∀b∈fp,oh X g H b)(t:∀b∈fp,∃o,s.heap.get? b=some o/\∀v,o.data≠.cell v):Inv X (g++jU fp s.heap) l H s :=
 I.fu λp r=>(M7.mp r).elim (λz=>I.pin p (we _ z)) λz=>by
  have(m,e):=uJ z;have(C,B,y,_):=u p.1 m;have(o,q,d):=t p.1 m;rw[e]at q;cases q;exact#[e,C,B,y,d]
theorem Inv.sF (I:Inv X (d++pl) e H s):Inv X d e H s:=I.fu λp g=>I.pin p (we _ (NG _ g))
theorem Hv {tg:Expr}{z:Expr}{O:List Stmt}{wi:TI}{g:TG}{tb:TS}{ac:Pos}(V:PassesOwn (Nf X.prog X.w) X.A X.env X.xe)(hc:X.calm=true)(hi:PI X tg z wi)(hg:PG X tg g)(B:qT X O tb)(hs:∀x,NV z X.env x=pure x:=by intro _;rfl):PS X (.For tg z O [] ac) (Lc wi g tb):=by
 intro p s σ H D I h;refine wpAny_For (cR (hi p s σ H _ I h) λv s1 h1=>cR h1 λag s2 h2=>?_) hs;have(it,fp,tn,J,H2,e,I2,T,ab,f2,W,(m0,w0),R):=h2;subst e
 -- what stays true of the iterator's objects through the loop
 have y:∀{L:Hp},(∀b∈fp,L b=none)->∀b∈fp,oh X p L b:=λhn b B=>#[hn b B,(f2 b B).2];refine codeAny_forLoop_any (λn s'=>∃i t L,Inv X p t L s'/\tn i s'.heap/\(∀b∈fp,L b=none)/\W i n t L) ?_ m0 #[0,σ,H2,I2,ab,λb B=>(f2 b B).1,w0];rintro n s3 ⟨i,q,Z,I3,S,Y,w3⟩;rcases R i n q Z w3 with⟨stop,qn⟩|⟨go,N,hN,step⟩
 .refine PD V (cR (T.done X rfl rfl rfl hc i p s3 q Z X.xe I3 (y Y) S stop) λr s4 ⟨hr,I4⟩=>?_);subst hr;exact RD #[q,Z,I4,qn]
 .refine PD V (cR (T.item X rfl rfl rfl hc i p s3 q Z X.xe I3 (y Y) S go) λr s4 ⟨u,hr,h4⟩=>?_);subst hr;refine PD V (cR h4 λ_ s5 ⟨x,H5,I5,r5,y5,Q,ad⟩=>?_);have ae:=I5.pinned (y ad) (T.obj _ _ Q);refine PD V (cR (hg _ s5 q H5 x u _ ae r5 (step x H5 y5)) λ_ s6 ⟨aa,H6,I6,q6⟩=>?_);refine PD V (cR (B _ s6 aa H6 _ I6 q6) λf s7 M=>?_)
  have again:∀{l:St}{G:Hp},Inv X (p++jU fp s5.heap) l G s7->N l G->∃m,m<n/\∃i t L,Inv X p t L s7/\tn i s7.heap/\(∀b∈fp,L b=none)/\W i m t L:=λ{l G} C U=>by
   have(m',hm,w7):=hN l G U;refine#[m',hm,i+1,l,G,C.sF,T.keep _ _ _ Q λb B o e=>(C.pin (b,o) (we _ (we _ (fc B e)))).1,λb B=>?_,w7];have(o,e,d):=T.obj _ _ Q b B;exact(C.pin (b,o) (we _ (we _ (fc B e)))).2.1
  cases f with
  |next=>have(l,G,C,U):=M;exact again C U
  |cont=>have(l,G,C,U):=M;exact again C U
  |brk=>have(l,G,C,M):=M;exact#[l,G,C.sF,M]
  |ret v=>have(x7,l,G,C,r7,M):=M;exact#[x7,l,G,C.sF,r7,M]
theorem xo {K:bN}{g:TG}{v:TS}{D:Ends}(l:Nat->St->Hp->Prop)(G:l 0 d H)(B:∀i d H,i<=xs.length->l i d H->bQ K H a xs)(hs:∀i x d H,xs[i]?=some x->l i d H->g x d H λo u=>v {D with nx:=l (i+1),ct:=l (i+1),bk:=D.nx} o u)(hd:∀d H,l xs.length d H->D.nx d H):
  ∃W:Nat->Nat->St->Hp->Prop,(∃m,W 0 m d H)/\∀i m d H,W i m d H ->
   ((GA K a).stop i H/\D.nx d H)\/((GA K a).go i H/\∃N:St->Hp->Prop,(∀σ' r,N σ' r->∃m',m' < m/\W (i+1) m' σ' r)/\∀x r,(GA K a).yld i H x r->g x d r λo u=>v {D with nx:=N,ct:=N,bk:=D.nx} o u):=by
 refine#[λi m d H=>m=xs.length-i/\i<=xs.length/\l i d H,#[xs.length,by simp,Nn _,G],?_];rintro i m d H ⟨rfl,C,p⟩;have q:=B i d H C p
 by_cases t:i<xs.length
 .refine .inr #[#[xs,xs[i],q,by simp[t]],l (i+1),λσ' r z=>#[xs.length - (i+1),(),rfl,t,z],λx r y=>?_];have(e,y):=y;subst e;exact hs i x d _ (y xs q) p
 .have e:i=xs.length:=()
  subst e;exact .inl #[#[xs,q,i5 _],hd d H p]
theorem eY {K:bN}{g:TG}{v:TS}{D:Ends}(l:Nat->St->Hp->Prop)(G:l 0 d H)(B:∀i d H,i<=xs.length->l i d H->cH K H a xs)(hs:∀i x d H,xs[i]?=some x->l i d H->g x d H λo u=>v {D with nx:=l (i+1),ct:=l (i+1),bk:=D.nx} o u)(hd:∀d H,l xs.length d H->D.nx d H):
  ∃W:Nat->Nat->St->Hp->Prop,(∃m,W 0 m d H)/\∀i m d H,W i m d H ->
   ((zH K a).stop i H/\D.nx d H)\/((zH K a).go i H/\∃N:St->Hp->Prop,(∀σ' r,N σ' r->∃m',m' < m/\W (i+1) m' σ' r)/\∀x r,(zH K a).yld i H x r->g x d r λo u=>v {D with nx:=N,ct:=N,bk:=D.nx} o u):=by
 refine#[λi m d H=>m=xs.length-i/\i<=xs.length/\l i d H,#[xs.length,by simp,Nn _,G],?_];rintro i m d H ⟨rfl,C,p⟩;have q:=B i d H C p
 by_cases t:i<xs.length
 .refine .inr #[#[xs,xs[i],q,by simp[t]],l (i+1),λσ' r z=>#[xs.length - (i+1),(),rfl,t,z],λx r y=>?_];have(e,y):=y;subst e;exact hs i x d _ (y xs q) p
 .have e:i=xs.length:=()
  subst e;exact .inl #[#[xs,q,i5 _],hd d H p]
theorem iG {g:TG}{v:TS}{D:Ends}(q:Nat->St->Hp->Prop)(B:q 0 d H)(hs:∀i d H,i<n->q i d H->g (.int (t+i)) d H λl u=>v {D with nx:=q (i+1),ct:=q (i+1),bk:=D.nx} l u)(hd:∀d H,q n d H->D.nx d H):
  ∃W:Nat->Nat->St->Hp->Prop,(∃m,W 0 m d H)/\∀i m d H,W i m d H ->
   ((Ht t n).stop i H/\D.nx d H)\/((Ht t n).go i H/\∃N:St->Hp->Prop,(∀σ' r,N σ' r->∃m',m' < m/\W (i+1) m' σ' r)/\∀x r,(Ht t n).yld i H x r->g x d r λl u=>v {D with nx:=N,ct:=N,bk:=D.nx} l u):=by
 refine#[λi m d H=>m=n-i/\i<=n/\q i d H,#[n,by simp,Nn _,B],?_];rintro i m d H ⟨rfl,C,p⟩
 by_cases o:i<n
 .refine .inr #[o,q (i+1),λσ' r z=>#[n - (i+1),(),rfl,o,z],λx r y=>?_];have(e,y):=y;subst e y;exact hs i d _ o p
 .have e:i=n:=()
  subst e;exact .inl #[i5 _,hd d H p]
abbrev R2:=V->V->Hp->VK->Prop
def mK(X:Cx)(f:eF->eF->Sem eF)(r:R2):Prop :=
 ∀(d:List (Addr×Obj)) (s:fy) (e:St) (H:Hp) (x y:V) (v u:eF) (Q:VK),Inv X d e H s->RelV x v->RelV y u->r x y H Q ->
  Na (Nf X.prog X.w) X.A (f v u) (EP X d e Q) X.xe s
def Ld(X:Cx)(f:eF->Sem eF)(r:V->Hp->VK->Prop):Prop :=
 ∀(d:List (Addr×Obj)) (s:fy) (e:St) (H:Hp) (x:V) (v:eF) (Q:VK),Inv X d e H s->RelV x v->r x H Q ->
  Na (Nf X.prog X.w) X.A (f v) (EP X d e Q) X.xe s
def iQ(X:Cx)(f:eF)(r:List V->Hp->VK->Prop):Prop :=
 ∀(d:List (Addr×Obj)) (s:fy) (e:St) (H:Hp) (g:List V) (l:List eF) (Q:VK),Inv X d e H s->Vals g l->r g H Q ->
  Na (Nf X.prog X.w) X.A (call f l) (EP X d e Q) X.xe s
def Le(X:Cx)(r:V->Hp->(Bool->Hp->Prop)->Prop):Prop :=
 ∀(d:List (Addr×Obj)) (s:fy) (e:St) (H:Hp) (x:V) (v:eF) (Q:Bool->Hp->Prop),Inv X d e H s->RelV x v->r x H Q ->
  Na (Nf X.prog X.w) X.A (truthy v) (TP X d e Q) X.xe s
abbrev Mn(r:R2)(x:V)(Q:VK):VK:=λy d=>r x y d Q
abbrev Mp(r:R2)(e:TE)(d:St)(Q:VK):VK:=λx g=>e d g (Mn r x Q)
abbrev GB(r:R2)(ta e:TE):TE:=λd H Q=>ta d H (Mp r e d Q)
abbrev Mq(r:V->Hp->VK->Prop)(Q:VK):VK:=λx d=>r x d Q
abbrev Mr(r:V->Hp->VK->Prop)(ta:TE):TE:=λd H Q=>ta d H (Mq r Q)
def rI(C:Int->Int->Prop)(g:Int->Int->V):R2:=λx y H Q=>∃i j,x=.int i/\y=.int j/\C i j/\Q (g i j) H
def Hw(g:Int->Int->V):R2:=λx y H Q=>∃i j,x=.int i/\y=.int j/\Q (g i j) H
def rU(g:Int->V):V->Hp->VK->Prop:=λx H Q=>∃i,x=.int i/\Q (g i) H
theorem Hz (B:PE X a ta)(z:PE X b tb){R:V->V->Hp->Prop}(I:Inv X d e H s)(h:ta e H λx p=>tb e p λy g=>R x y g){f:eF->eF->Sem eF}(hf:∀v u o x y g,Inv X d e g o->RelV x v->RelV y u->R x y g->Na (Nf X.prog X.w) X.A (f v u) Q X.xe o):
  Na (Nf X.prog X.w) X.A (eval a X.env) (λv m=>Na (Nf X.prog X.w) X.A (eval b X.env) (λu l=>Na (Nf X.prog X.w) X.A (f v u) Q X.xe l) X.xe m) X.xe s:=by
 refine cR (B d s e H _ I h) λv q ⟨x,p,D,r,q1⟩=>?_;refine cR (z d q e p _ D q1) λu o ⟨y,g,C,r2,t⟩=>?_;exact hf v u o x y g C r r2 t
theorem bS {a b:Expr}{ta tb:TE}{pos:Pos}{op:Operator}{r:R2}(o:mK X (PN op) r)(t:PE X a ta)(p:PE X b tb):PE X (.BinOp a op b pos) (GB r ta tb):=by
 intro d s e H Q I h;exact wpAny_BinOp (Hz t p I h λv u g x y B z m l q=>o d g e B x y v u Q z m l q)
theorem pJ (m:Ld X (unaryOp op) r)(o:PE X a ta):PE X (.UnaryOp op a pos) (Mr r ta):=by
 intro d s e H Q I h;exact UnaryOp_ (cR (o d s e H _ I h) λv g ⟨x,q,p,l,q1⟩=>m d g e q x v Q p l q1)
theorem KH {g:Int->Int->Int}(rule:∀(i j:Int) (t u:Tok) (s:fy) (Q:eF->fy->Prop) (E:eF->fy->Prop),C i j->Q (.int (g i j) s.toks) {s with toks:=s.toks+1}->Na (Nf X.prog X.w) X.A (f (.int i t) (.int j u)) Q E s):
  mK X f (rI C λi j=>.int (g i j)):=by
 intro d s p H x y v u Q I m l h;have(i,j,rfl,rfl,o,q):=h;have(t,rfl):=m;have(e,rfl):=l;exact rule i j t e s _ _ o #[.int (g i j),H,I.tok _,#[_,rfl],q]
theorem JB {g:Int->Int->Int}(rule:∀(i j:Int) (t u:Tok) (s:fy) (Q:eF->fy->Prop) (E:eF->fy->Prop),Q (.int (g i j) s.toks) {s with toks:=s.toks+1}->Na (Nf X.prog X.w) X.A (f (.int i t) (.int j u)) Q E s):
  mK X f (Hw λi j=>.int (g i j)):=by
 intro d s o H x y v u Q I m l h;have(i,j,rfl,rfl,q):=h;have(t,rfl):=m;have(e,rfl):=l;exact rule i j t e s _ _ #[.int (g i j),H,I.tok _,#[_,rfl],q]
theorem HA {g:Int->Int->Bool}(rule:∀(i j:Int) (t u:Tok) (s:fy) (Q:eF->fy->Prop) (E:eF->fy->Prop),Q (.bool (g i j)) s->Na (Nf X.prog X.w) X.A (f (.int i t) (.int j u)) Q E s):
  mK X f (Hw λi j=>.bl (g i j)):=by
 intro d s o H x y v u Q I m l h;have(i,j,rfl,rfl,q):=h;have(t,rfl):=m;have(e,rfl):=l;exact rule i j t e s _ _ #[.bl (g i j),H,I,rfl,q]
def JC(i j:Int):Prop:=0<j/\j<1073741824
def JD(i j:Int):Prop:=0<=j/\j<=1000000/\i.natAbs<2 ^ 64
def Em(i j:Int):Prop:=(-(2 ^ 64)<i/\i<2 ^ 64)\/(-(2 ^ 64)<j/\j<2 ^ 64)
theorem Em.ok (h:Em i j):IntMulOk i j:=by
 rcases h with⟨h1,h2⟩|⟨h1,h2⟩
 .exact .of_left (intBits_le_64 h1 h2)
 .exact .of_right (intBits_le_64 h1 h2)
theorem dS :mK X (PN .Add) (Hw λi j=>.int (i+j)):=JB λ_ _ _ _ _ _ _ q=>add_int q
theorem kF :mK X (PN .Sub) (Hw λi j=>.int (i-j)):=JB λ_ _ _ _ _ _ _ q=>sub_int q
theorem kG :mK X (PN .Mult) (rI Em λi j=>.int (i*j)):=KH λ_ _ _ _ _ _ _ d q=>mul_int q d.ok
theorem rP :mK X (PN .FloorDiv) (rI JC λi j=>.int (i / j)):=KH λi j _ _ _ _ _ d q=>by
 have g:(0:Int)<j:=d.1;have e:j<1073741824:=d.2;exact floordiv_int () (by rw[Int.fdiv_eq_ediv_of_nonneg i ()];exact q) (.inl (PyProof.noPylong_small ()))
theorem iR :mK X (PN .Mod) (rI (λ_ j=>0<j) λi j=>.int (i % j)):=KH λi j _ _ _ _ _ d q=>by
 have e:(0:Int)<j:=d;exact mod_int' () (by rw[Int.fmod_eq_emod_of_nonneg i ()];exact q)
theorem HC :mK X (PN .Pow) (rI JD λi j=>.int (i ^ j.toNat)):=KH λ_ _ _ _ _ _ _ d q=>pow_int_small d.1 d.2.1 d.2.2 q
theorem Ms {g:Int->Int}(rule:∀(i:Int) (t:Tok) (s:fy) (Q:eF->fy->Prop) (E:eF->fy->Prop),Q (.int (g i) s.toks) {s with toks:=s.toks+1}->Na (Nf X.prog X.w) X.A (f (.int i t)) Q E s):
  Ld X f (rU λi=>.int (g i)):=by
 intro d s l H x v Q I e h;have(i,rfl,q):=h;have(t,rfl):=e;exact rule i t s _ _ #[.int (g i),H,I.tok _,#[_,rfl],q]
theorem lH :Ld X (unaryOp .USub) (rU λi=>.int (-i)):=Ms λ_ _ _ _ _ q=>neg_int q
noncomputable def JE:V->V->Bool
 |.eN,.eN=>true|.eN,.int _=>true|.int _,.eN=>true|.eN,.bl _=>true|.bl _,.eN=>true|.eN,.str _=>true|.str _,.eN=>true
 |.int _,.int _=>true|.bl _,.bl _=>true|.str _,.str _=>true|.byt _,.byt _=>true
 |.int _,.str _=>true|.str _,.int _=>true|.bl _,.str _=>true|.str _,.bl _=>true
 |_,_=>false
def Mt:R2:=λx y H Q=>JE x y=true/\Q (.bl (decide (x=y))) H
def LR:R2:=λx y H Q=>JE x y=true/\Q (.bl (!decide (x=y))) H
theorem zI :decide (V.int i=V.int j)=(i == j):=by
 rw[QD];simp
theorem B7 :decide (V.bl i=V.bl j)=(i == j):=by
 rw[QD];simp
theorem zJ :decide (V.str i=V.str j)=(i == j):=by
 rw[QD];simp
theorem zK :decide (V.byt i=V.byt j)=(i.toList == j.toList):=by
 rw[QD]
 cases i
 cases j
 simp
theorem b9 (I:Inv X d g H s)(q:Q (.bl k) H)(e:k=l):EP X d g Q (.bool l) s:=by
 subst e;exact#[.bl k,H,I,rfl,q]
theorem bV :mK X (Ox .Eq) Mt:=by
 intro m s o H x y v u Q I l d h;have(g,q):=h
 cases x with
 |eN =>
  cases l
  cases y with
  |eN=>cases d;exact PySem.EqNone.eq_none_none (b9 I q (by simp))
  |bl j=>cases d;exact PySem.EqNone.eq_none_bool (b9 I q (by simp))
  |int j=>have(e,rfl):=d;exact PySem.EqNone.eq_none_int (b9 I q (by simp))
  |str j=>have(e,rfl):=d;exact PySem.EqNone.eq_none_str (b9 I q (by simp))
  |_=>exact absurd (show false=true from g) Nk
 |bl i =>
  cases l
  cases y with
  |eN=>cases d;exact PySem.EqNone.eq_bool_none (b9 I q (by simp))
  |bl j=>cases d;exact eq_bool (b9 I q B7)
  |str j=>have(e,rfl):=d;exact PySem.EqMixed.eq_bool_str (b9 I q (by simp))
  |_=>exact absurd (show false=true from g) Nk
 |int i =>
  have(t,rfl):=l
  cases y with
  |eN=>cases d;exact PySem.EqNone.eq_int_none (b9 I q (by simp))
  |int j=>have(e,rfl):=d;exact eq_int (b9 I q zI)
  |str j=>have(e,rfl):=d;exact PySem.EqMixed.eq_int_str (b9 I q (by simp))
  |_=>exact absurd (show false=true from g) Nk
 |str i =>
  have(t,rfl):=l
  cases y with
  |eN=>cases d;exact PySem.EqNone.eq_str_none (b9 I q (by simp))
  |bl j=>cases d;exact PySem.EqMixed.eq_str_bool (b9 I q (by simp))
  |int j=>have(e,rfl):=d;exact PySem.EqMixed.eq_str_int (b9 I q (by simp))
  |str j=>have(e,rfl):=d;exact eq_str (b9 I q zJ)
  |_=>exact absurd (show false=true from g) Nk
 |byt i =>
  have(t,rfl):=l
  cases y with
  |byt j=>have(e,rfl):=d;exact PySem.W.eq_bytes (b9 I q zK)
  |_=>exact absurd (show false=true from g) Nk
 |_=>cases y<;>exact absurd (show false=true from g) Nk
theorem pK :mK X (Ox .NotEq) LR:=by
 intro m s o H x y v u Q I l d h;have(g,q):=h
 cases x with
 |eN =>
  cases l
  cases y with
  |eN=>cases d;exact PySem.EqNone.ne_none_none (b9 I q (by simp))
  |bl j=>cases d;exact PySem.EqNone.ne_none_bool (b9 I q (by simp))
  |int j=>have(e,rfl):=d;exact PySem.EqNone.ne_none_int (b9 I q (by simp))
  |str j=>have(e,rfl):=d;exact PySem.EqNone.ne_none_str (b9 I q (by simp))
  |_=>exact absurd (show false=true from g) Nk
 |bl i =>
  cases l
  cases y with
  |eN=>cases d;exact PySem.EqNone.ne_bool_none (b9 I q (by simp))
  |bl j=>cases d;exact ne_bool (b9 I q (congrArg not B7))
  |str j=>have(e,rfl):=d;exact PySem.EqMixed.ne_bool_str (b9 I q (by simp))
  |_=>exact absurd (show false=true from g) Nk
 |int i =>
  have(t,rfl):=l
  cases y with
  |eN=>cases d;exact PySem.EqNone.ne_int_none (b9 I q (by simp))
  |int j=>have(e,rfl):=d;exact ne_int (b9 I q (congrArg not zI))
  |str j=>have(e,rfl):=d;exact PySem.EqMixed.ne_int_str (b9 I q (by simp))
  |_=>exact absurd (show false=true from g) Nk
 |str i =>
  have(t,rfl):=l
  cases y with
  |eN=>cases d;exact PySem.EqNone.ne_str_none (b9 I q (by simp))
  |bl j=>cases d;exact PySem.EqMixed.ne_str_bool (b9 I q (by simp))
  |int j=>have(e,rfl):=d;exact PySem.EqMixed.ne_str_int (b9 I q (by simp))
  |str j=>have(e,rfl):=d;exact ne_str (b9 I q (congrArg not zJ))
  |_=>exact absurd (show false=true from g) Nk
 |byt i =>
  have(t,rfl):=l
  cases y with
  |byt j=>have(e,rfl):=d;exact PySem.W.ne_bytes (b9 I q (congrArg not zK))
  |_=>exact absurd (show false=true from g) Nk
 |_=>cases y<;>exact absurd (show false=true from g) Nk
theorem mU :mK X (Ox .Lt) (Hw λi j=>.bl (decide (i<j))):=HA λ_ _ _ _ _ _ _ q=>lt_int q
theorem pL :mK X (Ox .Gt) (Hw λi j=>.bl (decide (j<i))):=HA λ_ _ _ _ _ _ _ q=>gt_int q
theorem JF :mK X (Ox .GtE) (Hw λi j=>.bl (decide (j<=i))):=HA λ_ _ _ _ _ _ _ q=>ge_int q
theorem qF :mK X (Ox .Is) (λx y H Q=>y=.eN/\Q (.bl (decide (x=.eN))) H):=by
 intro e s l H x y v u Q I d g h;have(rfl,q):=h
 cases g
 refine is_none_gen (b9 I q ?_)
 cases x<;>first
  |(cases d;rfl)
  |(have(t,rfl):=d;rfl)
theorem rQ :mK X (Ox .IsNot) (λx y H Q=>y=.eN/\Q (.bl (!decide (x=.eN))) H):=by
 intro e s l H x y v u Q I d g h;have(rfl,q):=h
 cases g
 refine isnot_none_gen (b9 I q ?_)
 cases x<;>first
  |(cases d;rfl)
  |(have(t,rfl):=d;rfl)
theorem bG (b:Expr)(h:op≠.In:=by decide)(d:op≠.NotIn:=by decide):Ss op b=false:=by
 have g:(op == CmpOp.In)=false:=by cases op<;>first|rfl|exact absurd rfl h
 have e:(op == CmpOp.NotIn)=false:=by cases op<;>first|rfl|exact absurd rfl d
 cases b<;>simp[Ss,g,e]
theorem jq {a b:Expr}{ta tb:TE}{pos:Pos}{op:CmpOp}{r:R2}(o:mK X (Ox op) r)(z:PE X a ta)(t:PE X b tb)(p:Ss op b=false):PE X (.Compare a [op] [b] pos) (GB r ta tb):=by
 intro d s e H Q I h;exact wpAny_Compare1 (Hz z t I h λv u g x y C B m l q=>o d g e C x y v u Q B m l q) p
def Mu(Q:Bool->Hp->Prop):VK:=λx d=>∃k,x=.bl k/\Q k d
abbrev B8(t:TE):TT:=λd H Q=>t d H (Mu Q)
theorem nS {a b:Expr}{ta tb:TE}{pos:Pos}{op:CmpOp}{r:R2}(t:mK X (Ox op) r)(D:PE X a ta)(C:PE X b tb)(B:Ss op b=false):PT X (.Compare a [op] [b] pos) (B8 (GB r ta tb)):=by
 intro d s g H Q I h
 refine wpAny_isTrue_Compare1 (cR (D d s g H _ I h) λv m ⟨x,R,L,o,q1⟩=>cR (C d m g R _ L q1) λu l ⟨y,O,J,r2,q⟩ =>
  cR (t d l g O x y v u _ J o r2 q) λc S ⟨z,M,G,r3,k,e,p⟩=>?_) B
 subst e
 cases r3
 exact PM #[M,G,p]
def HD(r l:R2)(ta tb tc:TE):TE:=λd H Q=>ta d H λx p=>tb d p λy o=>r x y o λz e=>∃k,z=.bl k /\
 (if k=true then tc d e λg m=>l y g m Q else Q (.bl false) e)
theorem B9 {a b c:Expr}{ta tb tc:TE}{pos:Pos}{op l:CmpOp}{r p:R2}(W:mK X (Ox op) r)(o:mK X (Ox l) p)(ha:PE X a ta)(Z:PE X b tb)(Y:PE X c tc)(hm:lastMarks [op,l] [b,c]=false:=by with_unfolding_all rfl):PT X (.Compare a [op,l] [b,c] pos) (B8 (HD r p ta tb tc)):=by
 intro g s m H Q I h
 refine isTrue_chain (cR (ha g s m H _ I h) λv M ⟨x,H1,I1,R,q1⟩=>test_link (cR (Z g M m H1 _ I1 q1) λu L ⟨y,H2,I2,r2,U⟩ =>
  cR (W g L m H2 x y v u _ I2 R r2 U) λd J ⟨z,B,t,r3,k,e,q⟩=>?_)) hm
 subst e
 cases r3
 refine PM ?_
 cases k with
 |false =>
  have(k',e',V):=q
  cases e'
  exact ite_ff #[B,t,V]
 |true =>
  refine ite_tt (test_last (cR (Y g J m B _ t q) λD G ⟨C,H4,I4,r4,T⟩=>cR (o g G m H4 y C u D _ I4 r2 r4 T) λd' s5 ⟨z2,H5,I5,O,k2,e2,S⟩=>?_));subst e2
  cases O
  exact PM #[H5,I5,S]
def HE(K:bN)(x:V)(H:Hp)(k:Bool):Prop :=
 match x with
 |.eN=>k=false
 |.bl b=>k=b
 |.int i=>k=(i != 0)
 |.str y=>y.length<=mH/\k=((y.length:Int) != 0)
 |.byt y=>y.size<=mH/\k=((y.size:Int) != 0)
 |.ref p=>(∃d,bQ K H p d/\k=!d.isEmpty)\/(∃d,cH K H p d/\k=!d.isEmpty)\/∃e,H p=some (.dK e)/\k=!e.isEmpty
 |_=>False
theorem yM {kvs:List (d×V)}{vs:List (d×eF)}(r:KV kvs vs):(!vs.isEmpty)=!kvs.isEmpty:=by
 cases r<;>rfl
theorem sG (r:Vals xs d):(!d.toArray.isEmpty)=!xs.isEmpty:=by
 cases r<;>simp
theorem oR :(mH:Nat)<2 ^ 63:=by rw[Qk];decide
theorem HF :Le X (λx H Q=>∃k,HE X.K x H k/\Q k H):=by
 intro D s M H x v Q I u h;have(k,e,q):=h;have R:=oR;have O:mH=16777216:=Qk
 cases x with
 |eN =>
  cases u
  have d:k=false:=e;subst d;exact truthy_none #[H,I,q]
 |bl b =>
  cases u
  have d:k=b:=e;subst d;exact PM #[H,I,q]
 |int i =>
  have(t,rfl):=u;have d:k=(i != 0):=e;subst d;exact PySem.P.truthy_int #[H,I,q]
 |str y =>
  have(t,rfl):=u;obtain⟨J,d⟩:y.length<=mH/\k=((y.length:Int) != 0):=e;subst d;exact PySem.P.truthy_str () #[H,I.tok _,q]
 |byt y =>
  have(t,rfl):=u;obtain⟨J,d⟩:y.size<=mH/\k=((y.size:Int) != 0):=e;subst d;exact PySem.W.truthy_bytes () #[H,I.tok _,q]
 |ref p =>
  cases u
  have d:(∃o,bQ X.K H p o/\k=!o.isEmpty)\/(∃o,cH X.K H p o/\k=!o.isEmpty)\/∃g,H p=some (.dK g)/\k=!g.isEmpty:=e;rcases d with⟨o,hx,d⟩|⟨o,hx,d⟩|⟨g,hx,d⟩
  .subst d;have(C,r,B,G):=I.list hx;have l:=r.length;exact wpAny_truthy_list B.isList (by simp only[M6];omega) #[H,I.tok _,by rw[sG r];exact q]
  .subst d;have(C,r,B,G):=I.tuple hx;have l:=r.length;exact truthy_tuple B (by simp only[M6];omega) #[H,I.tok _,by rw[sG r];exact q]
  .subst d;obtain⟨G,L,z,r,m⟩:g.length<=mH/\(p == OR)=false/\∃z,KV g z/\s.heap.DictOf (bx X.prog X.w) p z:=I.hok p _ hx;have l:g.length=z.length:=Paired.length r;exact wpAny_truthy_dict L m () #[H,I.tok _,by rw[yM r];exact q]
 |_=>exact(show False from e).elim
theorem xq (q:PE X a ta)(p:∀d,isTrue a X.env d=(do let v ←d;SS a.pos;Sh [v] (truthy v))):
  PT X a (λg H Q=>ta g H λx l=>∃k,HE X.K x l k/\Q k l):=by
 intro e s g H Q I h;exact isTrue_plain (cR (q e s g H _ I h) λv m ⟨x,t,r,o,q1⟩=>HF e m g t x v Q r o q1) (p _)
theorem lI :mK X (PN .Add) (λx y H Q=>∃i j,x=.str i/\y=.str j/\i.length+j.length<=mH/\Q (.str (i++j)) H):=by
 intro d s o H x y v u Q I l g h;have(i,j,rfl,rfl,m,q):=h;have(t,rfl):=l;have(e,rfl):=g;exact add_str (λe p=>#[.str (i++j),H,I.tok _,#[_,rfl],q]) m
theorem vals1 (r:Vals [x] us):∃u,us=[u]/\RelV x u:=by
 cases r with
 |cons r1 r2=>cases r2;exact#[_,rfl,r1]
theorem vals2 (r:Vals [x,y] us):∃u d,us=[u,d]/\RelV x u/\RelV y d:=by
 cases r with
 |cons r1 r2 =>
  cases r2 with
  |cons r3 r4=>cases r4;exact#[_,_,rfl,r1,r3]
theorem iH :iQ X (.type "int") (λxs H Q=>(∃i,xs=[.int i]/\Q (.int i) H)\/∃k,xs=[.bl k]/\Q (.int (if k then 1 else 0)) H):=by
 intro d s g H xs l Q I r h;rcases h with⟨i,rfl,q⟩|⟨k,rfl,q⟩
 .have(u,rfl,t,rfl):=vals1 r;exact call_int_int #[.int i,H,I,#[_,rfl],q]
 .have(u,rfl,e):=vals1 r
  cases e
  exact call_int_bool #[.int (if k then 1 else 0),H,I.tok _,#[_,rfl],q]
structure AV(h:Heap) (x dx C:Addr) (mA:Str->Option eF):Prop where
 obj:h.get? x=some (O9 C dx)
 ns:h.Ns1 dx mA
 ne:dx≠x
theorem AW {h:Heap}(n:h.Ns1 m g):∃od,h.get? m=some od/\∀name,Su name od=some (g name):=by
 have(o,l,C,r,hd,v,_,u):=n;refine#[o,r,λname=>?_];have e:=u name;unfold UC findBy at e;rw[<-Uc]at e;unfold Su;rw[hd];dsimp only
 split
 .rename_i y q
  rw[q]at e;exact congrArg some e
 .rename_i q
  rw[q]at e
  have a:l.toList.any (·.refKey)=false:=by
   rw[QX];intro y p;have(z,t,d):=v y (Ry.mp p);simp[O7.refKey,d]
  have B:¬l.toList.any (·.refKey)=true:=by rw[a];exact Nk
  rw[if_neg B];exact congrArg some e
theorem AV.look (I:AV h x e C d):∃od,PySem.W.InstAt h x (O9 C e) C (some od)/\∀name,Su name od=some (d name) :=
 let⟨od,ho,hl⟩:=AW I.ns
 #[od,#[I.obj,rfl,rfl,ho],hl]
theorem get_map {K:bN}(X:K.In s.heap)(I:AV s.heap x dx C mA)(l:SH K C name=true)(g:P5 K C=true)(ha:Od K (.ref C) name=some none)(hv:mA name=some v)(hv':UD v=true)(h:Q v {s with toks:=s.toks+1}):
  Na (Nf prog w) A (UQ (.ref x) name d) Q E s:=by
 have(m,J,e):=I.look;exact PySem.W.get_value X J (PySem.W.plainGet_of l).1 (PySem.W.findObj_own g ha rfl (by rw[e,hv])) hv' h
theorem En {K:bN}(X:K.In s.heap)(I:AV s.heap x dx C mA)(hs:Od K (.ref C) "__setattr__"=some (some (.builtin "object.__setattr__")))(hp:Uo K C=true)(ht:Rb K C name=some none)(hh:P5 K C=true)(hw:SR mA ns)(hsz:ns.length<=mH)(h:∀h',AV h' x dx C (λy=>if y=name then some v else mA y)->PL dx s.heap h'->Q Unit.unit {s with heap:=h',toks:=s.toks+2}):
  Na (Nf prog w) A (setAttr (.ref x) name v) Q E s:=by
 have(z,J,D):=I.look;refine PySem.W.set_plain X J hs (PySem.W.osa_open (s:={s with toks:=s.toks+1}) (r:=none) X J hp ht λb=>?_);have(G,q,m):=PySem.W.any_some hh;have p:s.heap.get? x=some #[.ref C,some dx,.plain,#[]]:=I.obj;refine cB (vv (cB (cB (RZ p (cB (PySem.W.Looks.here (s:={s with toks:=s.toks+1}) (PySem.W.looks_clsIn X q) ?_))))));rw[m];refine vv (a:=some dx) (cB (vv (cB ?_)));refine wpAny_nsSet1 (s:={s with toks:=s.toks+1}) I.ns λh' e d=>?_;have(B,t,u,g,l,o):=e.count (SR.cons name v hw);refine cB (wpAny_lookBehind g (by rw[l];exact pastItsLine_dict (Nu o (by rw[Np];omega))) ?_);exact vv (h _ #[(d.2 _ (PK I.ne)).trans I.obj,e,I.ne] d)
theorem Ca {K:bN}(X:K.In s.heap)(m:UP K C=true)(hi:Od K (.ref C) "__init__"=some (some (.ref f)))(hf:PySem.W.typeIn K (.ref f)=some (.type "function"))(h:O5 (Nf prog w) (A.under (.builtin "type.__call__" #[.ref C::vs,l])) (.call (.ref f) #[.ref (s.heap.objs.size+1)::vs,l]) (PySem.W.InitBack (s.heap.objs.size+1) R)
   {s with heap:=(s.heap.push OJ).push (O9 C s.heap.objs.size)}):
  O5 (Nf prog w) A (.call (.ref C) #[vs,l]) R s:=by
 have(p,g,d,t,o):=s;exact PySem.W.make_core (PySem.W.makes_of X m) (PySem.W.looks_findIn X hi) (λe=>PySem.W.bind_fn X e hf) (.inl rfl) h
noncomputable def aX(f:Str)(v:V):List (Str×V)->List (Str×V)
 | []=>[(f,v)]
 |(g,x)::r=>if g=f then(g,v)::r else(g,x)::aX f v r
theorem qU (f g:Str)(v:V):∀fs:List (Str×V),(aX f v fs).lookup g=if g=f then some v else fs.lookup g
 | []=>by
  show O6 g [(f,v)]=_
  by_cases h:g=f
  .have d:(g == f)=true:=beq_iff_eq.mpr h;simp only[O6,d,if_pos h]
  .have d:(g == f)=false:=beq_eq_false_iff_ne.mpr h;simp only[O6,d,if_neg h]
 |(k,x)::r=>by
  have m:=qU f g v r;rw[show aX f v ((k,x)::r)=(if k=f then(k,v)::r else(k,x)::aX f v r)from rfl]
  by_cases l:k=f
  .rw[if_pos l]
   by_cases h:g=k
   .have d:(g == k)=true:=beq_iff_eq.mpr h;simp only[O6,d,if_pos (h.trans l)]
   .have d:(g == k)=false:=beq_eq_false_iff_ne.mpr h;simp only[O6,d,if_neg (λe:g=f=>h (e.trans l.symm))]
  .rw[if_neg l]
   by_cases h:g=k
   .have d:(g == k)=true:=beq_iff_eq.mpr h;simp only[O6,d,if_neg (λe:g=f=>l (h.symm.trans e))]
   .have d:(g == k)=false:=beq_eq_false_iff_ne.mpr h;simp only[O6,d];exact m
theorem qG (f:Str)(v:V):∀fs:List (Str×V),f∈(aX f v fs).map (·.1)/\∀g,g∈fs.map (·.1)->g∈(aX f v fs).map (·.1)
 | []=>#[by simp[aX],λg h=>by simp at h]
 |(k,x)::r=>by
  have(m,l):=qG f v r;rw[show aX f v ((k,x)::r)=(if k=f then(k,v)::r else(k,x)::aX f v r)from rfl]
  by_cases d:k=f
  .rw[if_pos d];subst d;exact#[by simp,λg h=>by simpa using h]
  .rw[if_neg d];refine#[?_,λg h=>?_]
   .rw[Nr];exact Oe _ m
   .rw[Nr]at h|-;rcases M8.mp h with e|e
    .exact M8.mpr (.inl e)
    .exact Oe _ (l g e)
theorem qV (f:Str)(v:V):∀fs:List (Str×V),(aX f v fs).length<=fs.length+1
 | []=>by simp[aX]
 |(k,x)::r=>by
  have e:=qV f v r;rw[show aX f v ((k,x)::r)=(if k=f then(k,v)::r else(k,x)::aX f v r)from rfl]
  by_cases d:k=f
  .rw[if_pos d,Np,Np];omega
  .rw[if_neg d,Np,Np];omega
theorem lC.some_of (r:lC (some v) o):∃u,o=some u/\RelV v u:=by
 cases o with
 |none=>exact(show False from r).elim
 |some u=>exact#[u,rfl,r]
theorem uK (r:RelV v u):UD u=true:=by
 cases v with
 |eN=>cases(show u=Value.none from r);rfl
 |bl b=>cases(show u=Value.bool b from r);rfl
 |int i=>have(t,e):=(show ∃t,u=Value.int i t from r);cases e;rfl
 |str x=>have(t,e):=(show ∃t,u=Value.str x t from r);cases e;rfl
 |byt b=>have(t,e):=(show ∃t,u=Value.bytes b t from r);cases e;rfl
 |flt b=>have(t,e):=(show ∃t,u=Value.float b t from r);cases e;rfl
 |ref a=>cases(show u=Value.ref a from r);rfl
 |ty n=>cases(show u=Value.type n from r);rfl
theorem zL (l:mQ P w H h)(e:H a=some (.ins C dx fs)):∃g,AV h a dx C g/\(∀f,lC (fs.lookup f) (g f))/\SR g (fs.map (·.1))/\fs.length<=1000/\H dx=some (.own a):=by
 have(d,z,o,m,g,n,r,q):=(show eM P w H h a (.ins C dx fs)from l a _ e);exact#[g,#[m,n,o],r,q,z,d]
structure GC(K:bN) (C:Addr):Prop where
 pg:SH K C NB=true
 hd:P5 K C=true
 po:Uo K C=true
 sa:Od K (.ref C) "__setattr__"=some (some (.builtin "object.__setattr__"))
theorem GC.get {K:bN}(c:GC K C)(f:Str):SH K C f=true:=c.pg
def jE(K:bN)(C:Addr)(f:Str):Prop:=Od K (.ref C) f=some none
theorem jE.JG {K:bN}(n:jE K C f):Rb K C f=some none:=by
 unfold Rb;rw[show Od K (.ref C) f=some none from n];rfl
structure Meth(K:bN) (C:Addr) (m:Str) (f:Addr):Prop where
 at_:Od K (.ref C) m=some (some (.ref f))
 fn:PySem.W.isFn K (.ref f)=true
 kp:Pb K (.ref f)=true
theorem yN (I:Inv X pins σ H s)(e:H a=some (.ins C dx fs))(c:GC X.K C)(n:jE X.K C f)(l:fs.lookup f=some v)(h:∀u s',Inv X pins σ H s'->RelV v u->Q u s'):Na (Nf X.prog X.w) A (UQ (.ref a) f b) Q E s:=by
 have(g,O,r,_,_,_):=zL I.hok e;have(u,m,d):=lC.some_of (v:=v) (o:=g f) (by rw[<-l];exact r f);exact get_map I.sy O (c.get f) c.hd n m (uK d) (h u _ (I.tok _) d)
theorem yO (I:Inv X pins σ H s)(e:H a=some (.ins C dx fs))(c:GC X.K C)(n:jE X.K C f)(M:fs.length<1000)(B:RelV y u)(h:∀s',Inv X pins σ (upd H a (.ins C dx (aX f y fs))) s'->Q Unit.unit s'):Na (Nf X.prog X.w) A (setAttr (.ref a) f u) Q E s:=by
 have(m,O,r,l,_,p):=zL I.hok e;have D:(fs.map (·.1)).length<=mH:=by rw[bM,Qk];omega
 refine En I.sy O c.sa c.po n.JG c.hd l D λL d t=>h _ ?_;have hd:∃o,L.get? dx=some o:=let⟨o,_,_,e',_⟩:=d.ns;#[o,e'];refine I.write (x:=a) (e:=dx) (by rw[e];exact True.intro) (.inr p) (λb q J z=>(t.2 b J).trans z) hd ?_;refine#[by rw[au O.ne];exact p,?_,O.ne,d.obj,_,d.ns,λg=>?_,λg G=>?_]
 .have:=qV f y fs;omega
 .show lC ((aX f y fs).lookup g) (if g=f then some u else m g);rw[qU]
  by_cases q:g=f
  .rw[if_pos q,if_pos q];exact B
  .rw[if_neg q,if_neg q];exact r g
 .by_cases q:g=f
  .rw[q];exact(qG f y fs).1
  .refine(qG f y fs).2 g (l g λz=>G ?_);show(if g=f then some u else m g)=none;rw[if_neg q];exact z
theorem Inv.made (I:Inv X pins σ H s):Inv X pins σ (upd (upd H s.heap.objs.size (.own (s.heap.objs.size+1))) (s.heap.objs.size+1) (.ins C s.heap.objs.size []))
  {s with heap:=(s.heap.push OJ).push (O9 C s.heap.objs.size)}:=by
 have g:(s.heap.push OJ).get? s.heap.objs.size=some OJ:=Nc s.heap rfl
 have r:((s.heap.push OJ).push (O9 C s.heap.objs.size)).get? (s.heap.objs.size+1)=some (O9 C s.heap.objs.size):=by
  have:=Nc (s.heap.push OJ) (o:=O9 C s.heap.objs.size) rfl
  rwa [Oc]at this
 have p:(s.heap.push OJ).Ns s.heap.objs.size (λ_=>none):=#[OJ,#[],_,g,rfl,(λe m=>absurd m (by simp)),λ_=>rfl];have t:=I.laid (a:=s.heap.objs.size) (o:=.own (s.heap.objs.size+1)) (h':=s.heap.push OJ) (t':=s.toks) (λb u q=>tF _ q) (i5 _) #[_,g];refine t.laid (a:=s.heap.objs.size+1) (o:=.ins C s.heap.objs.size []) (t':=s.toks) (λb u q=>tF _ q) (Up (Oc _ _)) ?_;have d:s.heap.objs.size≠s.heap.objs.size+1:=Nt (O1 _);refine#[by rw[au d,af],Nn _,d,r,λ_=>none,(Heap.Ns1.of_empty p).at λo q=>tF _ q,λ_=>True.intro,λy l=>absurd rfl l]
theorem zM (m:Qz e f d (eval e d)=eval e d)(h:Na (Nf prog w) A (eval e d) (λo g=>Na (Nf prog w) A (UQ o f true) Q E g) E s):Na (Nf prog w) A (eval (.Attribute e f l) d) Q E s :=
 Attribute_any_ h (by rw[arm_eval_Attribute,m])
def Lf(K:bN)(ta:TE)(f:Str):TE:=λe H Q=>ta e H λx d=>∃a C g fs v,x=.ref a/\d a=some (.ins C g fs)/\GC K C/\jE K C f/\fs.lookup f=some v/\Q v d
def Lg(K:bN)(ta l:TE)(f:Str):TS:=λD d H=>l d H λy m=>ta d m λx g=>∃a C e fs,x=.ref a/\g a=some (.ins C e fs)/\GC K C/\jE K C f/\fs.length<1000 /\
 D.nx d (upd g a (.ins C e (aX f y fs)))
theorem jV (r:PE X e ta)(t:Qz e f X.env (eval e X.env)=eval e X.env):PE X (.Attribute e f pos) (Lf X.K ta f):=by
 intro d s g H Q I h;refine zM t (cR (r d s g H _ I h) λu L ⟨x,D,B,m,a,C,M,fs,v,ex,y,c,n,l,q⟩=>?_);subst ex;obtain rfl:u=Value.ref a:=m;exact yN B y c n l λG J z p=>#[v,D,z,p,q]
theorem qH {o value:Expr}{f:Str}{pos pos':Pos}{ta tv:TE}(B:PE X o ta)(z:PE X value tv)(hs:Rm value (some (.Attribute o f pos')) pos.line X.env=pure false):PS X (.Assign [.Attribute o f pos'] value pos) (Lg X.K ta tv f):=by
 intro d s g H D I h;refine Rc (cR (z d s g H _ I h) λu m ⟨y,O,M,p,q⟩=>cR (B d m g O _ M q) λv R ⟨x,T,L,r,a,C,S,fs,ex,G,c,n,l,t⟩=>?_) hs;subst ex;obtain rfl:v=Value.ref a:=r;exact yO L G c n l p λQ J=>#[g,_,J,t]
structure dj(k:Nat) (A:Nq):Prop where
 hd:A.handled=none
 dp:A.depth+2*k+5<recursionLimit
 un:A.units+16*k+200<Rf
 gd:A.guards=some []
theorem dj.mono (r:dj k A)(h:j<=k):dj j A:=#[r.hd,by have:=r.dp;omega,by have:=r.un;omega,r.gd]
theorem dj.deeper (r:dj (k+1) A)(d:Env):dj k (A.deeper d) :=
 #[r.hd,by have:=r.dp;show A.depth+1+2*k+5<_;omega,by have:=r.un;show A.units+3+16*k+200<_;omega,r.gd]
theorem yP {A:Nq}:(A.under (.builtin "type.__call__" #[.ref C::us,d])).depth=A.depth+1:=by
 first|rfl|simp[SW,Code.weight,Code.isCreation,Code.isGuard,Code.isCaller,Code.frames,Uq,guardIds]
theorem yQ {A:Nq}:(A.under (.builtin "type.__call__" #[.ref C::us,d])).units=A.units+1:=by
 first|rfl|simp[SW,Code.cUnits,Code.frames,Uq]
theorem xr {A:Nq}:(A.under (.builtin "type.__call__" #[.ref C::us,d])).guards=A.guards:=by
 first|rfl|simp[SW,pushGuards,Code.guards,Code.isGuard,guardIds]
theorem dj.make (r:dj (k+1) A)(C:Addr)(us:List eF)(d:List (Str×eF)):dj k (A.under (.builtin "type.__call__" #[.ref C::us,d])) :=
 #[r.hd,by have:=r.dp;rw[yP];omega,by have:=r.un;rw[yQ];omega,by rw[xr];exact r.gd]
theorem dj.depth (r:dj k A):A.depth<recursionLimit:=by have:=r.dp;omega
theorem dj.units (r:dj k A):A.units+64<Rf:=by have:=r.un;omega
abbrev xu:TA:=λ_ H Q=>Q [] H
abbrev Mv(x:V)(Q:List V->Hp->Prop):List V->Hp->Prop:=λd e=>Q (x::d) e
abbrev Mw(e:TA)(d:St)(Q:List V->Hp->Prop):VK:=λx g=>e d g (Mv x Q)
abbrev oB(ta:TE)(e:TA):TA:=λd H Q=>ta d H (Mw e d Q)
theorem aA :PA X [] xu:=λ_ _ _ _ H Q I h=>Calls.spliced_nil #[[],H,I,.nil,h]
theorem bI (q:PE X e te)(hr:PA X es t)(hs:N8 (e::es) X.env=(false,eval e X.env)::N8 es X.env:=by rfl):PA X (e::es) (oB te t):=by
 intro pos d s g H Q I h;rw[hs];show Na _ _ (spliced ((false,eval e X.env)::RT pos (N8 es X.env))) _ _ s;refine Calls.spliced_cons (cR (q d s g H _ I h) λu m ⟨x,z,v,o,q1⟩=>?_);exact cR (hr pos d m g z _ v q1) λB C ⟨l,y,r,r2,p⟩=>#[x::l,y,r,.cons o r2,p]
def Mx(Q:VK):List V->Hp->Prop:=λd g=>d.length<=mH/\∀p,g p=none->Q (.ref p) (upd g p (.tup d))
def My(Q:VK):List V->Hp->Prop:=λd g=>d.length<=mH/\∀p,g p=none->Q (.ref p) (upd g p (.lst d))
abbrev yR(t:TA):TE:=λd H Q=>t d H (Mx Q)
abbrev HG(t:TA):TE:=λd H Q=>t d H (My Q)
theorem fH {es:List Expr}{t:TA}{pos:Pos}{x1}(h:PA X es t):PE X (.Tuple es x1 pos) (yR t):=by
 intro d s o H Q I y;refine wpAny_Tuple_spliced (cR (h pos d s o H _ I y) λv g ⟨p,m,l,r,z,q⟩=>#[by rw[<-r.length];exact z,?_]);have B:m g.heap.objs.size=none:=l.hok.fresh (i5 _);refine#[.ref g.heap.objs.size,upd m g.heap.objs.size (.tup p),l.laid (t':=g.toks) (λb u e=>tF _ e) (i5 _) ?_,rfl,q _ B];exact#[z,v,r,#[_,Nc _ rfl,rfl,_,rfl],_,Nc _ rfl,rfl]
theorem dF {es:List Expr}{t:TA}{pos:Pos}(h:PA X es t):PE X (.List es pos) (HG t):=by
 intro d s o H Q I y;refine wpAny_List_spliced (cR (h pos d s o H _ I y) λv g ⟨p,m,l,r,z,q⟩=>#[by rw[<-r.length];exact z,?_]);have B:m g.heap.objs.size=none:=l.hok.fresh (i5 _);refine#[.ref g.heap.objs.size,upd m g.heap.objs.size (.lst p),l.laid (t':=g.toks) (λb u e=>tF _ e) (i5 _) ?_,rfl,q _ B];exact#[z,v,0,r,Nc _ rfl]
abbrev Sp:=List V->Hp->VK->XK->Prop
abbrev wX:=List Env->Hp->fy->XK->eF->fy->Prop
structure yS(P:I0) (w:Ni) (K:bN) (mg:Str->Option eF) (base:Heap) (A:Nq) (outer:List Env) (s:fy) (H:Hp):Prop where
 frames:A.frames=some outer
 mod:Mod K mg base
 bs:∀b o,base.get? b=some o->s.heap.get? b=some o/\H b=none
 bsz:base.objs.size<=s.heap.objs.size
 qB:s.heap.FunFrames base outer
 frf:∀b∈frs outer,H b=none
 hok:mQ P w H s.heap
 bare:RP s.gens
def CE(outer:List Env)(P:I0)(w:Ni)(H:Hp)(s:fy)(Q:VK)(u:eF)(s':fy):Prop :=
 ∃v d,s'.os=s.os/\RP s'.gens/\Un (frs outer) [] H d s.heap s'.heap/\mQ P w d s'.heap/\RelV v u/\Q v d
def CR(CX:wX)(outer:List Env)(P:I0)(w:Ni)(H:Hp)(s:fy)(Q:VK)(E:XK)(r:SV)(s':fy):Prop :=
 match r with
 |.ok (.ret u)=>CE outer P w H s Q u s'
 |.ok _=>False
 |.error e=>CX outer H s E e s'
structure cA(P:I0) (w:Ni) (K:bN) (mg:Str->Option eF) (base:Heap) (CX:wX) (k:Nat) (f:Addr) (fd:M5) (ps:List Str) (sp:Sp):Prop where
 len:∀vs H Q E,sp vs H Q E->vs.length=ps.length
 run:∀(A:Nq) (outer:List Env) (s:fy) (H:Hp) (args:Args) (us:List eF) (vs:List V) (Q:VK) (E:XK),dj k A->yS P w K mg base A outer s H->Ur s fd args (ps.zip us)->Vals vs us->sp vs H Q E ->
  O5 (Nf P w) A (.call (.ref f) args) (CR CX outer P w H s Q E) s
theorem yS.make {K:bN}(e:yS P w K mg base A outer s H)(C:Addr)(us:List eF)(d:List (Str×eF)):
  yS P w K mg base (A.under (.builtin "type.__call__" #[.ref C::us,d])) outer s H:=#[by first|exact e.frames|(simpa[SW,Code.envs,Uq,pushEnvs]using e.frames),e.mod,e.bs,e.bsz,e.qB,e.frf,e.hok,e.bare]
theorem Inv.HH (I:Inv X pins σ H s):yS X.prog X.w X.K X.mg X.base X.A X.stack s H :=
 #[I.ok.frames,I.ok.mod,I.bs,Nu I.ok.bsz I.sz,I.stack,I.vG,I.hok,I.bare]
theorem Inv.after (I:Inv X pins σ H s)(h:CE X.stack X.prog X.w H s Q u s'):EP X pins σ Q u s':=by
 have(v,y,o,e,un,m,r,q):=h;have(p,g,d,t,l):=s';obtain rfl:l=s.os:=o;exact#[v,y,I.call (h':=p) (g':=g) (d':=d) (t':=t) (ch:=[]) un m e (λb z=>absurd z (by simp)),r,q]
abbrev Mz(sp:Sp)(d:List V)(E:XK)(Q:VK):List V->Hp->Prop:=λe g=>sp (e++d) g Q E
abbrev JH(sp:Sp)(d:List V)(E:XK)(t:TA):TE:=λe H Q=>t e H (Mz sp d E Q)
def JI(C:Addr)(sp:Sp)(e:List V)(E:XK)(t:TA):TE:=λl H Q=>t l H λm g=>∀x d,g x=none->g d=none->d≠x ->
 sp (.ref x::(m++e)) (upd (upd g d (.own x)) x (.ins C d [])) (λv o=>v=.eN/\Q (.ref x) o) E
def Binds(K:bN)(e:M5)(ps:List Str)(ds:List eF):Prop :=
 ∀(s:fy) (d:List eF),K.In s.heap->(d++ds).length=ps.length->Ur s e #[d,[]] (ps.zip (d++ds))
theorem Binds.all {K:bN}(h:∀us:List eF,us.length=ps.length->bindArgs e #[us,[]]=pure (ps.zip us)):Binds K e ps []:=λs us _ d=>by
 rw[Ny]at d|-;exact .of_eq (h us d)
def Passes(CX:wX)(X:Cx)(E:XK):Prop:=∀(d:List (Addr×Obj)) (l:St) (H:Hp) (s:fy) (e:eF) (g:fy),Inv X d l H s->CX X.stack H s E e g->X.xe e g
theorem HK {sp:Sp}(F:cA X.prog X.w X.K X.mg X.base CX k f fd ps sp)(hr:dj k X.A)(z:Binds X.K fd ps ds)(hd:Vals dvs ds)(v:Passes CX X E)(I:Inv X d l H s)(r:Vals vs us)(h:sp (vs++dvs) H Q E):Na (Nf X.prog X.w) X.A (call (.ref f) us) (EP X d l Q) X.xe s:=by
 have r2:Vals (vs++dvs) (us++ds):=r.append hd;have y:(us++ds).length=ps.length:=by rw[<-r2.length];exact F.len _ _ _ _ h
 refine R0 (Qo (F.run X.A X.stack s H #[us,[]] (us++ds) (vs++dvs) Q E hr I.HH (z s us I.sy y) r2 h) λr q g=>?_)
 cases r with
 |error e=>exact v d l H s e q I g
 |ok fl =>
  cases fl with
  |ret u=>exact I.after g
  |next=>exact OA g
  |brk=>exact OA g
  |cont=>exact OA g
theorem eJ {CX:wX}{k:Nat}{f:Addr}{fd:M5}{ps:List Str}{sp:Sp}{dvs:List V}{ds:List eF}{E:XK}{x:Str}{p pos:Pos}{e:Expr}{es:List Expr}{t:TA}(F:cA X.prog X.w X.K X.mg X.base CX k f fd ps sp)(hr:dj k X.A)(z:Gl X x)(v:X.mg x=some (.ref f))(y:Pb X.K (.ref f)=true)(B:Binds X.K fd ps ds)(hd:Vals dvs ds)(u:Passes CX X E)(ha:PA X (e::es) t)(hdb:(x == ("__debug__":Str))=false:=by decide)(he:N8 (e::es) X.env=(false,eval e X.env)::N8 es X.env:=by rfl)(hpl:(RT pos (N8 es X.env)).any (·.1)=false:=by rfl):
  PE X (.Call (.Name x p) (e::es) [] pos) (JH sp dvs E t):=by
 intro d s l H Q I h;refine O2 (pB I z v ?_ hdb);refine Ud (h₀:=X.base) I.ok.mod.kin y (cR (ha pos d s l H _ I h) λG J ⟨D,L,g,r,q⟩=>#[g.sy,?_]) he hpl;exact HK F hr B hd u g r q
structure Mk(K:bN) (C f:Addr):Prop where
 makes:UP K C=true
 init:Od K (.ref C) "__init__"=some (some (.ref f))
 fn:PySem.W.isFn K (.ref f)=true
 kp:Pb K (.ref C)=true
theorem Cb {sp:Sp}(M:Mk X.K C f)(F:cA X.prog X.w X.K X.mg X.base CX k f fd ps sp)(hr:dj (k+1) X.A)(L:Binds X.K fd ps ds)(hd:Vals dvs ds)(hx:Passes CX X E)(I:Inv X d y H s)(r:Vals vs us)(h:∀x l,H x=none->H l=none->l≠x->sp (.ref x::(vs++dvs)) (upd (upd H l (.own x)) x (.ins C l [])) (λv S=>v=.eN/\Q (.ref x) S) E):
  Na (Nf X.prog X.w) X.A (call (.ref C) us) (EP X d y Q) X.xe s:=by
 have z:=h (s.heap.objs.size+1) s.heap.objs.size (I.hok.fresh (Ot _)) (I.hok.fresh (i5 _)) (Nt (O1 _));have q:=Inv.made (C:=C) I;have r2:Vals (V.ref (s.heap.objs.size+1)::(vs++dvs)) (Value.ref (s.heap.objs.size+1)::(us++ds)):=.cons rfl (r.append hd)
 have J:(Value.ref (s.heap.objs.size+1)::us++ds).length=ps.length:=by
  have e:=r2.length;rw[F.len _ _ _ _ z]at e;exact e.symm
 refine R0 (Ca (f:=f) I.sy M.makes M.init (beq_iff_eq.mp M.fn) (Qo (F.run _ X.stack _ _ #[Value.ref (s.heap.objs.size+1)::us,[]] (Value.ref (s.heap.objs.size+1)::(us++ds)) _ _ E (hr.make C us [])
  (q.HH.make C us []) (L _ (Value.ref (s.heap.objs.size+1)::us) q.sy J) r2 z) λr B g=>?_))
 cases r with
 |error e=>exact hx d y _ _ e B q g
 |ok fl =>
  cases fl with
  |ret u =>
   have(v,T,R,D,O,G):=q.after g;subst O;exact#[D,#[V.ref (s.heap.objs.size+1),T,R,rfl,G]]
  |next=>exact OA g
  |brk=>exact OA g
  |cont=>exact OA g
theorem Eo {CX:wX}{k:Nat}{f C:Addr}{fd:M5}{ps:List Str}{sp:Sp}{dvs:List V}{ds:List eF}{E:XK}{x:Str}{p pos:Pos}{e:Expr}{es:List Expr}{t:TA}(M:Mk X.K C f)(F:cA X.prog X.w X.K X.mg X.base CX k f fd ps sp)(hr:dj (k+1) X.A)(y:Gl X x)(v:X.mg x=some (.ref C))(z:Binds X.K fd ps ds)(hd:Vals dvs ds)(u:Passes CX X E)(ha:PA X (e::es) t)(hdb:(x == ("__debug__":Str))=false:=by decide)(he:N8 (e::es) X.env=(false,eval e X.env)::N8 es X.env:=by rfl)(hpl:(RT pos (N8 es X.env)).any (·.1)=false:=by rfl):
  PE X (.Call (.Name x p) (e::es) [] pos) (JI C sp dvs E t):=by
 intro d s l H Q I h;refine O2 (pB I y v ?_ hdb);refine Ud (h₀:=X.base) I.ok.mod.kin M.kp (cR (ha pos d s l H _ I h) λD G ⟨B,J,g,r,q⟩=>#[g.sy,?_]) he hpl;exact Cb M F hr z hd u g r q
structure aZ(N P:List Str) (sc:OI):Prop where
 kind:sc.kind=.function
 co:sc.isCoroutine=false
 gen:sc.isGenerator=false
 nd:N.Nodup
 pre:N.take P.length=P
 par:∀x∈P,sc.names.lookup x=some .local\/sc.names.lookup x=some .cell
 nofree:∀y∈sc.names,y.2≠.free
theorem uL :∀{binds:List (Str×eF)}{m:Str->Option eF},(∀v,(x,v)∉binds)->UT d binds m x=m x
 | [],_,_=>rfl
 |(n,v)::r,m,h=>by
  unfold UT;rw[uL λw e=>h w (Oe _ e)]
  split
  .have:x≠n:=by rintro rfl;exact h v OF
   simp[this]
  .rfl
theorem uM :∀{binds:List (Str×eF)}{m:Str->Option eF},(∀v,(x,v)∉binds)->UU d binds m x=m x
 | [],_,_=>rfl
 |(n,v)::r,m,h=>by
  unfold UU;rw[uM λw e=>h w (Oe _ e)]
  split
  .rfl
  .have:x≠n:=by rintro rfl;exact h v OF
   simp[this]
theorem uN :∀{P:List Str}{vs:List eF}{i:Nat}{m:Str->Option eF},P.Nodup->P[i]?=some x->vs[i]?=some v->d x=some .local ->
  UT d (P.zip vs) m x=some v
 | [],_,_,_,_,h,_,_=>by simp at h
 |_::_,[],_,_,_,_,h,_=>by simp at h
 |p::P,w::vs,0,m,nd,h1,h2,hk=>by
  simp at h1 h2;subst h1;subst h2;show UT d ((p,w)::P.zip vs) m p=_;unfold UT;rw[uL λv e=>(O0.mp nd).1 (Pc e).1,if_pos hk];simp
 |p::P,w::vs,i+1,m,nd,h1,h2,hk=>by
  show UT d ((p,w)::P.zip vs) m x=_;unfold UT;exact uN (i:=i) (O0.mp nd).2 (by simpa using h1) (by simpa using h2) hk
theorem uO :∀{P:List Str}{vs:List eF}{i:Nat}{m:Str->Option eF},P.Nodup->P[i]?=some x->vs[i]?=some v->d x≠some .local ->
  UU d (P.zip vs) m x=some v
 | [],_,_,_,_,h,_,_=>by simp at h
 |_::_,[],_,_,_,_,h,_=>by simp at h
 |p::P,w::vs,0,m,nd,h1,h2,hk=>by
  simp at h1 h2;subst h1;subst h2;show UU d ((p,w)::P.zip vs) m p=_;unfold UU;rw[uM λv e=>(O0.mp nd).1 (Pc e).1,if_neg hk];simp
 |p::P,w::vs,i+1,m,nd,h1,h2,hk=>by
  show UU d ((p,w)::P.zip vs) m x=_;unfold UU;exact uO (i:=i) (O0.mp nd).2 (by simpa using h1) (by simpa using h2) hk
noncomputable def start(N:List Str)(vs:List V):St:=vs.map some++Nb (N.length-vs.length) none
noncomputable def vJ(CX:wX)(P:I0)(w:Ni)(K:bN)(mg:Str->Option eF)(base:Heap)(N:List Str)(d:Str)(scope:OI)(f:Addr)(l:eF)(A:Nq)(outer:List Env)(s:fy)(H:Hp)(E:XK):Cx where
 prog:=P
 w:=w
 K:=K
 mg:=mg
 base:=base
 A:=A.deeper (Nj d scope s.heap.objs.size f l)
 N:=N
 s₀:=s
 H₀:=H
 env:=Nj d scope s.heap.objs.size f l
 outer:=outer
 stack:=Nj d scope s.heap.objs.size f l::outer
 ex:=[]
 calm:=true
 fn:=λ_=>true
 pn:=[]
 xe:=λe m=>Na (Nf P w) (A.deeper (Nj d scope s.heap.objs.size f l)) (leaving (Nj d scope s.heap.objs.size f l) e) (λ_ g=>CX outer H s E e g) (λo g=>CX outer H s E o g) m
theorem xw {d:OI}(h:d.names.lookup x=some .cell):∃c,(UE n d.names []).lookup x=some c:=by
 have q:=QY d.names n [] (.inl h);exact Option.isSome_iff_exists.mp q
theorem uP {K:bN}(S:aZ N ps scope)(hd:A.handled=none)(e0:yS P w K mg base A outer s H)(hl:vs.length=ps.length)(r:Vals vs us)(x:InCallC s s.heap.objs.size (UT (Nj d scope s.heap.objs.size f C).kindOf (ps.zip us) λ_=>none) (UE (s.heap.objs.size+1) scope.names []) (UU (Nj d scope s.heap.objs.size f C).kindOf (ps.zip us) λ_=>none) D):
  Inv (vJ CX P w K mg base N d scope f C A outer s H E) [] (start N vs) H D:=by
 have L:ps.length<=N.length:=by have:=congrArg QL S.pre;rw[L1]at this;omega
 have(B,O,rfl,I):=x.done;have l:∀b:Addr,b∉(vJ CX P w K mg base N d scope f C A outer s H E).ex:=λb z=>absurd (show b∈([]:List Addr)from z) (by simp)
 refine#[#[e0.mod,S.kind,rfl,rfl,i5 _,λy z c B g=>?_,λy hy=>?_,λy c _ h=>?_,λ_=>hd,Nq.frames_deeper e0.frames,.inr #[rfl,rfl],λb z=>absurd z (l b),e0.bs,e0.bsz,λb _ _=>l b,λb z=>absurd z (l b),e0.qB,e0.frf],
  rfl,e0.bare,Un.kept I,#[_,x.toInCall.ns,λi y v B g Q=>?_],λy c h=>#[_,x.cell y c h],e0.hok.fresh (i5 _),λy c h=>?_,λp o=>absurd (show p∈([]:List (Addr×Obj))from o) (by simp),e0.hok.kept I,?_]
 .exact name_of_addr x.apart (OH B) (OH g)
 .have hy:scope.names.lookup y=some .cell\/scope.names.lookup y=some .free:=hy;rcases hy with hy|hy
  .exact xw hy
  .exact absurd rfl (S.nofree _ (OH hy))
 .exact Ol (x.above y c (OH h))
 .have t:i<vs.length:=by
   unfold start at g
   by_cases t:i<vs.length
   .exact t
   .rw[NN (by simpa using t)]at g;rw[PY]at g
    split at g<;>cases g
  have M:vs[i]?=some v:=by
   unfold start at g;rw[NY (by simpa using t),EF]at g
   cases e:vs[i]? with
   |none=>rw[e]at g;cases g
   |some a=>rw[e]at g;cases g;rfl
  have(u,G,J):=r.get M
  have o:ps[i]?=some y:=by
   rw[<-S.pre,List.getElem?_take_of_lt ()];exact B
  have m:ps.Nodup:=by rw[<-S.pre];exact S.nd.sublist (Qh _ _)
  refine#[u,J,?_];rcases S.par y (M9 o)with k|k
  .exact .inl #[k,uN m o G k]
  .have(c,e):=xw (n:=s.heap.objs.size+1) k;refine .inr #[.inl k,c,e,?_];have q:=x.cell y c e;rw[uO m o G (by show scope.names.lookup y≠_;rw[k];decide)]at q;exact q
 .exact e0.hok.fresh (Ol (x.above y c (OH h)))
 .unfold start;show _=N.length;rw[i4,bM,OM];omega
theorem GD {K:bN}{kV T:eF}{sp:Sp}(lk:K.lookup f=some #[oc,od,.func (QZ name d g l scope U kV G T Z cdv ct),osl])(hcd:Sv K cdv d=true)(S:aZ N ps scope)(len:∀vs H Q E,sp vs H Q E->vs.length=ps.length)(hbody:∀(A:Nq) (outer:List Env) (s:fy) (H:Hp) (vs:List V) (Q:VK) (E:XK),dj k (A.deeper (Nj d scope s.heap.objs.size f cdv))->sp vs H Q E ->
   ∃t,qT (vJ CX P w K mg base N d scope f cdv A outer s H E) l t/\t {nx:=λ_ p=>Q .eN p,rt:=Q} (start N vs) H):
  cA P w K mg base CX (k+1) f (QZ name d g l scope U kV G T Z cdv ct) ps sp:=by
 refine#[len,λA outer s H Y us vs Q E hr D hb r C=>?_];have hl:=len _ _ _ _ C;have KX:K.In s.heap:=D.mod.kin.keeps λb o e=>(D.bs b o e).1;have O:s.heap.NoLimit:=D.mod.nolimit.keeps λb o e=>(D.bs b o e).1
 have z:∀y∈ps.zip us,scope.names.lookup y.1=some .local\/(scope.names.lookup y.1=some .cell/\((UE (s.heap.objs.size+1) scope.names []).lookup y.1).isSome=true):=λ⟨n,v⟩ hy=>by
  rcases S.par n (Pc hy).1 with q|q
  .exact .inl q
  .exact .inr #[q,QY _ _ _ (.inl q)]
 refine Th hr.depth (KX _ _ lk) rfl S.co S.gen rfl (Ue KX hcd) (hb _ _ _ _ ?_);refine R1 S.kind z λaa he R x=>?_;subst he;refine#[O.keeps x.toInCall.keep,codeAny_func ?_];have(t,ht,hq):=hbody A outer s H vs Q E (hr.deeper _) C;have I:Inv (vJ CX P w K mg base N d scope f cdv A outer s H E) [] (start N vs) H R:=uP S hr.hd D hl r x;refine Nz (ht [] R (start N vs) H _ I hq) (λfl L B=>?_) λe L B=>B
 have fin:∀{m:St}{p:Hp}{v:V}{u:eF},Inv (vJ CX P w K mg base N d scope f cdv A outer s H E) [] m p L->RelV v u->Q v p->CE outer P w H s Q u L :=
  λ{m p v u} J M q=>#[v,p,J.os,J.bare,J.base,J.hok,M,q]
 cases fl with
 |ret u =>
  have(v,m,p,J,M,q):=B;exact fin J M q
 |next =>
  have(m,p,J,q):=B;exact fin (v:=V.eN) (u:=Value.none) J rfl q
 |brk =>
  have(_,_,_,q):=B;exact OA q
 |cont =>
  have(_,_,_,q):=B;exact OA q
abbrev MA(r:List V->Hp->VK->Prop)(Q:VK):List V->Hp->Prop:=λd g=>r d g Q
abbrev Lh(r:List V->Hp->VK->Prop)(t:TA):TE:=λd H Q=>t d H (MA r Q)
theorem pN {x:Str}{p pos:Pos}{e:Expr}{es:List Expr}{t:TA}{id:String}{r:List V->Hp->VK->Prop}(B:iQ X (.builtin id) r)(z:Gl X x)(y:X.mg x=none)(v:QT x=some (.builtin id))(C:PA X (e::es) t)(hn:x≠"__name__":=by decide)(g:(x == ("__debug__":Str))=false:=by decide)(he:N8 (e::es) X.env=(false,eval e X.env)::N8 es X.env:=by rfl)(hpl:(RT pos (N8 es X.env)).any (·.1)=false:=by rfl):PE X (.Call (.Name x p) (e::es) [] pos) (Lh r t):=by
 intro d s l H Q I h;refine O2 (qD I z y v ?_ hn g);exact PyProof.Rows.callWith_builtin1 (cR (C pos d s l H _ I h) λo q ⟨m,G,D,u,q1⟩=>B d q l G m o Q D u q1) he hpl
theorem AX {x:Str}{p pos:Pos}{e:Expr}{es:List Expr}{t:TA}{T:String}{r:List V->Hp->VK->Prop}(B:iQ X (.type T) r)(z:Gl X x)(y:X.mg x=none)(v:QT x=some (.type T))(C:PA X (e::es) t)(hn:x≠"__name__":=by decide)(g:(x == ("__debug__":Str))=false:=by decide)(he:N8 (e::es) X.env=(false,eval e X.env)::N8 es X.env:=by rfl)(hpl:(RT pos (N8 es X.env)).any (·.1)=false:=by rfl):PE X (.Call (.Name x p) (e::es) [] pos) (Lh r t):=by
 intro d s l H Q I h;refine O2 (qD I z y v ?_ hn g);exact Ph (cR (C pos d s l H _ I h) λo q ⟨m,G,D,u,q1⟩=>B d q l G m o Q D u q1) he hpl
end L2
namespace HT
open PySem PyProof.Rows
section
open PySem.SeqAt
open PySem.AutoSeq1 (wpAny_loadPart')
open PySem.MeetsSeq PySem.MeetsSeq2 PySem.MeetsSeq3
end
theorem Ep (ht:US s.heap t vs.toArray)(G:US s.heap b d.toArray)(z:vs≠[])(h1:d=[]->Q (.ref t) s)(h2:d≠[]->Q (.ref s.heap.objs.size) {s with heap:=s.heap.push {cls:=.type "tuple",data:=.seq (vs++d).toArray}})(hsz:vs.length+d.length<=mH):Na (Nf prog w) A (PN .Add (.ref t) (.ref b)) Q E s:=by
 have((cls,C,data,v),r,B,n,hd):=id ht;have((D,p,u,l),g,o,y,m):=id G;simp only at B hd o m;subst B hd o m;have e:vs.toArray++d.toArray=(vs++d).toArray:=by simp
 by_cases q:d=[]
 .exact Us #[_,r,rfl] #[_,g,rfl] SI T6 Q0 QM (QA _ _)
   (tuple_addW1 t b vs.toArray d.toArray n y C p v l (by simpa using z) (by simp[q])) #[r,g,h1 q]
 .refine Us #[_,r,rfl] #[_,g,rfl] SI T6 Q0 QM (QA _ _)
   (tuple_addW2 t b vs.toArray d.toArray n y C p v l (by simpa using z) (by simpa using q) (by rw[M6,M6];exact hsz)) #[r,g,?_]
  rw[e];exact h2 q
noncomputable def ir(n d:Nat):Option Int->Nat
 |none=>d
 |some v=>if v<0 then(v+(n:Int)).toNat else min v.toNat n
theorem sH (n d:Nat):ir n d none=d:=rfl
theorem kg (n d k:Nat):ir n d (some (k:Int))=min k n:=by
 show(if(k:Int)<0 then((k:Int)+(n:Int)).toNat else min (k:Int).toNat n)=min k n;rw[if_neg (),OL]
theorem HL (n d:Nat)(hd:d<=n)(o:Option Int):ir n d o<=n:=by
 cases o with
 |none=>exact hd
 |some v =>
  show(if v<0 then(v+(n:Int)).toNat else min v.toNat n)<=n
  by_cases e:v<0
  .rw[if_pos e];omega
  .rw[if_neg e];exact Nat.min_le_right _ _
theorem zN (v:Int)(n d:Nat):(if v<0 then max (v+(n:Int)) 0 else min v (n:Int))=((ir n d (some v):Nat):Int):=by
 show(if v<0 then max (v+(n:Int)) 0 else min v (n:Int))=(((if v<0 then(v+(n:Int)).toNat else min v.toNat n):Nat):Int)
 by_cases e:v<0
 .simp only[if_pos e];omega
 .simp only[if_neg e];omega
theorem yT (d hi:Option Int)(n:Nat):Qu d hi 1 (n:Int)=(((ir n 0 d:Nat):Int),((ir n n hi:Nat):Int)):=by
 have e:¬((1:Int)<0):=()
 unfold Qu;simp only[e,if_false];refine Prod.ext ?_ ?_
 .cases d with
  |none=>rfl
  |some v=>exact zN v n 0
 .cases hi with
  |none=>rfl
  |some v=>exact zN v n n
theorem yU (i j:Nat):Ou (i:Int) (j:Int) 1=j-i:=by
 unfold Ou;have d:(1:Int)>0:=()
 simp only[d,if_true,Ut]
 split<;>omega
theorem jW (p:Sw v o)(h:Q o s):Na (Nf prog w) A (QW.Slice.slicePartIndex v) Q E s:=by
 cases p with
 |none=>exact slicePart_none h
 |int i t=>exact slicePart_int h
theorem kR {d hi:Option Int}{n:Nat}{Q:Int×Int×Nat->fy->Prop}(hs:s.heap.IsSliceOf o m l .none)(pl:Sw m d)(p:Sw l hi)(h:Q (((ir n 0 d:Nat):Int),1,ir n n hi-ir n 0 d) s):Na (Nf prog w) A (Pw (.ref o) (pure (n:Int))) Q E s:=by
 have(r,e,q,g):=id hs;unfold Pw Se;refine cB (cB (NU e g (x:=m) rfl (cB (NU e g (x:=l) rfl (cB (NU e g (x:=.none) rfl (vv ?_)))))));refine cB (slicePart_none ?_);show Na _ _ (if((1:Int) == 0)=true then _ else _) _ _ s;rw[if_neg (by decide)];refine cB (jW pl (cB (jW p (cB (vv ?_)))));show Na _ _ (match Qu d hi 1 (n:Int)with|(d,hi)=>pure (d,(1:Int),Ou d hi 1)) _ _ s
 rw[yT d hi n];show Na _ _ (pure (((ir n 0 d:Nat):Int),(1:Int),Ou ((ir n 0 d:Nat):Int) ((ir n n hi:Nat):Int) 1)) _ _ s;rw[yU];exact vv h
theorem Cc (xs:Array eF)(i k:Nat):((Pa k).filterMap λ(m:Nat)=>xs[((i:Int)+(m:Int)*1).toNat]?).toArray=((xs.toList.drop i).take k).toArray:=by
 have e:(λ(m:Nat)=>xs[((i:Int)+(m:Int)*1).toNat]?)=λm=>xs[i+m]?:=by
  funext m
  have:((i:Int)+(m:Int)*1).toNat=i+m:=()
  rw[this]
 rw[e];have:=pick_run xs i k;rw[Ug]at this;have d:((λx=>xs[x]?) ∘ λx=>i+x)=λm=>xs[i+m]?:=rfl;rw[d]at this;rw[this]
theorem pQ (ht:US s.heap t items)(hs:s.heap.IsSliceOf g v u .none)(pl:Sw v e)(y:Sw u hi)(hw:¬(ir items.size 0 e=0/\ir items.size items.size hi=items.size))(h:Q (.ref s.heap.objs.size) {s with heap:=s.heap.push {cls:=.type "tuple",data:=.seq ((items.toList.drop (ir items.size 0 e)).take (ir items.size items.size hi-ir items.size 0 e)).toArray}})(hsz:items.size<=mH):Na (Nf prog w) A (Q2 (.ref t) (.ref g)) Q E s:=by
 have d:sizeOk (.seq ((items.toList.drop (ir items.size 0 e)).take (ir items.size items.size hi-ir items.size 0 e)).toArray):=by
  show((items.toList.drop (ir items.size 0 e)).take (ir items.size items.size hi-ir items.size 0 e)).toArray.size<=mH;rw[M6,L1,NW,OY];omega
 have D:ir items.size items.size hi<=items.size:=HL _ _ (i5 _) hi;have(z,l,p,B):=id hs;have r:s.TypeIs (.ref g) "slice":=#[z,l,p];unfold Q2
 try with_reducible refine Oo ?_
 first|refine cB (vv ?_)|skip
 refine cB (Si ht.typeIs (by decide) ?_)
 refine cB (OD (name:=Of "__getitem__") ht.typeIs NI
  (O3 NI ht.typeIs RM ?_ (R3 _ _)))
 show Na _ _ (Qm (.ref t)>>=_) _ _ s;refine cB (T7 ht ?_);refine cB (RQ r ?_);rw[if_pos (by decide)];refine cB (kR hs pl y ?_)
 have o:¬((((ir items.size 0 e:Nat):Int) == 0&&(1:Int) == 1&&(ir items.size items.size hi-ir items.size 0 e) == items.size)=true):=by
  intro q;rw[NJ,NJ]at q;have q1:((ir items.size 0 e:Nat):Int)=0:=Pn q.1.1;have C:ir items.size items.size hi-ir items.size 0 e=items.size:=Pn q.2;exact hw #[(),()]
 show Na _ _ (if(((ir items.size 0 e:Nat):Int) == 0&&(1:Int) == 1&&(ir items.size items.size hi-ir items.size 0 e) == items.size)=true then _ else _) _ _ s;rw[if_neg o,Cc]
 first
  |exact cB (m:=Oi _) (NL (vv #[_,rfl,vv h]) d)
  |exact cB (m:=Oi _) (NL (cB (vv (vv #[_,rfl,vv h]))) d)
  |exact cB (cB (m:=Oi _) (NL (vv (vv #[_,rfl,vv h])) d))
  |exact cB (cB (m:=Oi _) (NL (vv #[_,rfl,vv h]) d))
end HT
namespace L2
open PySem PySem.Spec PyProof.Rows
abbrev TO:=St->Hp->(Option Int->Hp->Prop)->Prop
def PO(X:Cx)(e:Option Expr)(t:TO):Prop :=
 ∀(d:List (Addr×Obj)) (s:fy) (g:St) (H:Hp) (Q:Option Int->Hp->Prop),Inv X d g H s->t g H Q ->
  Na (Nf X.prog X.w) X.A (evalPart e X.env) (λu m=>∃o l,Inv X d g l m/\Sw u o/\Q o l) X.xe s
abbrev Es:TO:=λ_ H Q=>Q none H
def MB(Q:Option Int->Hp->Prop):VK:=λx d=>∃i,x=.int i/\Q (some i) d
abbrev JJ(t:TE):TO:=λd H Q=>t d H (MB Q)
theorem eZ :PO X none Es:=by
 intro d s g H Q I h;rw[evalPart_none];exact vv #[none,H,I,.none,h]
theorem dm {e:Expr}{te:TE}(h:PE X e te):PO X (some e) (JJ te):=by
 intro d s g H Q I m;rw[evalPart_some];refine cR (h d s g H _ I m) λu r ⟨x,p,o,l,q1⟩=>?_;have(i,rfl,q):=q1;have(t,rfl):=l;exact#[some i,p,o,.int i t,q]
def BW(X:Cx)(r:V->Option Int->Option Int->Hp->VK->Prop):Prop :=
 ∀(d:List (Addr×Obj)) (s:fy) (g:St) (H:Hp) (x:V) (v m l:eF) (lo hi:Option Int) (o:Addr) (Q:VK),Inv X d g H s->RelV x v->s.heap.IsSliceOf o m l .none->Sw m lo->Sw l hi->r x lo hi H Q ->
  ∃T id,typeLookup (.type T) "__getitem__"=pure (some (.builtin id))/\s.TypeIs v T/\Na (Nf X.prog X.w) X.A (Q2 v (.ref o)) (EP X d g Q) X.xe s
theorem BW.or (h:BW X r)(h':BW X t):BW X (λx lo hi H Q=>r x lo hi H Q\/t x lo hi H Q):=by
 intro d s g H x v m l lo hi o Q I p z y u q;rcases q with q|q
 .exact h d s g H x v m l lo hi o Q I p z y u q
 .exact h' d s g H x v m l lo hi o Q I p z y u q
abbrev MC(r:V->Option Int->Option Int->Hp->VK->Prop)(x:V)(l:Option Int)(Q:VK):Option Int->Hp->Prop:=λu d=>r x l u d Q
abbrev MD(r:V->Option Int->Option Int->Hp->VK->Prop)(th:TO)(d:St)(x:V)(Q:VK):Option Int->Hp->Prop:=λl g=>th d g (MC r x l Q)
abbrev ME(r:V->Option Int->Option Int->Hp->VK->Prop)(tl th:TO)(d:St)(Q:VK):VK:=λx g=>tl d g (MD r th d x Q)
abbrev MF(r:V->Option Int->Option Int->Hp->VK->Prop)(te:TE)(tl th:TO):TE:=λd H Q=>te d H (ME r tl th d Q)
theorem dY {e:Expr}{te:TE}{lo hi:Option Expr}{tl th:TO}{pos p2:Pos}{r:V->Option Int->Option Int->Hp->VK->Prop}(hr:BW X r)(S:PE X e te)(O:PO X lo tl)(L:PO X hi th):PE X (.Subscript e (.Slice lo hi none p2) pos) (MF r te tl th):=by
 intro d s m H Q I h;refine SX (cR (S d s m H _ I h) λv z ⟨x,H1,I1,B,q1⟩=>?_);refine wpAny_Slice (cR (O d z m H1 _ I1 q1) λp y ⟨l,H2,Z,J,D⟩=>cR (L d y m H2 _ Z D) λo g ⟨u,t,Y,G,C⟩=>?_);rw[evalPart_none];refine vv ?_;have W:Inv X d m t {g with heap:=g.heap.push {cls:=.type "slice",data:=.fields #[p,o,.none,]}}:=Y.kept (t':=g.toks) λb ob q=>tF _ q;have(T,id,U,M,R):=hr d {g with heap:=g.heap.push {cls:=.type "slice",data:=.fields #[p,o,.none,]}} m t x v p o l u g.heap.objs.size Q W B (R4 ..) J G C;show Na (Nf X.prog X.w) X.A (T8 e (.Slice lo hi none p2) v (.ref g.heap.objs.size)) (EP X d m Q) X.xe {g with heap:=g.heap.push {cls:=.type "slice",data:=.fields #[p,o,.none,]}};exact tail_any (ops:=[.ref g.heap.objs.size,v]) M U R (by with_unfolding_all rfl)
noncomputable def jv(xs:List V)(lo hi:Option Int):List V:=(xs.drop (HT.ir xs.length 0 lo)).take (HT.ir xs.length xs.length hi-HT.ir xs.length 0 lo)
theorem qW (xs:List V)(lo hi:Option Int):(jv xs lo hi).length<=xs.length:=by
 unfold jv;rw[L1,NW];omega
def JK(K:bN):V->Option Int->Option Int->Hp->VK->Prop:=λx lo hi H Q=>∃a d,x=.ref a/\cH K H a d /\
 ¬(HT.ir d.length 0 lo=0/\HT.ir d.length d.length hi=d.length)/\∀p,H p=none->Q (.ref p) (upd H p (.tup (jv d lo hi)))
theorem vK :BW X (JK X.K):=by
 intro m s G H x v L J lo hi M Q I u D z y h;have(a,g,rfl,B,C,q):=h
 cases u
 have(l,r,t,p):=I.tuple B;have d:l.toArray.size=g.length:=by rw[M6];exact r.length.symm
 refine#["tuple",_,NI.lookup,t.typeIs,?_];refine HT.pQ t D z y (by rw[d];exact C) ?_ (by rw[d];exact p);rw[d];refine#[.ref s.heap.objs.size,_,I.laid (t':=s.toks) (o:=.tup (jv g lo hi)) (λb O q=>tF _ q) (i5 _) ?_,rfl,q _ (I.hok.fresh (i5 _))];exact#[Nu (qW g lo hi) p,_,(r.drop (HT.ir g.length 0 lo)).take (HT.ir g.length g.length hi-HT.ir g.length 0 lo),TQ _ _,_,Nc _ rfl,rfl]
def JL(K:bN):R2:=λx y H Q=>∃a b g d,x=.ref a/\y=.ref b/\cH K H a g/\cH K H b d/\g≠[]/\g.length+d.length<=mH /\
 (d=[]->Q (.ref a) H)/\(d≠[]->∀p,H p=none->Q (.ref p) (upd H p (.tup (g++d))))
theorem Vals.vL (r:Vals xs us):us=[]↔xs=[]:=by
 cases r with
 |nil=>simp
 |cons _ _=>simp
theorem Et :mK X (PN .Add) (JL X.K):=by
 intro g s O H x y v u Q I B t h;have(a,b,r,p,rfl,rfl,M,L,J,m,q1,C):=h
 cases B
 cases t
 have(G,d,D,_):=I.tuple M;have(l,r2,p2,_):=I.tuple L;refine HT.Ep D p2 (λz=>J (d.vL.mp z)) (λz=>#[.ref a,H,I,rfl,q1 (r2.vL.mp z)]) (λz=>?_) (by rw[<-d.length,<-r2.length];exact m);refine#[.ref s.heap.objs.size,_,I.laid (t':=s.toks) (o:=.tup (r++p)) (λb R q=>tF _ q) (i5 _) ?_,rfl,C (λw=>z (r2.vL.mpr w)) _ (I.hok.fresh (i5 _))];exact#[by rw[i4];exact m,_,d.append r2,TQ _ _,_,Nc _ rfl,rfl]
noncomputable def vM(n:Nat)(i:Int):Option Nat:=if 0<=i then(if i<n then some i.toNat else none)else if -(n:Int)<=i then some (i+n).toNat else none
noncomputable def eK{d:Type}(xs:List d)(i:Int):Option d:=(vM xs.length i).bind λj=>xs[j]?
theorem zO (h:vM n i=some j):seqIndex? i n=some j/\j<n/\-(n:Int)<=i/\i<n:=by
 unfold vM at h
 by_cases g:0<=i
 .rw[if_pos g]at h
  by_cases d:i<n
  .rw[if_pos d]at h;have e:i.toNat=j:=Ng h;exact#[by rw[seqIndex_of g d,e],(),(),d]
  .rw[if_neg d]at h;cases h
 .rw[if_neg g]at h
  by_cases d:-(n:Int)<=i
  .rw[if_pos d]at h;have e:(i+n).toNat=j:=Ng h;exact#[by rw[seqIndex_neg () d,e],(),d,()]
  .rw[if_neg d]at h;cases h
theorem vN {xs:List d}{v:d}(h:eK xs i=some v):∃j,seqIndex? i xs.length=some j/\xs[j]?=some v/\j<xs.length/\-(xs.length:Int)<=i/\i<xs.length:=by
 unfold eK at h
 cases e:vM xs.length i with
 |none=>rw[e]at h;cases h
 |some j =>
  rw[e]at h;have(o,m,l,g):=zO e;exact#[j,o,h,m,l,g]
theorem aG {xs:List d}{j:Nat}{v:d}(h:xs[j]?=some v):eK xs (j:Int)=some v:=by
 have g:j<xs.length:=(bH.mp h).1
 have e:vM xs.length (j:Int)=some j:=by
  unfold vM;rw[if_pos (),if_pos ()];simp
 unfold eK;rw[e];exact h
theorem sI (xs:List d)(v:d):eK (xs++[v]) (-1)=some v:=by
 have g:(xs++[v]).length=xs.length+1:=by simp
 have e:vM (xs++[v]).length (-1)=some xs.length:=by
  unfold vM;rw[g,if_neg (by decide),if_pos ()]
  congr 1
  omega
 unfold eK;rw[e];show(xs++[v])[xs.length]?=some v;simp
def Eu(b:Expr):Prop:=∀o i,Tq b false o i=operate [o,i] (Q2 o i)
def Cd(X:Cx)(r:R2):Prop :=
 ∀(e slice:Expr) (d:List (Addr×Obj)) (s:fy) (g:St) (H:Hp) (x y:V) (v u:eF) (Q:VK),Inv X d g H s->RelV x v->RelV y u->r x y H Q ->
  Tq slice false v u=operate [v,u] (Q2 v u)->Na (Nf X.prog X.w) X.A (T8 e slice v u) (EP X d g Q) X.xe s
def KI(X:Cx)(id:String)(r:V->List V->Hp->VK->Prop):Prop :=
 ∀(d:List (Addr×Obj)) (s:fy) (e:St) (H:Hp) (x:V) (g:List V) (v:eF) (l:List eF) (Q:VK),Inv X d e H s->RelV x v->Vals g l->r x g H Q ->
  Na (Nf X.prog X.w) X.A (call (.builtin id) (v::l)) (EP X d e Q) X.xe s
theorem Cd.or (h:Cd X r)(h':Cd X o):Cd X (λx y H Q=>r x y H Q\/o x y H Q):=by
 intro d slice e s g H x y v u Q I m l q p;rcases q with q|q
 .exact h d slice e s g H x y v u Q I m l q p
 .exact h' d slice e s g H x y v u Q I m l q p
theorem iI {a b:Expr}{ta tb:TE}{pos:Pos}{r:R2}(hr:Cd X r)(p:PE X a ta)(o:PE X b tb)(hs:Eu b):PE X (.Subscript a b pos) (GB r ta tb):=by
 intro d s e H Q I h;exact SX (Hz p o I h λv u g x y z t m l q=>hr a b d g e z x y v u Q t m l q (hs _ _))
def HM(K:bN):R2:=λx y H Q=>∃p d i v,x=.ref p/\y=.int i/\bQ K H p d/\eK d i=some v/\Q v H
def Ew(K:bN):R2:=λx y H Q=>∃p d i v,x=.ref p/\y=.int i/\cH K H p d/\eK d i=some v/\Q v H
def JM:R2:=λx y H Q=>∃z i c,x=.str z/\y=.int i/\z.length<=mH/\eK z.cps.toList i=some c/\Q (.str ⟨#[c]⟩) H
theorem br :Cd X (HM X.K):=by
 intro g slice d s C H x y v u Q I O M h D;have(p,Y,i,z,rfl,rfl,R,T,q):=h
 cases O
 have(t,rfl):=M;have(o,r,m,Z):=I.list R;have(j,e,W,h3,V,U):=vN T;have(w,J,l):=r.get W;have S:=r.length;have hn:=oR;have fin:EP X d C Q w s:=#[z,H,I,l,q]
 by_cases G:0<=i
 .have B:i.toNat=j:=by
   rw[seqIndex_of G U]at e;exact Ng e
  exact item_listR m.isList G () (by rw[B];simpa using J) fin D
 .have B:(i+(o.toArray.size:Int)).toNat=j:=by
   rw[seqIndex_neg () V]at e;rw[M6,<-S];exact Ng e
  exact SY (x:=w) m.isList.typeIs Sj.lookup
   (wpAny_getItem_list_neg (Q:=λr L=>r=w/\EP X d C Q r L) m.isList () (by rw[M6]<;>omega) () (by rw[B];simpa using J) #[rfl,fin]) D
theorem aP :Cd X (Ew X.K):=by
 intro e slice d s l H x y v u Q I C B h G;have(p,T,i,z,rfl,rfl,J,M,q):=h
 cases C
 have(t,rfl):=B;have(D,r,m,U):=I.tuple J;have(j,R,O,Z,Y,W):=vN M;have(w,S,g):=r.get O;have L:=r.length;have V:=oR;have fin:EP X d l Q w s:=#[z,H,I,g,q]
 exact SY (x:=w) m.typeIs slot_tuple_getitem.lookup
  (getItem_tuple (j:=j) (Q:=λr o=>r=w/\EP X d l Q r o) m () () (by rw[M6,<-L];exact R) (by simpa using S) #[rfl,fin]) G
theorem vO :Cd X JM:=by
 intro d slice e s L H x y v u Q I m l h o;have(z,i,c,rfl,rfl,O,r,q):=h;have(t,rfl):=m;have(M,rfl):=l;have(j,g,D,S,C,B):=vN r;have p:z.cps.toList.length=z.length:=by simp[S1]
 rw[p]at g C B;have R:=oR
 exact tail_any (typeIs_str s z t) slot_str_getitem.lookup (getItem_str (c:=c) (by
  have J:decide (i < -(2 ^ 63:Int))=false:=decide_eq_false ();have G:decide (i ≥ 2 ^ 63)=false:=decide_eq_false ();rw[J,G,Bool.or_false]) (by rw[g];simpa using D) #[.str ⟨#[c]⟩,H,I.tok _,#[_,rfl],q]) o
def GF(K:bN):R2:=λx y H Q=>HM K x y H Q\/Ew K x y H Q\/JM x y H Q
theorem mV :Cd X (GF X.K):=br.or (aP.or vO)
theorem yV (d:List eF)(n j:Nat)(u:eF):S2 (·.setIfInBounds j u) {cls:=.type "list",data:=.seq d.toArray n}={cls:=.type "list",data:=.seq (d.set j u).toArray n}:=by
 simp[S2]
theorem Inv.lst (I:Inv X g l H s)(h:H p=some (.lst xs)):
  ∃(d:List eF) (n:Nat),Vals xs d/\s.heap.get? p=some {cls:=.type "list",data:=.seq d.toArray n}/\xs.length<=mH:=by
 have(z,d,n,r,e):=I.hok p _ h;exact#[d,n,r,e,z]
theorem Inv.HN {g:List eF}(I:Inv X d m H s)(h:H p=some (.lst xs))(ho:s.heap.get? p=some {cls:=.type "list",data:=.seq g.toArray n})(hf:f {cls:=.type "list",data:=.seq g.toArray n}={cls:=.type "list",data:=.seq its'.toArray l})(r:Vals ys its')(hz:ys.length<=mH)(t:Nat):
  Inv X d m (upd H p (.lst ys)) {s with heap:=s.heap.update p f,toks:=t}:=by
 have e:(s.heap.update p f).get? p=some {cls:=.type "list",data:=.seq its'.toArray l}:=by
  rw[ON f ho (by rw[hf]<;>rfl),hf]
 refine I.write (x:=p) (e:=p) (by rw[h];trivial) (.inl rfl) (λb u o q=>(Ov _ _ (PK o)).trans q) #[_,e] ?_;exact#[hz,its',l,r,e]
def JN:V->V->V->Hp->(Hp->Prop)->Prop:=λo i v H Q=>∃p d k j,o=.ref p/\i=.int k/\H p=some (.lst d)/\vM d.length k=some j/\Q (upd H p (.lst (d.set j v)))
theorem set_list :Jy X JN:=by
 intro d s J H o i v U V u Q I O R M h;have(p,L,k,j,rfl,rfl,z,T,q):=h
 cases O
 have(t,rfl):=R;have(e,n,r,l,S):=I.lst z;have(g,Z,C,B):=zO T;have m:=r.length;have Y:=oR
 have G:Inv X d J (upd H p (.lst (L.set j v))) {s with heap:=s.heap.update p (S2 (·.setIfInBounds j u))} :=
  I.HN z l (yV e n j u) (r.set M j) (by rw[RE];exact S) s.toks
 by_cases D:0<=k
 .have y:k.toNat=j:=by
   rw[seqIndex_of D B]at g;exact Ng g
  exact PySem.W.ki_setAt l D () (by rw[M6,<-m];exact B) (by rw[y];exact#[_,G,q])
 .have y:(k+(e.toArray.size:Int)).toNat=j:=by
   rw[seqIndex_neg () C]at g;rw[M6,<-m];exact Ng g
  exact PySem.W.ki_setBack l () (by rw[M6,<-m];exact C) () (by rw[y];exact#[_,G,q])
theorem vP (d hi:Option Int)(n:Nat):(Oj d hi none n).1=((HT.ir n 0 d:Nat):Int)/\(Oj d hi none n).2.1=((HT.ir n n hi:Nat):Int)/\(Oj d hi none n).2.2=1:=by
 refine#[?_,?_,rfl]
 .cases d with
  |none=>simp[Oj,HT.ir]
  |some i =>
   simp only[Oj,HT.ir,UG,show(1:Int)>0 by decide,if_true]
   by_cases h:i<0
   .simp only[h,if_true]<;>omega
   .simp only[h,if_false]<;>omega
 .cases hi with
  |none=>simp[Oj,HT.ir]
  |some i =>
   simp only[Oj,HT.ir,UG,show(1:Int)>0 by decide,if_true]
   by_cases h:i<0
   .simp only[h,if_true]<;>omega
   .simp only[h,if_false]<;>omega
theorem uw (d:List eF)(e hi:Option Int):UH d.toArray e hi none=((d.drop (HT.ir d.length 0 e)).take (HT.ir d.length d.length hi-HT.ir d.length 0 e)).toArray:=by
 have(m,l,g):=vP e hi d.toArray.size;unfold UH;rw[m,l,g];simp only[sliceRange_one,pick_run,M6]<;>rfl
def JO(K:bN):V->Option Int->Option Int->Hp->VK->Prop:=λx e g H Q=>∃a d,x=.ref a/\bQ K H a d/\∀p,H p=none->Q (.ref p) (upd H p (.lst (jv d e g)))
theorem rR :BW X (JO X.K):=by
 intro m s G H x v L J g l M Q I t D y u h;have(a,d,rfl,C,q):=h
 cases t
 have(z,r,p,B):=I.list C;have e:=r.length;refine#["list",_,Sj.lookup,p.isList.typeIs,?_];refine Sx p.isList D y u .none (by simp) ?_ (by rw[M6]<;>omega)
 rw[uw,<-e];refine#[.ref s.heap.objs.size,_,I.laid (t':=s.toks) (o:=.lst (jv d g l)) (λb O q=>tF _ q) (i5 _) ?_,rfl,q _ (I.hok.fresh (i5 _))];exact#[Nu (qW d g l) B,_,0,(r.drop (HT.ir d.length 0 g)).take (HT.ir d.length d.length l-HT.ir d.length 0 g),Nc _ rfl]
noncomputable def oG:V->Bool
 |.eN=>true
 |.bl _=>true
 |.int _=>true
 |.str _=>true
 |_=>false
noncomputable def Ex:V->V->Bool
 |.eN,.eN=>true
 |.bl a,.bl b=>a == b
 |.bl a,.int b=>(if a then 1 else 0) == b
 |.int a,.bl b=>a == (if b then 1 else 0)
 |.int a,.int b=>a == b
 |.str a,.str b=>a == b
 |_,_=>false
theorem Ce (g:RelV y u)(d:RelV x v)(m:oG y=true)(l:oG x=true):OP A s u v (Ex y x):=by
 cases y with
 |eN =>
  cases g
  cases x with
  |eN=>cases d;exact OP.same _
  |bl b=>cases d;exact OP.none_bool b
  |int b=>have(t,rfl):=d;exact OP.none_int b t
  |str b=>have(t,rfl):=d;exact OP.none_str b t
  |_=>exact absurd (show false=true from l) Nk
 |bl a =>
  cases g
  cases x with
  |eN=>cases d;exact OP.bool_none a
  |bl b=>cases d;exact OP.bool_bool a b
  |int b=>have(t,rfl):=d;exact OP.bool_int a b t
  |str b=>have(t,rfl):=d;exact OP.bool_str a b t
  |_=>exact absurd (show false=true from l) Nk
 |int a =>
  have(e,rfl):=g
  cases x with
  |eN=>cases d;exact OP.int_none a e
  |bl b=>cases d;exact OP.int_bool a e b
  |int b=>have(t,rfl):=d;exact OP.int_int a e b t
  |str b=>have(t,rfl):=d;exact T9 a e b t
  |_=>exact absurd (show false=true from l) Nk
 |str a =>
  have(e,rfl):=g
  cases x with
  |eN=>cases d;exact OP.str_none a e
  |bl b=>cases d;exact OP.str_bool a e b
  |int b=>have(t,rfl):=d;exact Ua a e b t
  |str b=>have(t,rfl):=d;exact OP.str_str a e b t
  |_=>exact absurd (show false=true from l) Nk
 |_=>exact absurd (show false=true from m) Nk
noncomputable def yW(x:V)(u:eF):Bool:=match u with
 |.none=>Ex .eN x
 |.bool b=>Ex (.bl b) x
 |.int i _=>Ex (.int i) x
 |.str z _=>Ex (.str z) x
 |_=>false
theorem Cf (r:RelV y u)(f:oG y=true):yW x u=Ex y x:=by
 cases y with
 |eN=>cases r;rfl
 |bl b=>cases r;rfl
 |int i=>have(t,rfl):=r;rfl
 |str z=>have(t,rfl):=r;rfl
 |_=>exact absurd (show false=true from f) Nk
theorem pR :∀{xs:List V}{us:List eF},Vals xs us->xs.all oG=true->us.any (yW x)=xs.any λy=>Ex y x
 |_,_,.nil,_=>rfl
 |y::xs,u::us,.cons r t,f=>by
  rw[Sy,NJ]at f;rw[Rt,Rt,Cf r f.1,pR t f.2]
theorem mW (d:RelV x v)(e:oG x=true):∀{xs:List V}{us:List eF},Vals xs us->xs.all oG=true->∀u∈us,OP A s u v (yW x u)
 |_,_,.nil,_=>λu hu=>by cases hu
 |y::xs,u::us,.cons r t,f=>λg hu=>by
  rw[Sy,NJ]at f;rcases M8.mp hu with rfl|hu
  .rw[Cf r f.1];exact Ce r d f.1 e
  .exact mW d e t f.2 g hu
noncomputable def oj(x:V)(xs:List V):Bool:=xs.any λy=>Ex y x
def Li(K:bN)(e:Bool):R2:=λx y H Q=>∃p d,y=.ref p/\(bQ K H p d\/cH K H p d)/\oG x=true/\d.all oG=true/\Q (.bl (if e then !oj x d else oj x d)) H
theorem gq :mK X (Ox .In) (Li X.K false):=by
 intro m s B H x y v u Q I l t h;have(p,C,rfl,hq,o,fs,q):=h
 cases t
 rcases hq with hq|hq
 .have(d,r,e,z):=I.list hq;refine SeqAt.in_listAt (yW x) e.isList (λw g=>mW l o r fs w (by simpa using g)) #[.bl _,H,I,rfl,?_];rw[show d.toArray.any (yW x)=d.any (yW x) by simp,pR r fs];exact q
 .have(d,r,e,z):=I.tuple hq;refine SeqAt.in_tupleAt (yW x) e (λw g=>mW l o r fs w (by simpa using g)) #[.bl _,H,I,rfl,?_];rw[show d.toArray.any (yW x)=d.any (yW x) by simp,pR r fs];exact q
theorem lJ :mK X (Ox .NotIn) (Li X.K true):=by
 intro m s B H x y v u Q I l t h;have(p,C,rfl,hq,o,fs,q):=h
 cases t
 rcases hq with hq|hq
 .have(d,r,e,z):=I.list hq;refine SeqAt.notIn_listAt (yW x) e.isList (λw g=>mW l o r fs w (by simpa using g)) #[.bl _,H,I,rfl,?_];rw[show d.toArray.any (yW x)=d.any (yW x) by simp,pR r fs];exact q
 .have(d,r,e,z):=I.tuple hq;refine SeqAt.notIn_tupleAt (yW x) e (λw g=>mW l o r fs w (by simpa using g)) #[.bl _,H,I,rfl,?_];rw[show d.toArray.any (yW x)=d.any (yW x) by simp,pR r fs];exact q
theorem aL :iQ X (.builtin "len") (λxs H Q=>∃p ys,xs=[.ref p]/\(bQ X.K H p ys\/cH X.K H p ys)/\Q (.int ys.length) H):=by
 intro m s v H xs y Q I r h;have(p,ys,rfl,hq,q):=h;have(u,rfl,o):=vals1 r
 cases o
 have z:=oR;rcases hq with hq|hq
 .have(l,e,g,t):=I.list hq;have d:=e.length;exact Calls.call_len_list g.isList (by simp only[M6]<;>omega) #[.int ys.length,H,I.tok _,#[s.toks+1,by rw[M6,d]],q]
 .have(l,e,g,t):=I.tuple hq;have d:=e.length;exact len_tuple g (by simp only[M6]<;>omega) #[.int ys.length,H,I.tok _,#[s.toks+1,by rw[M6,d]],q]
theorem pS :iQ X (.builtin "len") (λxs H Q=>∃z,xs=[.str z]/\z.length<=mH/\Q (.int z.length) H):=by
 intro d s e H xs g Q I r h;have(z,rfl,l,q):=h;have(u,rfl,t,rfl):=vals1 r;have m:=oR;exact len_str () #[.int z.length,H,I.tok _,#[_,rfl],q]
theorem iS :iQ X (.type "list") (λxs H Q=>∃p ys,xs=[.ref p]/\(bQ X.K H p ys\/cH X.K H p ys)/\∀l,H l=none->Q (.ref l) (upd H l (.lst ys))):=by
 intro v s J H xs M Q I r h;have(p,ys,rfl,hq,q):=h;have(u,rfl,L):=vals1 r
 cases L
 have fin:∀(d:List eF),Vals ys d->ys.length<=mH->∀(g:Heap) (t:Nat),(∀b G,s.heap.get? b=some G->g.get? b=some G) ->
   g.get? s.heap.objs.size=some {cls:=.type "list",dict:=none,data:=.seq d.toArray t,slots:=#[]}->EP X v J Q (.ref s.heap.objs.size) {s with heap:=g}:=λd m y g t kp e =>
  #[.ref s.heap.objs.size,_,I.laid (t':=s.toks) kp (i5 _) (show eM X.prog X.w _ g _ (.lst ys)from#[y,d,t,m,e]),rfl,q _ (I.hok.fresh (i5 _))]
 rcases hq with hq|hq
 .have(d,m,B,y):=I.list hq;have z:=m.length;have(o,C,D,n,hd):=B.isList;exact call_list_seq p (.inl rfl) C D hd (λg t kp e=>fin d m y g t kp e) (by simp only[M6]<;>omega)
 .have(d,m,B,y):=I.tuple hq;have z:=m.length;have(o,C,D,n,hd):=B;exact call_list_seq p (.inr rfl) C D hd (λg t kp e=>fin d m y g t kp e) (by simp only[M6]<;>omega)
theorem cS :iQ X (.type "tuple") (λxs H Q=>∃p ys,xs=[.ref p]/\((bQ X.K H p ys/\∀l,H l=none->Q (.ref l) (upd H l (.tup ys)))\/(cH X.K H p ys/\Q (.ref p) H))):=by
 intro d s y H xs J Q I r h;have(p,ys,rfl,h):=h;have(u,rfl,D):=vals1 r
 cases D
 rcases h with⟨hq,q⟩|⟨hq,q⟩
 .have(g,t,v,z):=I.list hq;have B:=t.length;refine call_tuple_list v.isList (λm kp=>?_) (by simp only[M6]<;>omega)
  have C:Inv X d y H {s with heap:=m}:=I.kept (t':=s.toks) kp
  have G:Inv X d y (upd H m.objs.size (.tup ys)) {s with heap:=m.push {cls:=.type "tuple",data:=.seq g.toArray}} :=
   C.laid (t':=s.toks) (λb o e=>tF _ e) (i5 _) (show eM X.prog X.w _ _ _ (.tup ys)from#[z,g,t,TQ _ _,_,Nc _ rfl,rfl])
  exact#[.ref m.objs.size,_,G,rfl,q _ (C.hok.fresh (i5 _))]
 .have(g,t,v,z):=I.tuple hq;exact call_tuple_same v #[.ref p,H,I,rfl,q]
def KJ(K:bN)(T:String)(x:V)(H:Hp):Prop:=match x with
 |.str _=>T="str"
 |.int _=>T="int"
 |.ref p=>(T="list"/\∃e,bQ K H p e)\/(T="tuple"/\∃o,K.lookup p=some o/\o.cls=.type "tuple"/\o.dict=none) \/
   (T="dict"/\((∃d,H p=some (.dK d))\/∃d,H p=some (.dT d)))\/(T="set"/\∃S n,H p=some (.set S n))
 |_=>False
theorem Cg {T:String}(I:Inv X d q H s)(r:RelV x v)(ty:KJ X.K T x H):
  s.TypeIs v T/\∀a,v=.ref a->∃m,s.heap.get? a=some m/\m.dict=none:=by
 cases x with
 |str z =>
  have(t,rfl):=r
  cases(show T="str" from ty)
  exact#[typeIs_str s z t,λ_ e=>nomatch e]
 |int i =>
  have(t,rfl):=r
  cases(show T="int" from ty)
  exact#[R5 s i t,λ_ e=>nomatch e]
 |ref p =>
  cases r
  rcases ty with⟨rfl,xs,hq⟩|⟨rfl,o,hk,hc,hd⟩|⟨rfl,hk⟩|⟨rfl,S,n,hk⟩
  .have(u,_,l,_):=I.list hq;refine#[l.isList.typeIs,λa e=>?_]
   cases e
   have(o,n,e,c,hd,_):=l;exact#[o,e,hd]
  .refine#[#[o,I.sy p o hk,hc],λa e=>?_]
   cases e
   exact#[o,I.sy _ o hk,hd]
  .have z:∃o,s.heap.get? p=some o/\o.ExactDict:=by
    rcases hk with⟨kvs,hk⟩|⟨kvs,hk⟩
    .have(_,_,_,_,o,_,_,e,ex,_):=I.hok p _ hk;exact#[o,e,ex]
    .have(_,_,_,_,o,_,_,e,ex,_):=I.hok p _ hk;exact#[o,e,ex]
   have(o,e,ex):=z;refine#[#[o,e,ex.1],λa g=>?_]
   cases g
   exact#[o,e,ex.2.1]
  .have(o,_,_,_,e,ex,_):=I.hok p _ hk;refine#[#[o,e,ex.1],λa g=>?_]
   cases g
   exact#[o,e,ex.2.1]
 |_=>exact OA ty
abbrev MG(r:V->List V->Hp->VK->Prop)(x:V)(Q:VK):List V->Hp->Prop:=λd e=>r x d e Q
def MH(K:bN)(T:String)(r:V->List V->Hp->VK->Prop)(t:TA)(e:St)(Q:VK):VK:=λx d=>KJ K T x d/\t e d (MG r x Q)
def Lj(K:bN)(T:String)(r:V->List V->Hp->VK->Prop)(g:TE):TE:=λe H Q=>g e H λx d=>KJ K T x d/\r x [] d Q
abbrev MI(K:bN)(T:String)(r:V->List V->Hp->VK->Prop)(e:TE)(t:TA):TE:=λd H Q=>e d H (MH K T r t d Q)
theorem HQ {T id:String}(y:PlainAttrs T)(g:Slot T name id)(l:typeOf (.builtin id)=pure (.type "method_descriptor"))(B:KI X id r)(z:PE X o to)(hbase:Qz o name X.env (eval o X.env)=eval o X.env:=by rfl)(hline:(apos.endLine == cpos.line)=true:=by rfl):PE X (.Call (.Attribute o name apos) [] [] cpos) (Lj X.K T r to):=by
 intro d s m H Q I h;refine SJ hbase hline (cR (z d s m H _ I h) λv u ⟨x,G,q,p,ty,q1⟩=>?_);have(D,C):=Cg q p ty;exact#[T,id,y,g,l,D,C,S3 rfl (TV (B d u m G x [] v [] Q q p .nil q1))]
theorem xx {o e:Expr}{es:List Expr}{to:TE}{t:TA}{name:Str}{apos cpos:Pos}{T id:String}{r:V->List V->Hp->VK->Prop}(J:PlainAttrs T)(g:Slot T name id)(p:typeOf (.builtin id)=pure (.type "method_descriptor"))(M:KI X id r)(L:PE X o to)(O:PA X (e::es) t)(hbase:Qz o name X.env (eval o X.env)=eval o X.env:=by rfl)(hfew:((RT cpos (N8 (e::es) X.env)).all (λx=>!x.1)&&(backToKw cpos (keywordEach [] X.env)).all (λx=>x.1.isSome)
   && decide ((e::es).length+([]:List Keyword).length+(if([]:List Keyword).isEmpty then 0 else 1)<30))=true:=by rfl)(hline:(apos.endLine == cpos.line)=true:=by rfl)(hs:N8 (e::es) X.env=(false,eval e X.env)::N8 es X.env:=by rfl)(hplain:(RT cpos (N8 es X.env)).any (·.1)=false:=by rfl):
  PE X (.Call (.Attribute o name apos) (e::es) [] cpos) (MI X.K T r to t):=by
 intro d s l H Q I h;refine wpAny_Call_method_late hbase hfew hline rfl (cR (L d s l H _ I h) λv D ⟨x,W,y,q,ty,q1⟩=>?_);have(S,R):=Cg y q ty;refine#[T,id,J,g,p,S,R,?_];have u:=O cpos d D l W _ y q1;rw[hs]at u|-;refine S3 (by show(false||(RT cpos (N8 es X.env)).any (·.1))=false;rw[hplain]<;>rfl) (Calls.evalArgs_plain ?_)
 exact cR u λB C ⟨z,V,U,r2,G⟩=>M d C l V x z v B Q U q r2 G
/- xs.append(e),list.index on a module's tuple .. are KI facts of 06m -/
def KL(X:Cx)(id:String)(r:V->List V->Hp->VK->Prop):Prop :=
 ∀(d:List (Addr×Obj)) (s:fy) (e:St) (H:Hp) (x:V) (g:List V) (v:eF) (l:List eF) (Q:VK),Inv X d e H s->RelV x v->Vals g l->r x g H Q ->
  Na (Nf X.prog X.w) X.A (call (.builtin id) (v::l)) (EP X d e Q) X.xe s
theorem Vals.one :∀{x:V}{us:List eF},Vals [x] us->∃u,us=[u]/\RelV x u
 |_,_,.cons r .nil=>#[_,rfl,r]
theorem Vals.zero :∀{us:List eF},Vals [] us->us=[]
 |_,.nil=>rfl
theorem Vals.dropLast (h:Vals xs us):Vals xs.dropLast us.dropLast:=by
 induction h with
 |nil=>exact .nil
 |cons r t ih =>
  cases t with
  |nil=>exact .nil
  |cons q t'=>exact .cons r ih
theorem Vals.reverse (h:Vals xs us):Vals xs.reverse us.reverse:=by
 induction h with
 |nil=>exact .nil
 |cons r t ih=>rw[PR,PR];exact Vals.append ih (.cons r .nil)
theorem Vals.rep (h:Vals xs us):∀k:Nat,Vals (Nb k xs).flatten (Nb k us).flatten
 |0=>.nil
 |k+1=>by
  rw[Pf,Pf,Q3,Q3];exact Vals.append h (Vals.rep h k)
theorem yX {d:Type}(l:List d):l.eraseIdx (l.length-1)=l.dropLast:=by
 induction l with
 |nil=>rfl
 |cons a r ih =>
  cases r with
  |nil=>rfl
  |cons b r =>
   have e:(a::b::r).length-1=((b::r).length-1)+1:=by
    have m:(a::b::r).length=r.length+2:=rfl;have g:(b::r).length=r.length+1:=rfl;omega
   rw[e,List.eraseIdx_cons_succ,ih]
   all_goals rfl
theorem foldl_rep (d:List eF):∀(k:Nat) (g:List eF),
  UW (λm l=>m++l) g.toArray (Nb k d.toArray)=(g++(Nb k d).flatten).toArray
 |0,g=>by simp
 |k+1,g=>by
  have e:g.toArray++d.toArray=(g++d).toArray:=by simp
  have o:(g++d)++(Nb k d).flatten=g++(Nb (k+1) d).flatten:=by
   rw[Pf,Q3,Oa]
  rw[<-o,<-foldl_rep d k (g++d),<-e,Pf,List.foldl_cons]
theorem Inv.HR {d:List eF}(I:Inv X pins σ H s)(o:H l=some (.lst xs))(e:s.heap.get? l=some {cls:=.type "list",data:=.seq d.toArray n})(hf:f d.toArray=its'.toArray)(hv:Vals ys its')(hz:ys.length<=mH):
  Inv X pins σ (upd H l (.lst ys)) {s with heap:=s.heap.update l (S2 f),toks:=t'}:=by
 have q:=PySem.IsL.update e f;rw[hf]at q;refine I.write (x:=l) (e:=l) (by rw[o];exact trivial) (.inl rfl) (λp u m g=>(Ov s.heap (S2 f) (PK m)).trans g) #[_,q] ?_;exact#[hz,its',_,hv,q]
theorem Inv.JP (I:Inv X pins σ H s)(g:Vals ys d)(e:ys.length<=mH):
  Inv X pins σ (upd H s.heap.objs.size (.lst ys)) {s with heap:=s.heap.push {cls:=.type "list",data:=.seq d.toArray},toks:=t'} :=
 I.laid (λ_ _ q=>tF _ q) (i5 _) #[e,d,0,g,Nc _ rfl]
theorem Inv.fresh (I:Inv X pins σ H s):H s.heap.objs.size=none:=I.hok.fresh (i5 _)
theorem Inv.xy (I:Inv X pins σ H s)(g:H l=some (.lst xs)):xs.length<=mH/\∃(d:List eF) (n:Nat),Vals xs d/\xs.length=d.length/\s.heap.get? l=some {cls:=.type "list",data:=.seq d.toArray n}:=by
 have(z,d,n,r,e):=I.hok l _ g;exact#[z,d,n,r,r.length,e]
theorem xA (h:n<=mH):PV n=false:=by
 unfold PV;exact decide_eq_false ()
def Ey:V->List V->Hp->VK->Prop:=λx e H Q=>∃l d y,x=.ref l/\e=[y]/\H l=some (.lst d)/\d.length<mH/\Q .eN (upd H l (.lst (d++[y])))
theorem AY :KL X "list.append" Ey:=by
 intro g s B H x D v G Q I o p h;have(l,C,y,rfl,rfl,m,J,q):=h
 cases o
 have(u,rfl,t):=p.one;have(z,d,n,r,L,e):=I.xy m;refine R6 F.slot_list_append #[_,e,rfl] F.entry_list_append (F.args_list_append_2 _ _) (PySem.list_append l d.toArray n u (by rw[M6];omega)) #[e,?_];refine#[.eN,_,I.HR (its':=d++[u]) m e (by simp) (r.append (.cons t .nil)) ?_,rfl,q];rw[i4,Rg];omega
def Ez:V->List V->Hp->VK->Prop:=λx g H Q=>∃l b e d,x=.ref l/\g=[.ref b]/\H l=some (.lst e)/\H b=some (.lst d)/\e.length+d.length<=mH/\Q .eN (upd H l (.lst (e++d)))
theorem uQ :KL X "list.extend" Ez:=by
 intro p s M H x T v U Q I y B h;have(l,b,S,O,rfl,rfl,t,J,V,q):=h
 cases y
 have(u,rfl,C):=B.one
 cases C
 have(z,g,n,r,W,e):=I.xy t;have(R,d,D,r2,G,L):=I.xy J;have o:g.toArray.size+d.toArray.size<=mH:=by rw[M6,M6];omega
 have m:¬(!g.toArray.isEmpty&&PV (g.toArray.size+d.toArray.size))=true:=by
  rw[xA o,Tr];exact Nk
 refine R6 F.slot_list_extend #[_,e,rfl] F.entry_list_extend (F.args_list_extend_2 _ _)
  (AutoSeq1.list_extend_list_list_0 l g.toArray n b d.toArray D m (by rw[M6];omega) ()) #[e,L,?_]
 refine#[.eN,_,I.HR (its':=g++d) t e (by simp) (r.append r2) ?_,rfl,q];rw[i4];omega
def Lk:V->List V->Hp->VK->Prop:=λx e H Q=>∃l d y,x=.ref l/\e=[]/\H l=some (.lst d)/\d[d.length-1]?=some y/\Q y (upd H l (.lst d.dropLast))
theorem HS :KL X "list.pop" Lk:=by
 intro o s L H x O v R Q I t B h;have(l,M,y,rfl,rfl,p,D,q):=h
 cases t
 have m:=B.zero;subst m;have(z,d,n,r,J,e):=I.xy p;have(u,G,C):=r.get D
 have g:d.toArray[d.toArray.size-1]?=some u:=by
  show d.toArray[d.length-1]?=some u;rw[<-Ti,<-J];exact G
 refine R6 F.slot_list_pop #[_,e,rfl] F.entry_list_pop (F.args_list_pop_1 _) (MeetsSeq.list_pop_last l d.toArray n u g (by rw[M6];omega)) #[e,?_];refine#[y,_,I.HR (its':=d.dropLast) p e ?_ r.dropLast ?_,C,q]
 .show d.toArray.eraseIdxIfInBounds (d.toArray.size-1)=d.dropLast.toArray;rw[M6,List.eraseIdxIfInBounds_toArray,yX]
 .rw[List.length_dropLast];omega
def JQ:R2:=λx y H Q=>∃l b e d,x=.ref l/\y=.ref b/\H l=some (.lst e)/\H b=some (.lst d)/\e.length+d.length<=mH/\∀p,H p=none->Q (.ref p) (upd H p (.lst (e++d)))
theorem iT :mK X (PN .Add) JQ:=by
 intro m s J H x y v u Q I p o h;have(l,b,O,L,rfl,rfl,B,C,S,q):=h
 cases p
 cases o
 have(z,g,n,r,T,e):=I.xy B;have(M,d,R,r2,t,G):=I.xy C;refine PySem.P.add_list e G ?_ (by rw[M6,M6];omega);have D:g.toArray++d.toArray=(g++d).toArray:=by simp
 rw[D];exact#[.ref _,_,I.JP (t':=s.toks) (r.append r2) (by rw[i4];omega),rfl,q _ I.fresh]
def Ll:R2:=λx y H Q=>∃l k d,x=.ref l/\y=.int k/\H l=some (.lst d)/\-(2 ^ 63)<=k/\k<2 ^ 63/\d.length*k.toNat<=mH /\
 ∀p,H p=none->Q (.ref p) (upd H p (.lst (Nb k.toNat d).flatten))
theorem len_rep {d:Type}(xs:List d)(k:Nat):(Nb k xs).flatten.length=k*xs.length:=by
 induction k with
 |zero=>simp
 |succ k ih=>rw[Pf,Q3,i4,ih,S4,Nat.add_comm]
theorem Ci :mK X (PN .Mult) Ll:=by
 intro J s σ H x y v u Q I R O h;have(l,k,xs,rfl,rfl,V,Y,W,L,q):=h
 cases R
 have(t,rfl):=O;have(z,d,n,r,S,e):=I.xy V;have p:d.toArray.size*k.toNat<=mH:=by rw[M6,<-S];exact L
 have C:¬d.toArray.size*k.toNat>(2 ^ 63-1) / 8:=by
  have:(mH:Nat)<=(2 ^ 63-1) / 8:=by decide
  omega
 have B:¬(!QW.List.listFitsIndex k)=true:=by
  rw[fitsIndex_both Y W];exact Nk
 have g:¬PV (d.toArray.size*k.toNat)=true:=by
  rw[xA p];exact Nk
 have o:UW (λG D=>G++D) #[] (Nb (if d.toArray.isEmpty=true then 0 else k.toNat) d.toArray)=(Nb k.toNat d).flatten.toArray:=by
  have Z:∀m:Nat,UW (λG D=>G++D) #[] (Nb m d.toArray)=(Nb m d).flatten.toArray:=λm=>by
   have:=foldl_rep d m [];rw[PF]at this;exact this
  rw[Z]
  cases d with
  |nil=>simp
  |cons a r'=>rw[if_neg (by simp)]
 refine wpAny_binaryOp_repeat_ref (T:="list") (U:="int") (by decide) #[_,e,rfl] (λM=>R5 M k t) noFill_list_mul F.fills_int_mul F.slot_int_rmul repeat_list F.slot_int_index.lookup
  (R6 F.slot_int_rmul (R5 s k t) F.entry_int_rmul (F.args_int_rmul_2 _ _) (int___rmul___int_list k t l d.toArray n)
   #[e,rfl,#[_,e,rfl],R6 F.slot_list_mul #[_,e,rfl] F.entry_list_mul (F.args_list_mul_2 _ _) (AutoListH.list___mul___list_int_3 l d.toArray n k t B C g) #[e,?_]])
 rw[o];exact#[.ref _,_,I.JP (t':=s.toks) (r.rep k.toNat) (by rw[len_rep,Nat.mul_comm];exact L),rfl,q _ I.fresh]
end L2
namespace Att
open PySem PySem.W PySem.Calls PyProof.Rows
theorem rL :∀(ns:List Int) (vs:List eF),WellAll P h vs (ns.map WData.int)->UR vs ns:=by
 intro ns
 induction ns with
 |nil =>
  intro vs w;rw[OS]at w
  cases w
  exact .nil
 |cons n ns ih =>
  intro vs w;rw[Nr]at w
  cases w with
  |cons a b =>
   cases a
   exact .cons _ _ (ih _ b)
theorem AZ {l:RN}(hn:l.most=some n)(hpre:l.row.toRowW.claim.pre args=true)(hwl:WellAll P h e args):
  ∃a vs ns,e=[Value.ref a]/\args=[WData.list (ns.map WData.int)]/\h.get? a=some {cls:=.type "list",data:=.seq vs.toArray}/\UR vs ns/\ns.length<=n:=by
 have p:WShape.hasAll [] args [.list .int]=true:=(pre_splitW hpre).1;have t:l.pre.holds [] {args:=args}=true:=(pre_splitW hpre).2;have(d,r,rfl,z,y):=hasAllW_cons p;obtain rfl:=hasAllW_nil y;have(B,rfl,v):=hasW_list z;have(ns,rfl):=items_int v
 have g:ns.length<=n:=by
  unfold RN.pre at t
  have o:(WTm.not (.lt (.lit (.int (n:Int))) (.len (.arg 0)))).holds [] {args:=[.list (ns.map .int)]}=true:=by
   have o:=(holds_andW t).1;rw[hn]at o;exact o
  have m:=condW_of o (w_not (w_lt w_lit (w_len_list (w_arg rfl))));rw[bM]at m;refine Nat.le_of_not_lt λq=>?_;have u:(n:Int)<((ns.length:Nat):Int):=()
  first
   |(rw[decide_eq_true u]at m;exact absurd m (by decide))
   |(simp at m;omega)
 cases hwl with
 |cons w1 w2 =>
  cases w2
  cases w1 with
  |list ho hall=>exact#[_,_,ns,rfl,rfl,ho,rL ns _ hall,g]
theorem A0 (l:RN)(args:List WData):l.row.toRowW.claim.post args (.bool true) args=true :=
 postW_of (r:=l.row.toRowW) (X:=(true == true))
  (show WShape.has [] (.bool true) .bool=true by first|rfl|decide|simp[WShape.has,WShape.arms,WShape.armsAll])
  (show(WTm.eq .res (.lit (.bool true))).value [] {args:=args,res:=some (.bool true),after:=args}=some (.bool (true == true))from w_eq_bool (w_res rfl) w_lit) rfl
theorem xB {l:RN}(hn:l.most=some n)(hdf:d.params.defaults=[])(call:∀(w:Ni) (g e:fy) (mg D:Str->Option eF) (z:Addr) (o:Obj) (C B t:eF) (a:Addr) (vs:List eF) (ns:List Int),
   Ground q m [] S w g mg D e.heap->R w e.heap ->
   e.heap.get? z=some o->o.data=.func (docDef d.name d.params d.body d.scope C B t)->e.heap.CodeRec B d.name->mg d.name=some (.ref z) ->
   e.heap.get? a=some {cls:=.type "list",data:=.seq vs.toArray}->UR vs ns->ns.length<=n->e.gens=#[] ->
   O5 (Nf l.prog w) TR (.call (.ref z) #[[.ref a],[]]) (λr s'=>r=.ok (.ret (.bool true))/\OldK e.heap s'.heap/\s'.os=e.os/\RP s'.gens) e):
  WalkO q m S R l.row.toRowW d [] (λf vs=>UX f vs):=by
 intro w g e mg D G Y z o C B t dV kV V hd J O I hg Q L as u M T H Z;obtain rfl:dV=.none:=Dflts.none O hdf;obtain rfl:kV=.none:=Dflts.noKw O;have(a,vs,ns,rfl,rfl,v,p,y):=AZ hn u H;refine enter_call (Qo (call w g e mg D z o C B t a vs ns G Y V (fd_plain hd) J I v p y hg) λr s' U=>?_);have(rfl,h2,h3,h4):=U;exact#[.inl #[.bool true,.bool true,[],rfl,λ_=>rfl,.bool true,A0 l _,λ_=>#[List.Pairwise.nil,λ_ W=>(nomatch W)]],h2,h3,h4]
end Att
namespace L2
open PySem PySem.Spec PyProof.Rows
theorem uR :∀{vs:List eF}{ns:List Int},UR vs ns->Vals (ns.map V.int) vs
 |_,_,.nil=>.nil
 |_,_,.cons n t h=>.cons #[t,rfl] (uR h)
def HU(H:Hp):Prop:=∀b,H b=none\/∃o d,H b=some (.nH o (.lst d))
theorem Cj {K:bN}{sp:Sp}(KX:K.In g.heap)(hns:g.heap.Ns Nx mg)(p:g.heap.Ns builtinsNs O)(hbb:∀x:Str,x≠"__name__"->O x=QT x)(hlim:g.heap.NoLimit)(hg:g.gens=#[])(ha:g.heap.get? a=some {cls:=.type "list",data:=.seq vs.toArray})(hi:UR vs ns)(hl:ns.length<=mH)(hr:dj k TR)(F:∀base:Heap,K.In base->base.Ns Nx mg->cA P w K mg base CX k Q Y [x] sp)(hbind:∀(s:fy) (u:eF),Ur s Y #[[u],[]] [(x,u)])(hsp:∀H:Hp,HU H->bQ K H a (ns.map V.int)->sp [.ref a] H (λv _=>v=.bl true) λ_ _ _=>False)(hCX:∀H e s',CX [] H g (λ_ _ _=>False) e s'->False):
  O5 (Nf P w) TR (.call (.ref Q) #[[.ref a],[]]) (λr s'=>r=.ok (.ret (.bool true))/\OldK g.heap s'.heap/\s'.os=g.os/\RP s'.gens) g:=by
 have S:=uR hi;have B:=hi.length
 -- from an abstract heap in which nothing but the script may be tracked
 have core:∀H:Hp,HU H->bQ K H a (ns.map V.int)->mQ P w H g.heap->(∀b,H b≠none->b=a)->(H a≠none->K.lookup a=none) ->
   O5 (Nf P w) TR (.call (.ref Q) #[[.ref a],[]]) (λr s'=>r=.ok (.ret (.bool true))/\OldK g.heap s'.heap/\s'.os=g.os/\RP s'.gens) g:=by
  intro H T hS D U hK;have l:∀{b:Addr}{o:Obj},g.heap.get? b=some o->H b=none->(vF g.heap H).get? b=some o:=λe n=>B0 e n
  have M:∀{b:Addr}{o:Obj}{I:Array O7}{J:Nat},g.heap.get? b=some o->o.data=.dict I J->H b=none:=λ{b o I J} e d=>by
   cases q:H b with
   |none=>rfl
   |some u =>
    have R:b=a:=U b (by rw[q];simp);subst R;rw[ha]at e;cases e;have d':Data.seq vs.toArray _=Data.dict I J:=d
    cases d'
  have t:∀{b:Addr}{m:Str->Option eF},g.heap.Ns b m->(vF g.heap H).Ns b m:=λ{b m} ⟨o,I,J,e,d,r⟩=>#[o,I,J,l e (M e d),d,r]
  have G:K.In (vF g.heap H):=λb o e=>l (KX b o e) (by
   cases q:H b with
   |none=>rfl
   |some u =>
    have R:b=a:=U b (by rw[q];simp);subst R;rw[hK (by rw[q];simp)]at e;cases e)
  have hM:Mod K mg (vF g.heap H):=#[G,t hns,#[O,t p,hbb],let⟨mc,h1,h2⟩:=hlim;#[mc,t h1,h2]];have e0:yS P w K mg (vF g.heap H) TR [] g H:=#[rfl,hM,λb o e=>Eh e,Up (AQ _ _),trivial,λb p=>absurd (show b∈([]:List Addr)from p) (by simp),D,.of_eq hg];refine Qo ((F _ G (t hns)).run TR [] g H #[[.ref a],[]] [.ref a] [.ref a] _ _ hr e0 (hbind g (.ref a)) (.cons rfl .nil) (hsp H T hS)) λr s' h=>?_
  cases r with
  |error e=>exact(hCX H e s' h).elim
  |ok fl =>
   cases fl with
   |next=>exact OA h
   |brk=>exact OA h
   |cont=>exact OA h
   |ret u =>
    have(v,H',os,L,un,C,r',q):=h;have q':v=.bl true:=q;subst q';obtain rfl:u=Value.bool true:=r';refine#[rfl,OldK.of_keep λb o e=>?_,os,L]
    cases q:H b with
    |none=>exact un.keep b o e q (by intro z;exact absurd (show b∈([]:List Addr)from z) (by simp)) (by simp)
    |some u =>
     rcases T b with z|⟨ob,xs,z⟩
     .rw[q]at z;cases z
     .have z2:=un.frzs b ob _ z;have(Z,_):=D b _ z;have(e2,_):=C b _ z2;rw[e]at Z;cases Z;exact e2
 cases hk:K.lookup a with
 |some o =>
  -- the script is one of the module's own objects
  have e:=KX a o hk;rw[ha]at e
  cases e
  refine core (λ_=>none) (λ_=>.inl rfl) (.inr #[_,vs.toArray,_,hk,rfl,rfl,rfl,by rw[M6,B];exact hl,by simpa using S]) (λb u z=>by have y:(none:Option HO)=some u:=z;cases y) (λb z=>absurd rfl z) λz=>absurd rfl z
 |none =>
  refine core (λb=>if b=a then some (.nH {cls:=.type "list",data:=.seq vs.toArray} (.lst (ns.map V.int)))else none) (λb=>?_) (.inl (.inr #[{cls:=.type "list",data:=.seq vs.toArray},if_pos rfl])) (λb u z=>?_) (λb z=>?_) λ_=>hk
  .by_cases p:b=a
   .exact .inr #[_,_,if_pos p]
   .exact .inl (if_neg p)
  .by_cases p:b=a
   .have y:=(if_pos p).symm.trans z
    cases y
    subst p;exact#[ha,by rw[bM];exact hl,vs,_,S,ha]
   .have y:=(if_neg p).symm.trans z
    cases y
  .by_cases p:b=a
   .exact p
   .exact absurd (if_neg p) z
theorem EA {l:RN}{K:Params->bN}{CX:Ni->wX}{sp:Ni->Sp}(hn:l.most=some n)(hn2:n<=mH)(hdf:d.params.defaults=[])(hr:dj k TR)(hY:∀(w:Ni) (h:Heap),I w h->(K w.params).In h)(F:∀(w:Ni) (mg:Str->Option eF) (z:Addr) (h:Heap),(K w.params).In h->h.Ns Nx mg->mg d.name=some (.ref z) ->
   ∃C:M5,(∀(s:fy) (u:eF),Ur s C #[[u],[]] [(x,u)]) /\
    ∀base:Heap,(K w.params).In base->base.Ns Nx mg->cA l.prog w (K w.params) mg base (CX w) k z C [x] (sp w))(hsp:∀(w:Ni) (H:Hp) (a:Addr) (ns:List Int),ns.length<=n->HU H->bQ (K w.params) H a (ns.map V.int)->sp w [.ref a] H (λv _=>v=.bl true) λ_ _ _=>False)(hCX:∀(w:Ni) (H:Hp) (s:fy) (e:eF) (s':fy),CX w [] H s (λ_ _ _=>False) e s'->False):
  U1 q p Z I l.row.toRowW d [] (λf vs=>UX f vs):=by
 refine Att.xB hn hdf λw D t mg mb z o pm cd U a vs ns G Y ho hd M B y r m L=>?_;have J:=hY w _ Y;have(C,O,S):=F w mg z _ J G.T.g B;exact Cj J G.T.g G.T.b G.T.builtins G.T.nolimit L y r (Nu m hn2) hr S O (λH R Q=>hsp w H a ns m R Q) λH e s'=>hCX w H t e s'
noncomputable def lK(s:Stmt):Arguments:=match s with
 |.FunctionDef _ a _ _ _ _ _ _ _ _=>a
 |_=>{posonlyargs:=[],args:=[],vararg:=none,kwonlyargs:=[],kw_defaults:=[],kwarg:=none,defaults:=[]}
noncomputable def bg(s:Stmt):List Stmt:=match s with
 |.FunctionDef _ _ b _ _ _ _ _ _ _=>b
 |_=>[]
noncomputable def ak(s:Stmt):OI:=match s with
 |.FunctionDef _ _ _ _ _ _ sc _ _ _=>sc
 |_=>{kind:=.function,names:=[],isGenerator:=false,isCoroutine:=false}
abbrev gy:wX:=λ_ _ _ _ _ _=>False
abbrev E0:XK:=λ_ _ _=>False
theorem kT :Passes gy X E0:=λ_ _ _ _ _ _ _ h=>h.elim
structure jr(K:bN) (x qual:Str) (st:Stmt) (f:Addr) (fd:M5):Prop where
 ex:∃(oc:eF) (od:Option Addr) (kV doc pm:eF) (an:Option Addr) (cdv ct:eF) (osl:Array (Option eF)),
  fd=QZ x qual (lK st) (bg st) (ak st) .none kV doc pm an cdv ct/\K.lookup f=some #[oc,od,.func fd,osl]/\Sv K cdv qual=true
 kp:Pb K (.ref f)=true
theorem jr.ok {K:bN}{st:Stmt}{sp:Sp}(F:jr K x d st f m)(S:aZ N ps (ak st))(e:∀vs H Q E,sp vs H Q E->vs.length=ps.length)(hbody:∀(cdv:eF) (A:Nq) (outer:List Env) (s:fy) (H:Hp) (vs:List V) (Q:VK) (E:XK),dj k (A.deeper (Nj d (ak st) s.heap.objs.size f cdv))->sp vs H Q E ->
   ∃t,qT (vJ gy P w K mg base N d (ak st) f cdv A outer s H E).nR (bg st) t/\t {nx:=λ_ u=>Q .eN u,rt:=Q} (start N vs) H):cA P w K mg base gy (k+1) f m ps sp:=by
 have(z,y,kV,r,v,C,cdv,B,o,rfl,p,l):=F.ex;refine GD p l S e λA outer s H vs Q E hr g=>?_;have(t,h,q):=hbody cdv A outer s H vs Q E hr g;exact#[t,h.nR,q]
theorem jr.binds {K:bN}{st:Stmt}(F:jr K x d st f m)(h:∀(kV e g:eF) (l:Option Addr) (cdv ct:eF) (us:List eF),us.length=ps.length->bindArgs (QZ x d (lK st) (bg st) (ak st) .none kV e g l cdv ct) #[us,[]]=pure (ps.zip us)):Binds K m ps []:=by
 have(r,q,kV,e,g,l,cdv,ct,o,rfl,t,p):=F.ex;exact .all (h kV e g l cdv ct)
theorem gE (hr:dj k A):A.units+1<Rf:=R7 (TX (by decide:1<=64) _) hr.units
theorem bq (h:n<=1000):n<mH:=R7 h (by decide)
theorem pv (i:Nat)(g:X.N[i]?=some x:=by rfl)(e:Jt X.env.scope x:=by first|exact Or.inl rfl|exact Or.inr (Or.inl rfl)|exact Or.inr (Or.inr rfl))(hd:(x == ("__debug__":Str))=false:=by decide)(hcd:(x == ("__classdict__":Str))=false:=by decide):PE X (.Name x d) (mR i):=B4 g e hd hcd
theorem cg {c A B:Prop}[Decidable c](e:c->A)(d:¬c->B):if c then A else B:=by
 by_cases h:c
 .rw[if_pos h];exact e h
 .rw[if_neg h];exact d h
def aT(H d:Hp):Prop:=∀b o,H b=some o->d b=some o
theorem aT.refl (H:Hp):aT H H:=λ_ _ h=>h
theorem aT.trans (a:aT H e)(b:aT e d):aT H d:=λc o h=>b c o (a c o h)
theorem aT.free (e:aT H d)(h:d l=Option.none):H l=Option.none:=by
 cases q:H l with
 |none=>rfl
 |some o =>
  rw[e l o q]at h
  cases h
theorem aT.seq {K:bN}(e:aT H d)(h:bQ K H a xs):bQ K d a xs:=by
 rcases h with(h|⟨o,h⟩)|h
 .exact .inl (.inl (e _ _ h))
 .exact .inl (.inr #[o,e _ _ h])
 .exact .inr h
noncomputable def cX {κ:Type}[DecidableEq κ](kvs:List (κ×V))(k:κ):Option V:=(kvs.find? λd=>decide (d.1=k)).map (·.2)
noncomputable def putK {κ:Type}[DecidableEq κ](kvs:List (κ×V))(k:κ)(v:V):List (κ×V) :=
 if(kvs.any λd=>decide (d.1=k))=true then kvs.map (λd=>if d.1=k then(d.1,v)else d)else kvs++[(k,v)]
theorem fJ {κ:Type}[DecidableEq κ]{p:κ×V}{r:List (κ×V)}{k:κ}(e:p.1=k):cX (p::r) k=some p.2:=by simp[cX,Ob,e]
theorem fK {κ:Type}[DecidableEq κ]{p:κ×V}{r:List (κ×V)}{k:κ}(e:¬p.1=k):cX (p::r) k=cX r k:=by simp[cX,Ob,e]
theorem sJ {κ:Type}[DecidableEq κ](k:κ):∀kvs:List (κ×V),(kvs.any λd=>decide (d.1=k))=(cX kvs k).isSome
 | []=>rfl
 |p::r=>by
  rw[Rt]
  by_cases e:p.1=k
  .simp only[fJ e,decide_eq_true e,Bool.true_or,Option.isSome_some]
  .rw[fK e,decide_eq_false e,Bool.false_or];exact sJ k r
theorem mX {κ:Type}[DecidableEq κ](kvs:List (κ×V))(k:κ)(v:V):(putK kvs k v).length<=kvs.length+1:=by
 unfold putK
 split
 .rw[bM];omega
 .rw[i4,Np,Qa];omega
theorem Ck {κ:Type}[DecidableEq κ]{kvs:List (κ×V)}{k:κ}(v:V)(h:cX kvs k=none):putK kvs k v=kvs++[(k,v)]:=by
 unfold putK;rw[sJ,h];exact if_neg (by decide)
theorem lC.kU (r:lC o u):o.isSome=u.isSome:=by
 cases o with
 |none=>cases u with
  |none=>rfl
  |some _=>exact(show False from r).elim
 |some _=>cases u with
  |none=>exact(show False from r).elim
  |some _=>rfl
theorem KV.val {κ:Type}[DecidableEq κ]{kvs:List (κ×V)}{vs:List (κ×eF)}(r:KV kvs vs)(k:κ):lC (cX kvs k) (Qp vs k):=by
 unfold KV at r
 induction r with
 |nil=>exact True.intro
 |@cons p q ps qs h t ih =>
  have(g,l):=h
  by_cases e:p.1=k
  .have d:q.1=k:=g.symm.trans e;have b:Qp (q::qs) k=some q.2:=by simp[Qp,Ob,d]
   rw[fJ e,b];exact l
  .have d:¬q.1=k:=λz=>e (g.trans z);have b:Qp (q::qs) k=Qp qs k:=by simp[Qp,Ob,d]
   rw[fK e,b];exact ih
theorem KV.any {κ:Type}[DecidableEq κ]{kvs:List (κ×V)}{vs:List (κ×eF)}(r:KV kvs vs)(k:κ):(kvs.any λd=>decide (d.1=k))=vs.any λd=>decide (d.1=k):=by
 unfold KV at r
 induction r with
 |nil=>rfl
 |cons h t ih=>rw[Rt,Rt,ih,h.1]
theorem KV.repl {κ:Type}[DecidableEq κ]{kvs:List (κ×V)}{vs:List (κ×eF)}(r:KV kvs vs)(k:κ){y:V}{u:eF}(l:RelV y u):
  KV (kvs.map λd=>if d.1=k then(d.1,y)else d) (vs.map λd=>if d.1=k then(d.1,u)else d):=by
 unfold KV at r|-
 induction r with
 |nil=>exact .nil
 |@cons p q ps qs h t ih =>
  rw[Nr,Nr];refine .cons ?_ ih;have(g,m):=h
  by_cases e:p.1=k
  .rw[if_pos e,if_pos (g.symm.trans e)];exact#[g,l]
  .rw[if_neg e,if_neg (λz=>e (g.trans z))];exact#[g,m]
theorem KV.put {κ:Type}[DecidableEq κ]{kvs:List (κ×V)}{vs:List (κ×eF)}(r:KV kvs vs)(k:κ){y:V}{u:eF}(d:RelV y u):KV (putK kvs k y) (stored vs k u):=by
 unfold putK stored;rw[r.any k]
 by_cases e:(vs.any λg=>decide (g.1=k))=true
 .rw[if_pos e,if_pos e];exact r.repl k d
 .rw[if_neg e,if_neg e];exact Paired.snoc r #[rfl,d]
theorem KV.length {κ:Type}[DecidableEq κ]{kvs:List (κ×V)}{vs:List (κ×eF)}(r:KV kvs vs):kvs.length=vs.length:=Paired.length r
theorem qX (r:RelV (kV k) u):(bx P w).is k u=true:=by
 cases k with
 |inl i=>have(t,e):=(show ∃t,u=Value.int i t from r);subst e;exact xg P w i t
 |inr x=>have(t,e):=(show ∃t,u=Value.str x t from r);subst e;exact xh P w x t
theorem uS :∀{ks:List Key}{us:List eF},Vals (ks.map kV) us->ItemsAre (bx P w) ks us
 | [],_,r=>by rw[OS]at r;cases r;exact .nil
 |k::ks,_,r=>by
  rw[Nr]at r
  cases r with
  |cons h t=>exact .cons (qX h) (uS t)
abbrev KT(H:Hp):List (List Key×V)->List (List Key×Addr×eF)->Prop:=Paired λp q=>p.1=q.1/\H q.2.1=some (.tup (p.1.map kV))/\RelV p.2 q.2.2
theorem KT.val (r:KT H kvs xs)(k:List Key):lC (cX kvs k) ((UN xs k).map (·.2)):=by
 induction r with
 |nil=>exact True.intro
 |@cons p q ps qs h t ih =>
  have(g,_,l):=h
  by_cases e:p.1=k
  .have d:q.1=k:=g.symm.trans e;have b:UN (q::qs) k=some q.2:=by simp[UN,Ob,d]
   rw[fJ e,b];exact l
  .have d:¬q.1=k:=λz=>e (g.trans z);have b:UN (q::qs) k=UN qs k:=by simp[UN,Ob,d]
   rw[fK e,b];exact ih
theorem KT.repl (r:KT H kvs xs)(k:List Key)(m:RelV y u):
  KT H (kvs.map λg=>if g.1=k then(g.1,y)else g) (xs.map (putAt k u)):=by
 induction r with
 |nil=>exact .nil
 |@cons p q ps qs h t ih =>
  rw[Nr,Nr];refine .cons ?_ ih;have(d,l,o):=h;unfold putAt
  by_cases e:p.1=k
  .rw[if_pos e,if_pos (d.symm.trans e)];exact#[d,l,m]
  .rw[if_neg e,if_neg (λz=>e (d.trans z))];exact#[d,l,o]
theorem KT.put (r:KT H kvs xs)(k:List Key)(l:H b=some (.tup (k.map kV)))(d:RelV y u):
  KT H (putK kvs k y) (storedH xs k b u):=by
 have e:(kvs.any λg=>decide (g.1=k))=(UN xs k).isSome:=by
  rw[sJ,(r.val k).kU,Sk]
 unfold putK storedH;rw[e]
 by_cases q:(UN xs k).isSome=true
 .rw[if_pos q,if_pos q];exact r.repl k d
 .rw[if_neg q,if_neg q];exact Paired.snoc r #[rfl,l,d]
theorem KT.keeps (r:KT H kvs xs)(ht:∀b ys,H b=some (.tup ys)->d b=some (.tup ys)):KT d kvs xs :=
 Paired.Eg r λ_ _ z=>#[z.1,ht _ _ z.2.1,z.2.2]
theorem GG (ok:mQ P w H h)(e:Rd H a u):eM P w H h a u:=e.ok ok
theorem sL (ok:mQ P w H h)(e:Rd H a (.dK kvs)):kvs.length<=mH/\(a == OR)=false/\∃vs,KV kvs vs/\h.DictOf (bx P w) a vs :=
 show eM P w H h a (.dK kvs)from GG ok e
theorem GH (ok:mQ P w H h)(e:H a=some (.dK kvs)):kvs.length<=mH/\(a == OR)=false/\∃vs,KV kvs vs/\h.DictOf (bx P w) a vs:=sL ok (.inl e)
theorem sN (ok:mQ P w H h)(e:H a=some (.tup (ks.map kV))):(TN (bx P w)).is h ks a:=by
 have(_,d,r,(o,m,l,n,g),_):=(show eM P w H h a (.tup (ks.map kV))from ok a _ e);exact#[o,d.toArray,n,m,l,g,by simpa using uS r]
theorem xC (ok:mQ P w H h)(e:Rd H a (.dT kvs)):kvs.length<=mH/\(a == OR)=false /\
  ∃xs,KT H kvs xs/\h.DictOfH (TN (bx P w)) a xs:=by
 have(z,y,xs,r,o,C,D,B,v,u,g,d):=(show eM P w H h a (.dT kvs)from GG ok e);refine#[z,y,xs,r,o,C,D,B,v,u,g,λx hx=>?_,d]
 have all:∀{l:List (List Key×V)}{m:List (List Key×Addr×eF)},KT H l m->∀x∈m,(TN (bx P w)).is h x.1 x.2.1:=by
  intro l m q
  induction q with
  |nil=>intro x hx;exact nomatch hx
  |@cons p q ps qs hq t ih =>
   intro x hx;rcases M8.mp hx with e|hx
   .subst e;exact sN ok (by rw[<-hq.1];exact hq.2.1)
   .exact ih x hx
 exact all r x hx
theorem JR (ok:mQ P w H h)(e:H a=some (.dT kvs)):kvs.length<=mH/\(a == OR)=false /\
  ∃xs,KT H kvs xs/\h.DictOfH (TN (bx P w)) a xs:=xC ok (.inl e)
def cu(H:Hp)(a:Addr)(y:V)(r:Option V):Prop :=
 (∃d k,Rd H a (.dK d)/\y=kV k/\r=cX d k)\/∃d k b,Rd H a (.dT d)/\y=.ref b/\H b=some (.tup (k.map kV))/\r=cX d k
def om(H:Hp)(a:Addr)(y v:V)(e:Hp):Prop :=
 (∃d k,H a=some (.dK d)/\y=kV k/\d.length<mH/\e=upd H a (.dK (putK d k v))) \/
 ∃d k b,H a=some (.dT d)/\y=.ref b/\H b=some (.tup (k.map kV))/\d.length<mH/\e=upd H a (.dT (putK d k v))
theorem cu.k {k:Key}(e:H a=some (.dK kvs)):cu H a (kV k) (cX kvs k):=.inl #[kvs,k,.inl e,rfl,rfl]
theorem cu.t {k:List Key}(e:H a=some (.dT kvs))(d:H b=some (.tup (k.map kV))):cu H a (.ref b) (cX kvs k):=.inr #[kvs,k,b,.inl e,rfl,d,rfl]
theorem om.k {k:Key}(e:H a=some (.dK kvs))(d:kvs.length<mH):om H a (kV k) v (upd H a (.dK (putK kvs k v))):=.inl #[kvs,k,e,rfl,d,rfl]
theorem om.t {k:List Key}(e:H a=some (.dT kvs))(g:H b=some (.tup (k.map kV)))(d:kvs.length<mH):
  om H a (.ref b) v (upd H a (.dT (putK kvs k v))):=.inr #[kvs,k,b,e,rfl,g,d,rfl]
theorem Inv.big (I:Inv X pins σ H s):OR<s.heap.objs.size:=by
 have h:Nx<s.heap.objs.size:=(I.mod.glob.keeps I.bk).lt;exact Nat.lt_trans (by decide) h
theorem A1 (L:A.units+1<Rf)(I:Inv X pins σ H s)(g:cu H a y (some v))(D:RelV y u)(h:∀q s',Inv X pins σ H s'->RelV v q->Q q s'):
  Na (Nf X.prog X.w) A (Q2 (.ref a) u) Q E s:=by
 rcases g with⟨kvs,k,e,ey,l⟩|⟨kvs,k,b,e,ey,eb,l⟩
 .subst ey;have(z,hd,J,m,C):=sL I.hok e;have(q,t,d):=lC.some_of (v:=v) (o:=Qp J k) (by rw[l];exact m.val k);exact wpAny_getItem_of (qX D) C.mapOf t (h q _ (I.tok _) d)
 .subst ey
  cases(show u=Value.ref b from D)
  have(z,hd,G,m,C):=xC I.hok e;have(q,t,d):=lC.some_of (v:=v) (o:=(UN G k).map (·.2)) (by rw[l];exact m.val k);have(p,M,B):=xn.mp t;refine wpAny_getItem_heap (QG L) (sN I.hok eb) C M ?_;rw[B];exact h q _ (I.tok _) d
theorem Ln (t:A.units+1<Rf)(I:Inv X pins σ H s)(g:cu H a y o)(p:RelV y u)(h:∀s',Inv X pins σ H s'->Q (.bool o.isSome) s'):
  Na (Nf X.prog X.w) A (Ox .In u (.ref a)) Q E s:=by
 rcases g with⟨kvs,k,e,ey,l⟩|⟨kvs,k,b,e,ey,eb,l⟩
 .subst ey;have(z,hd,C,d,m):=sL I.hok e;refine wpAny_in_of (qX p) hd m.mapOf ?_;rw[<-(d.val k).kU,<-l];exact h _ (I.tok _)
 .subst ey
  cases(show u=Value.ref b from p)
  have(z,hd,B,d,m):=xC I.hok e;refine wpAny_in_heap (QG t) (sN I.hok eb) hd m ?_;have q:=(d.val k).kU;rw[Sk]at q;rw[<-q,<-l];exact h _ (I.tok _)
theorem EB (t:A.units+1<Rf)(I:Inv X pins σ H s)(g:cu H a y o)(p:RelV y u)(h:∀s',Inv X pins σ H s'->Q (.bool (!o.isSome)) s'):
  Na (Nf X.prog X.w) A (Ox .NotIn u (.ref a)) Q E s:=by
 rcases g with⟨kvs,k,e,ey,l⟩|⟨kvs,k,b,e,ey,eb,l⟩
 .subst ey;have(z,hd,C,d,m):=sL I.hok e;refine wpAny_notIn_of (qX p) hd m.mapOf ?_;rw[<-(d.val k).kU,<-l];exact h _ (I.tok _)
 .subst ey
  cases(show u=Value.ref b from p)
  have(z,hd,B,d,m):=xC I.hok e;refine wpAny_notIn_heap (QG t) (sN I.hok eb) hd m ?_;have q:=(d.val k).kU;rw[Sk]at q;rw[<-q,<-l];exact h _ (I.tok _)
theorem vQ (I:Inv X pins σ H s)(g:Js (H a))(hs:PL a s.heap h')(l:∃q,h'.get? a=some q)(new:eM X.prog X.w (upd H a d) h' a d):
  Inv X pins σ (upd H a d) {s with heap:=h',toks:=t'} :=
 I.write (x:=a) (e:=a) g (.inl rfl) (λb q m z=>(hs.2 b m).trans z) l new
theorem Cm (z:kvs.length<=mH)(hd:(a == OR)=false)(d:KV kvs vs)(e:h'.DictOf (bx P w) a vs):
  eM P w g h' a (.dK kvs):=#[z,hd,vs,d,e]
theorem A2 (T:A.units+1<Rf)(I:Inv X pins σ H s)(g:om H a y v O)(G:RelV y u)(J:RelV v r)(h:∀s',Inv X pins σ O s'->Q Unit.unit s'):
  Na (Nf X.prog X.w) A (setItem (.ref a) u r) Q E s:=by
 rcases g with⟨kvs,k,e,ey,l,eH⟩|⟨kvs,k,b,e,ey,eb,l,eH⟩
 .subst ey eH;have(z,hd,S,d,D):=GH I.hok e;have t:S.length<=mH:=by rw[<-d.length];exact z
  have C:(putK kvs k v).length<=mH:=by have:=mX kvs k v;omega
  refine wpAny_setItem_pairs (hsz:=t) (qX G) D λL m B=>h _ ?_;have U:∃q,L.get? a=some q:=let⟨q,_,_,p,_⟩:=m;#[q,p];exact vQ I (by rw[e];exact True.intro) B U (Cm C hd (d.put k J) m)
 .subst ey eH
  cases(show u=Value.ref b from G)
  have(z,hd,R,d,D):=JR I.hok e;have t:R.length<=mH:=by rw[<-Paired.length d];exact z
  have C:(putK kvs k v).length<=mH:=by have:=mX kvs k v;omega
  refine wpAny_setItem_heap (hsz:=t) (QG T) (sN I.hok eb) D λL m B=>h _ ?_;have(q,es,ep,p,Z,Y,W,_,V):=m;refine vQ I (by rw[e];exact True.intro) B #[q,p] #[C,hd,_,(d.put k eb J).keeps λc ys M=>?_,q,es,ep,p,Z,Y,W,V];rw[au (jt M e nofun)]
  exact M
def HV(i:Expr):Prop:=∀d e,Tq i false d e=operate [d,e] (Q2 d e)
theorem zP {T id:String}(hl:typeLookup (.type T) "__getitem__"=pure (some (.builtin id)))(hs:HV slice)(h:Na (Nf prog w) A (eval d p) (λo m=>Na (Nf prog w) A (eval slice p) (λi e=>e.TypeIs o T/\Na (Nf prog w) A (Q2 o i) Q E e) E m) E s):
  Na (Nf prog w) A (eval (.Subscript d slice u) p) Q E s:=by
 refine SX (Nz h (λo m t=>Nz t (λi e g=>?_) λ_ _ x=>x) λ_ _ x=>x);have(v,g):=g;unfold T8;refine cB ?_;rw[getitemInPython_of_ne v.not_modules];refine cB (wpAny_specialOf v hl ?_)
 have fin:Na (Nf prog w) A (Tq slice false o i) (λr l=>Na (Nf prog w) A (letTemporaryGo d o r>>=λ_=>pure r) Q E l) E e:=by
  rw[hs o i];exact wpAny_operating (Nz g (λr l q=>cB (wpAny_letTemporaryGo (vv q))) λ_ _ x=>x)
 first
  |exact vv (cB fin)
  |exact cB (vv (cB fin))
  |exact cB fin
theorem xD (I:Inv X d m H s)(g:cu H a y o):s.TypeIs (.ref a) "dict":=by
 rcases g with⟨kvs,k,e,_,_⟩|⟨kvs,k,b,e,_,_,_⟩
 .have(_,_,q,_,l):=sL I.hok e;exact l.typeIs
 .have(_,_,p,_,l):=xC I.hok e;exact l.typeIs
def MJ(x:V)(Q:VK):VK:=λy d=>∃a v,x=.ref a/\cu d a y (some v)/\Q v d
abbrev ML(ty:TE)(d:St)(Q:VK):VK:=λx e=>ty d e (MJ x Q)
abbrev JS(e ty:TE):TE:=λd H Q=>e d H (ML ty d Q)
def JT(l ty g:TE):TS:=λD d H=>g d H λv p=>l d p λx o=>ty d o λy m=>∃a e,x=.ref a/\om m a y v e/\D.nx d e
theorem jL {o i:Expr}{pos:Pos}{td ty:TE}(B:X.A.units+1<Rf)(C:PE X o td)(hi:PE X i ty)(hs:HV i):PE X (.Subscript o i pos) (JS td ty):=by
 intro d s m H Q I h;refine zP Sf.lookup hs (cR (C d s m H _ I h) λu q ⟨x,L,G,t,q1⟩=>cR (hi d q m L _ G q1) λS R ⟨y,J,p,r,a,v,ex,g,z⟩=>?_);subst ex;obtain rfl:u=Value.ref a:=t;exact#[xD p g,A1 B p g r λM O D l=>#[v,J,D,l,z]]
theorem pU {o i value:Expr}{pos pos':Pos}{td ty tv:TE}(J:X.A.units+1<Rf)(L:PE X o td)(hi:PE X i ty)(G:PE X value tv)(hs:Rm value (some (.Subscript o i pos')) pos.line X.env=pure false):
  PS X (.Assign [.Subscript o i pos'] value pos) (JT td ty tv):=by
 intro d s l H D I h;refine wpAny_Assign_Subscript (cR (G d s l H _ I h) λr p ⟨v,U,R,z,q1⟩=>cR (L d p l U _ R q1) λu m ⟨x,T,Q,t,C⟩=>cR (hi d m l T _ Q C) λY W ⟨y,Z,O,q,a,S,ex,g,B⟩=>?_) hs;subst ex;obtain rfl:u=Value.ref a:=t;exact A2 J O g q z λV M=>#[l,S,M,B]
theorem xE (h:Heap)(d:OR<h.objs.size):eM P w H (h.push {cls:=.type "dict",data:=.dict #[]}) h.objs.size (.dK []) :=
 #[Nn _,beq_eq_false_iff_ne.mpr (PK (Nt d)),[],.nil,Tc h]
def HX:TE:=λ_ H Q=>∀p,H p=none->Q (.ref p) (upd H p (.dK []))
theorem pV {pos:Pos}:PE X (.Dict [] [] pos) HX:=λd s e H Q I h =>
 wpAny_Dict_empty #[.ref s.heap.objs.size,_,I.laid (a:=s.heap.objs.size) (o:=.dK []) (t':=s.toks) (λ_ _ q=>tF _ q) (i5 _) (xE s.heap I.big),rfl,h _ (I.hok.fresh (i5 _))]
def yY:List (TE×TE)->St->Hp->(List (V×V)->Hp->Prop)->Prop
 | [],_,H,Q=>Q [] H
 |(tk,tv)::r,σ,H,Q=>tk σ H λx l=>tv σ l λy g=>yY r σ g λd e=>Q ((x,y)::d) e
abbrev VV:List (V×V)->List (eF×eF)->Prop:=Paired λp q=>RelV p.1 q.1/\RelV p.2 q.2
def KN(X:Cx)(m:Pos)(keys:List (Option Expr))(d:List Expr)(l:List (TE×TE)):Prop :=
 ∀(e:List (Addr×Obj)) (s:fy) (g:St) (H:Hp) (Q:List (V×V)->Hp->Prop),Inv X e g H s->yY l g H Q ->
  Na (Nf X.prog X.w) X.A (evalPairs (pairTrees keys d X.env m)) (λq r=>∃o p,Inv X e g p r/\VV o q/\Q o p) X.xe s
theorem EC :KN X d [] [] []:=λe s g H Q I h=>pairTrees_nil_walk #[[],H,I,.nil,h]
theorem mY (J:PE X k p)(G:PE X v o)(hr:KN X g ks vs e):
  KN X g (some k::ks) (v::vs) ((p,o)::e):=λd s l H Q I h =>
 pairTrees_cons_walk (cR (J d s l H _ I h) λu r ⟨x,T,O,z,q1⟩=>cR (G d r l T _ O q1) λV q ⟨y,S,M,t,C⟩ =>
  cR (hr d q l S _ M C) λU W ⟨D,R,L,m,B⟩=>#[(x,y)::D,R,L,.cons #[z,t] m,B])
noncomputable def oS(kvs more:List (Key×V)):List (Key×V):=more.foldl (λd e=>putK d e.1 e.2) kvs
theorem KV.merge :∀{more:List (Key×V)}{d:List (Key×eF)}{kvs:List (Key×V)}{vs:List (Key×eF)},KV more d->KV kvs vs->KV (oS kvs more) (merged vs d):=by
 intro more d kvs vs r;unfold KV at r
 induction r generalizing kvs vs with
 |nil=>intro q;exact q
 |@cons p q ps qs h t ih =>
  intro g
  have e:KV (putK kvs p.1 p.2) (stored vs q.1 q.2):=by
   have:=g.put p.1 h.2;rw[<-h.1];exact this
  exact ih e
theorem oK :∀(more kvs:List (Key×V)),(oS kvs more).length<=kvs.length+more.length
 | [],kvs=>by show kvs.length<=kvs.length+0;omega
 |p::r,kvs=>by
  have e:=oK r (putK kvs p.1 p.2);have d:=mX kvs p.1 p.2;show(oS (putK kvs p.1 p.2) r).length<=_;rw[Np];omega
theorem sO :∀{kvs:List (Key×V)}{e:List (eF×eF)},VV (kvs.map λg=>(kV g.1,g.2)) e->∃d,Carries (bx P w) e d/\KV kvs d
 | [],_,r=>by rw[OS]at r;cases r;exact#[[],True.intro,.nil]
 |p::kvs,_,r=>by
  rw[Nr]at r
  cases r with
  |@cons a b as bs h t =>
   have(d,c,q):=sO (P:=P) (w:=w) t;have(m,l):=b;exact#[(p.1,l)::d,#[qX h.1,rfl,c],.cons #[rfl,h.2] q]
def GI(e:List (TE×TE)):TE:=λm H Q=>∀p,H p=none->yY e m (upd H p (.dK [])) λo l=>l p=some (.dK [])/\∃d:List (Key×V),o=d.map (λg=>(kV g.1,g.2))/\d.length<=15/\Q (.ref p) (upd l p (.dK (oS [] d)))
theorem ED (h:KN X l keys d g)(r:keys.all (·.isSome)=true)(R:keys.length=d.length)(U:keys≠[])(h15:keys.length<=15):PE X (.Dict keys d l) (GI g):=by
 intro m s y H Q I q;have O:=I.hok.fresh (i5 s.heap.objs.size);have Y:=I.laid (a:=s.heap.objs.size) (o:=.dK []) (h':=s.heap.push {cls:=.type "dict",data:=.dict #[]}) (t':=s.toks) (λ_ _ q=>tF _ q) (i5 _) (xE s.heap I.big);refine wpAny_Dict_walk (knd:=bx X.prog X.w) r R U h15 (cR (h m _ y _ _ Y (q _ O)) λZ s2 ⟨ps,H2,v,u,e,p,V,lk,J⟩=>?_);subst V;have(C,c,D):=sO (P:=X.prog) (w:=X.w) u;have(z,hd,B,G,W):=GH v.hok e
 cases G
 refine#[C,c,W,λh' t M=>#[.ref s.heap.objs.size,_,?_,rfl,J]]
 have L:(oS [] p).length<=mH:=by
  have T:=oK p [];rw[Qa]at T;rw[Qk];omega
 have S:∃q,h'.get? s.heap.objs.size=some q:=let⟨q,_,_,hq,_⟩:=t;#[q,hq];exact vQ v (by rw[e];exact True.intro) M S (Cm L hd (D.merge .nil) t)
end L2
set_option maxHeartbeats 4000000
namespace L2
open PySem
inductive T where
 |s (x:Str)|i (n:Int)|n|t (xs:List T)
theorem T.induct {P:T->Prop}(hs:∀x,P (.s x))(hi:∀n,P (.i n))(hn:P .n)(ht:∀xs,(∀x∈xs,P x)->P (.t xs))(a:T):P a :=
 T.rec (motive_1:=P) (motive_2:=λxs=>∀x∈xs,P x) hs hi hn ht (λ_ h=>nomatch h) (λ_ _ g e y d=>by
  cases d with
  |head=>exact g
  |tail _ h=>exact e y h) a
mutual
noncomputable def T.dep:T->Nat
 |.t xs=>T.mZ xs+1
 |_=>0
noncomputable def T.mZ:List T->Nat
 | []=>0
 |x::r=>max x.dep (T.mZ r)
end
theorem T.Cn (h:x∈xs):x.dep<=T.mZ xs:=by
 induction xs with
 |nil=>cases h
 |cons y r ih =>
  unfold T.mZ
  cases h with
  |head=>exact Td _ _
  |tail _ h=>exact Nu (ih h) (SK _ _)
mutual
noncomputable def T.eqB:T->T->Bool
 |.s x,.s y=>x == y
 |.i m,.i k=>m == k
 |.n,.n=>true
 |.t xs,.t ys=>T.pW xs ys
 |_,_=>false
noncomputable def T.pW:List T->List T->Bool
 | [],[]=>true
 |x::r,y::q=>x.eqB y&&T.pW r q
 |_,_=>false
end
theorem T.xF (h:∀x∈xs,∀y,T.eqB x y=true↔x=y):∀ys,T.pW xs ys=true↔xs=ys:=by
 induction xs with
 |nil=>intro ys;cases ys<;>simp[T.pW]
 |cons x r ih =>
  intro ys
  cases ys with
  |nil=>simp[T.pW]
  |cons y q =>
   unfold T.pW;rw[NJ,h x (.head _) y,ih (λz d=>h z (.tail _ d)) q,List.cons.injEq]
theorem T.eqB_iff (a:T):∀b,T.eqB a b=true↔a=b:=by
 induction a using T.induct with
 |hs x=>intro b;cases b<;>simp[T.eqB]
 |hi x=>intro b;cases b<;>simp[T.eqB]
 |hn=>intro b;cases b<;>simp[T.eqB]
 |ht xs ih =>
  intro b
  cases b with
  |t ys=>unfold T.eqB;rw[T.xF ih ys,T.t.injEq]
  |_=>simp[T.eqB]
theorem T.Co (a:T):T.eqB a a=true:=(T.eqB_iff a a).mpr rfl
noncomputable instance:DecidableEq T:=λa b=>if h:T.eqB a b=true then .isTrue ((T.eqB_iff a b).mp h)else .isFalse λz=>h ((T.eqB_iff a b).mpr z)
theorem T.Cp (a b:List T):T.pW a b=decide (a=b):=by rw[QD,decide_eq_true_iff,T.xF (λx _=>T.eqB_iff x)]
theorem T.oU :∀(xs ys:List T),T.pW xs ys=((Pa (min xs.length ys.length)).all (λj=>T.eqB (xs.getD j .n) (ys.getD j .n))&&xs.length == ys.length)
 | [],[]=>rfl
 | [],y::q=>by simp[T.pW]
 |x::r,[]=>by simp[T.pW]
 |x::r,y::q=>by
  unfold T.pW;rw[T.oU r q,Np,Np,Nat.succ_min_succ,List.range_succ_eq_map,Sy,List.all_map];have e:(r.length+1 == q.length+1)=(r.length == q.length):=by simp
  rw[e,Bool.and_assoc];rfl
end L2
namespace L2
open PySem
inductive Hd where
 |num (n:Int)|name (x:Str)|gap (n:Int)|op (s:Str)|row|more|first|others|long|tag (t:Str)|call (f:Str)|mat (arms:List (Str×List Str))|ife|lt (x:Str)|fold (x y:Str)
inductive Tm where
 |mk (h:Hd) (ks:List Tm)
noncomputable def Tm.hd:Tm->Hd|.mk h _=>h
noncomputable def Tm.ks:Tm->List Tm|.mk _ ks=>ks
theorem Tm.induct {P:Tm->Prop}(g:∀h ks,(∀k∈ks,P k)->P (.mk h ks))(a:Tm):P a :=
 Tm.rec (motive_1:=P) (motive_2:=λd=>∀x∈d,P x) g (λ_ h=>nomatch h) (λ_ _ m l y e=>by
  cases e with
  |head=>exact m
  |tail _ h=>exact l y h) a
noncomputable def eR:Hd->Nat->Bool
 |.num _,n=>n == 0
 |.name _,n=>n == 0
 |.gap _,n=>n == 0
 |.op _,n=>n == 2
 |.row,_=>true
 |.more,n=>n == 2
 |.first,n=>n == 1
 |.others,n=>n == 1
 |.long,n=>n == 1
 |.tag _,_=>true
 |.call _,_=>true
 |.mat arms,n=>n == arms.length+1
 |.ife,n=>n == 3
 |.lt _,n=>n == 2
 |.fold _ _,n=>n == 3
inductive Wf:Tm->Prop
 |mk {h:Hd}{ks:List Tm}:eR h ks.length=true->(∀k∈ks,Wf k)->Wf (.mk h ks)
noncomputable def bnd:Hd->Nat->List (List Str)
 |.mat arms,_=>[]::arms.map (·.2)
 |.lt x,_=>[[],[x]]
 |.fold x y,_=>[[],[],[x,y]]
 |_,n=>Nb n []
noncomputable def oV(a:Str×List Str)(k:T):T:=.t [.s a.1,.t (a.2.map .s),k]
noncomputable def qI:Hd->List T->T
 |.num n,_=>.t [.s "num",.i n]
 |.name x,_=>.t [.s "name",.s x]
 |.gap n,_=>.t [.s "gap",.i n]
 |.op s,ks=>.t (.s "op"::.s s::ks)
 |.row,ks=>.t [.s "row",.t ks]
 |.more,ks=>.t (.s "more"::ks)
 |.first,ks=>.t (.s "first"::ks)
 |.others,ks=>.t (.s "others"::ks)
 |.long,ks=>.t (.s "long"::ks)
 |.tag t,ks=>.t [.s "tag",.s t,.t ks]
 |.call f,ks=>.t [.s "call",.s f,.t ks]
 |.mat arms,ks=>.t [.s "match",ks.headD .n,.t (Og oV arms ks.tail)]
 |.ife,ks=>.t (.s "if"::ks)
 |.lt x,ks=>.t (.s "let"::.s x::ks)
 |.fold x y,ks=>.t [.s "fold",ks.getD 0 .n,.s x,.s y,ks.getD 1 .n,ks.getD 2 .n]
mutual
noncomputable def enc:Tm->T
 |.mk h ks=>qI h (EE ks)
noncomputable def EE:List Tm->List T
 | []=>[]
 |k::r=>enc k::EE r
end
theorem xG :∀ks:List Tm,EE ks=ks.map enc
 | []=>rfl
 |k::r=>by unfold EE;rw[xG r];rfl
theorem cZ (h:Hd)(ks:List Tm):enc (.mk h ks)=qI h (ks.map enc):=by unfold enc;rw[xG]
mutual
noncomputable def Tm.size:Tm->Nat
 |.mk _ ks=>Tm.sizes ks+1
noncomputable def Tm.sizes:List Tm->Nat
 | []=>0
 |k::r=>k.size+Tm.sizes r
end
mutual
noncomputable def Tm.depth:Tm->Nat
 |.mk _ []=>0
 |.mk _ (k::r)=>Tm.m6 (k::r)+1
noncomputable def Tm.m6:List Tm->Nat
 | []=>0
 |k::r=>max k.depth (Tm.m6 r)
end
theorem Tm.eB (k:Tm)(r:List Tm):Tm.sizes (k::r)=k.size+Tm.sizes r:=by rw[Tm.sizes]
theorem Tm.ik (h:Hd)(ks:List Tm):(Tm.mk h ks).size=Tm.sizes ks+1:=by rw[Tm.size]
theorem Tm.oW (h:Hd)(k:Tm)(r:List Tm):(Tm.mk h (k::r)).depth=Tm.m6 (k::r)+1:=by rw[Tm.depth]
theorem Tm.pX :∀(a b:List Tm),Tm.sizes (a++b)=Tm.sizes a+Tm.sizes b
 | [],b=>by simp[Tm.sizes]
 |k::r,b=>by rw[Qq,Tm.eB,Tm.eB,Tm.pX r b];omega
theorem Tm.size_pos (a:Tm):0<a.size:=by cases a;unfold Tm.size;omega
theorem Tm.yZ {ks:List Tm}(h:k∈ks):k.depth<=Tm.m6 ks:=by
 induction ks with
 |nil=>cases h
 |cons y r ih =>
  unfold Tm.m6
  cases h with
  |head=>exact Td _ _
  |tail _ h=>exact Nu (ih h) (SK _ _)
theorem Tm.A3 {ks:List Tm}(m:k∈ks):k.depth<(Tm.mk h ks).depth:=by
 cases ks with
 |nil=>cases m
 |cons y r=>rw[Tm.oW];exact Nat.lt_succ_of_le (Tm.yZ m)
end L2
namespace L2
open PySem PySem.Spec PyProof.Rows
noncomputable def cC(d:Env):List (Str×Ql)->List (Str×Addr)->List (Str×Addr)
 | [],cs=>cs
 |(n,k)::r,cs=>cC d r (if k == .free then(n,(d.cells.lookup n).getD 0)::cs else cs)
theorem kH (h:∀x∈scope.names,x.2=.free->∃c,d.cells.lookup x.1=some c):closureFor scope d=pure (cC d scope.names []):=by
 have go:∀(l:List (Str×Ql)) (m:List (Str×Addr)),(∀x∈l,x.2=.free->∃c,d.cells.lookup x.1=some c) ->
   (forIn l m λx r=>if(x.2 == NameKind.free)=true then do let a ←cellOf d x.1;pure (ForInStep.yield ((x.1,a)::r))else pure (ForInStep.yield r):Sem (List (Str×Addr)))=pure (cC d l m):=by
  intro l
  induction l with
  |nil=>intro m _;rfl
  |cons x r ih =>
   intro m p;have(n,k):=x;rw[QE]
   by_cases q:k=.free
   .subst q;have(c,t):=p (n,.free) OF rfl;have e:cellOf d n=pure c:=by unfold cellOf;rw[show d.cells.lookup n=some c from t]
    simp only[beq_self_eq_true,if_true,e,pure_bind];rw[ih _ λy o=>p y (Oe _ o)];unfold cC;rw[show d.cells.lookup n=some c from t]
    cases r<;>rfl
   .have u:(k == NameKind.free)=false:=by simpa using q
    simp only[u,Px,if_false,pure_bind];rw[ih _ λy o=>p y (Oe _ o)]
    conv=>rhs;unfold cC
    simp only[u,Px,if_false]
 simp only[closureFor];have g:=go scope.names [] h;simp only[g];rfl
theorem iU :∀(l:List (Str×Ql)) (p:List (Str×Addr)),(∀x∈l,x.2=.free->∃c,d.cells.lookup x.1=some c)->(∀y c,p.lookup y=some c->d.cells.lookup y=some c) ->
  ∀y c,(cC d l p).lookup y=some c->d.cells.lookup y=some c
 | [],_,_,hc=>hc
 |(n,k)::r,p,hl,hc=>by
  refine iU r _ (λx t=>hl x (Oe _ t)) λy c e=>?_
  by_cases m:(k == NameKind.free)=true
  .rw[if_pos m]at e;rw[NK]at e
   by_cases q:y=n
   .subst q;simp only[beq_self_eq_true]at e;have(v,o):=hl (y,k) OF (by simpa using m);have g:d.cells.lookup y=some v:=o;rw[g]at e|-;exact e
   .have u:(y == n)=false:=beq_eq_false_iff_ne.mpr q;rw[u]at e;exact hc y c e
  .rw[if_neg m]at e;exact hc y c e
theorem oM :∀(l:List (Str×Ql)) (e:List (Str×Addr)) (y:Str),(∃c,e.lookup y=some c)->∃c,(cC d l e).lookup y=some c
 | [],_,_,h=>h
 |(n,k)::r,e,y,h=>by
  refine oM r _ y ?_
  by_cases g:(k == NameKind.free)=true
  .rw[if_pos g,NK]
   cases hb:(y == n)with
   |true=>exact#[_,rfl]
   |false=>exact h
  .rw[if_neg g];exact h
theorem pY :∀(l:List (Str×Ql)) (g:List (Str×Addr)) (y:Str),(y,NameKind.free)∈l->∃c,(cC d l g).lookup y=some c
 | [],_,_,h=>nomatch h
 |(n,k)::r,g,y,h=>by
  rcases M8.mp h with e|h
  .have o:y=n:=congrArg Prod.fst e;have m:NameKind.free=k:=congrArg Prod.snd e;subst o;subst m;refine oM r _ y #[(d.cells.lookup y).getD 0,?_];rw[if_pos (by rfl),NK,beq_self_eq_true]
  .exact pY r _ y h
theorem kI {d:Env}:∀{names:List (Str×Ql)}{x:Str}{g:Ql},(names.map λ(n,k)=>if(k == NameKind.free&&d.scope.kind == .function&&d.kindOf n == some .cell)then(n,NameKind.cell)else(n,k)).lookup x=some g ->
  names.lookup x=some g\/(g=.cell/\names.lookup x=some .free)
 | [],_,_,h=>by simp at h
 |(n,k)::r,x,g,h=>by
  have l:=@kI d r x g;change O6 x ((if(k == NameKind.free&&d.scope.kind == .function&&d.kindOf n == some .cell)=true then(n,NameKind.cell)else(n,k))::_)=_ at h
  cases hx:x == n with
  |true =>
   by_cases e:(k == NameKind.free&&d.scope.kind == .function&&d.kindOf n == some .cell)=true
   .rw[if_pos e]at h;simp only[NK,hx]at h
    cases h
    have m:k=.free:=by simp at e;exact e.1.1
    subst m;exact .inr #[rfl,by simp only[NK,hx]]
   .rw[if_neg e]at h;simp only[NK,hx]at h
    cases h
    exact .inl (by simp only[NK,hx])
  |false =>
   by_cases e:(k == NameKind.free&&d.scope.kind == .function&&d.kindOf n == some .cell)=true
   .rw[if_pos e]at h;simp only[NK,hx]at h|-;exact l h
   .rw[if_neg e]at h;simp only[NK,hx]at h|-;exact l h
theorem pZ {d:Env}:∀{names:List (Str×Ql)}{x:Str},names.lookup x=some .free ->
  (names.map λ(n,k)=>if(k == NameKind.free&&d.scope.kind == .function&&d.kindOf n == some .cell)then(n,NameKind.cell)else(n,k)).lookup x=some .cell \/
  (names.map λ(n,k)=>if(k == NameKind.free&&d.scope.kind == .function&&d.kindOf n == some .cell)then(n,NameKind.cell)else(n,k)).lookup x=some .free
 | [],_,h=>by simp at h
 |(n,k)::r,x,h=>by
  have g:=@pZ d r x;show O6 x ((if(k == NameKind.free&&d.scope.kind == .function&&d.kindOf n == some .cell)=true then(n,NameKind.cell)else(n,k))::_)=_\/O6 x ((if(k == NameKind.free&&d.scope.kind == .function&&d.kindOf n == some .cell)=true then(n,NameKind.cell)else(n,k))::_)=_
  cases hx:x == n with
  |true =>
   simp only[NK,hx]at h
   cases h
   by_cases e:(NameKind.free == NameKind.free&&d.scope.kind == .function&&d.kindOf n == some .cell)=true
   .rw[if_pos e];exact .inl (by simp only[NK,hx])
   .rw[if_neg e];exact .inr (by simp only[NK,hx])
  |false =>
   simp only[NK,hx]at h
   by_cases e:(k == NameKind.free&&d.scope.kind == .function&&d.kindOf n == some .cell)=true
   .rw[if_pos e];simp only[NK,hx];exact g h
   .rw[if_neg e];simp only[NK,hx];exact g h
theorem nh (I:Nat->fy->Prop)(turn:∀n s,I n s->Na (Nf prog w) A (Rn it) (λr p=>match r with
   |none=>R (.ok .next) p
   |some v=>Na (Nf prog w) A (OZ d it v) (λ_ o=>Na (Nf prog w) A (RV d g v) (λ_ u =>
     Na (Nf prog w) A (forIn C true λc r=>if r=true then do let ok ←isTrue c g (eval c g);pure (ForInStep.yield ok)else pure (ForInStep.yield r)) (λok l =>
      if ok=true then Na (Nf prog w) A (eval G g) (λx t =>
       Na (Nf prog w) A (call (.builtin "list.append") [H,x]) (λ_ q=>∃m,m<n/\I m q) E t) E l
      else ∃m,m<n/\I m l) E u) E o) E p) E s)(hE:∀e s',E e s'->notedBy (Nf prog w) A g (λe s'=>R (.error e) s') e s')(n:Nat)(h:I n s):
  O5 (Nf prog w) A (.compLoop (.ListComp G [#[d,y,C,0]] scope J) 0 it H g) R s:=by
 refine S5 rfl I (λn s Q=>?_) n h;show Na _ A ((Tt (.ListComp G [#[d,y,C,0]] scope J) 0 it H g).onRaise (λx=>do TU x g;theTreesLotGoes x)) _ _ s;refine Tu ?_;rw[compTurn_list];refine cB (OG (cB (Nz (turn n s Q) (λr p B=>?_) hE)))
 cases r with
 |none=>exact vv B
 |some v =>
  refine cB (Nz B (λ_ o D=>?_) hE);refine cB (Nz D (λ_ u O=>cB (Nz O (λok l z=>?_) hE)) hE)
  cases ok with
  |false=>exact vv #[rfl,z]
  |true =>
   exact cB (cB (Nz z (λx t M=>cB (Nz M (λ_ q L=>vv (vv #[rfl,L])) hE)) hE))
noncomputable def bL(X:Cx)(scope:OI)(g:List Str)(fp:List Addr)(C:Addr)(d:fy)(e:Hp):Cx where
 prog:=X.prog
 w:=X.w
 K:=X.K
 mg:=X.mg
 base:=X.base
 A:=X.A
 N:=g
 s₀:=d
 H₀:=e
 env:=Uu scope (cC X.env scope.names []) C X.env
 outer:=X.stack
 stack:=X.stack
 ex:=fp
 fn:=λ_=>false
 calm:=X.calm
 pn:=[]
 xe:=λ_ _=>False
def vR(X:Cx)(g:List Expr)(t:TT):Prop :=
 ∀(d:List (Addr×Obj)) (s:fy) (e:St) (H:Hp) (Q:Bool->Hp->Prop),Inv X d e H s->t e H Q ->
  Na (Nf X.prog X.w) X.A (forIn g true λc r=>if r=true then do let ok ←isTrue c X.env (eval c X.env);pure (ForInStep.yield ok)else pure (ForInStep.yield r)) (TP X d e Q) X.xe s
def uT:TT:=λ_ H Q=>Q true H
theorem fZ :vR X [] uT:=λd s e H Q I h=>by
 rw[Q4];exact vv #[H,I,h]
theorem xH {c:Expr}{t:TT}(g:PT X c t):vR X [c] t:=λd s e H Q I h=>by
 simp only[QE,Q4,if_true];exact cB (cB (Nz (g d s e H Q I h) (λb m l=>vv (vv l)) λ_ _ x=>x))
noncomputable def iV(own:Nat)(fr:List Nat)(d:St):St:=Nb own none++fr.map λj=>(d[j]?).join
def mC(J:It)(g:TG)(z:TT)(B:TE)(Q:VK)(r:St)(D:Hp):Prop:=∃W:Nat->Nat->St->List V->Hp->Prop,(∃m,W 0 m r [] D)/\∀i m l e H,W i m l e H ->
 (J.stop i H/\e.length<=mH/\∀p,H p=none->Q (.ref p) (upd H p (.lst e))) \/
 (J.go i H/\e.length<mH/\∃N:St->List V->Hp->Prop,(∀d o q,N d o q->∃t,t < m/\W (i+1) t d o q)/\∀x y,J.yld i H x y->g x l y λd q=>z d q λok u =>
  if ok=true then B d u λv C=>N d (e++[v]) C else N d e u)
def uU(own:Nat)(fr:List Nat)(e:TI)(g:TG)(l:TT)(m:TE):TE:=λd H Q=>e d H λJ o=>mC J g l m Q (iV own fr d) o
theorem Cq {X:Cx}(r:σ.length=X.N.length){i:Nat}(g:(own++fr.map λj=>X.N.getD j NB)[i]?=some x)(d:(iV own.length fr σ)[i]?=some (some v)):
  ∃j∈fr,X.N[j]?=some x/\X.N.getD j NB=x/\σ[j]?=some (some v):=by
 unfold iV at d
 by_cases m:i<own.length
 .rw[NY (by simpa using m),PY,if_pos m]at d
  cases d
 .rw[NN (by simpa using m),OM,EF]at d;rw[NN (),EF]at g
  cases e:fr[i-own.length]? with
  |none=>rw[e]at d;cases d
  |some j =>
   rw[e]at g d;simp only[RH,Q5]at g d
   have p:σ[j]?=some (some v):=by
    cases q:σ[j]? with
    |none=>rw[q]at d;cases d
    |some o=>rw[q]at d;exact congrArg some d
   have l:j<X.N.length:=by rw[<-r];exact(bH.mp p).1
   refine#[j,M9 e,?_,g,p];rw[<-g,Om,my l];rfl
theorem oX (I:Inv X pins σ H s)(hkind:scope.kind=.function)(hcell:∀x∈scope.names,x.2≠.cell)(hfr:∀x∈scope.names,x.2=.free->X.env.scope.names.lookup x.1=some .cell\/X.env.scope.names.lookup x.1=some .free)(hin:∀j∈fr,scope.names.lookup (X.N.getD j NB)=some .free)(hC:s.heap.objs.size<=C)(hf:∀b∈fp,oh X pins H b)(hfo:∀b∈fp,b<s.heap.objs.size)(old:∀b o,s.heap.get? b=some o->d.get? b=some o)(hn:d.Ns C m):
  Inv (bL X scope (own++fr.map λj=>X.N.getD j NB) fp C s H) [] (iV own.length fr σ) H {s with heap:=d,toks:=Y}:=by
 have B:∀x∈scope.names,x.2=.free->∃c,X.env.cells.lookup x.1=some c:=λx G e=>I.ok.has x.1 (hfr x G e);have sub:∀y c,(cC X.env scope.names []).lookup y=some c->X.env.cells.lookup y=some c:=iU _ _ B (by intro y c e;simp at e);have g:∀y,scope.names.lookup y=some .free->∃c,(cC X.env scope.names []).lookup y=some c:=λy e=>pY _ _ _ (OH e)
 refine#[#[I.ok.mod,?_,I.ok.glob,I.ok.blt,hC,λx y c T S=>I.ok.inj x y c (sub x c T) (sub y c S),λx G=>?_,(λx c G=>nomatch G),I.ok.hd,I.ok.frames,.inl rfl,λb D=>?_,I.bs,Nu I.ok.bsz I.sz,λb o e D=>?_,λb D z=>?_,I.stack,I.vG],
  rfl,I.bare,Un.kept old,#[m,hn,λi x v T S h3=>?_],λx c e=>?_,I.hok.fresh hC,λx c e=>I.freeC x c (sub x c e),λp Z=>absurd (show p∈([]:List (Addr×Obj))from Z) (by simp),I.hok.kept old,?_]
 .exact hkind
 .have O:(relabel scope X.env).names.lookup x=some .cell\/(relabel scope X.env).names.lookup x=some .free:=G
  have M:scope.names.lookup x=some .free:=by
   rcases O with e|e
   .rcases kI e with e|⟨_,e⟩
    .exact absurd rfl (hcell _ (OH e))
    .exact e
   .rcases kI e with e|⟨z,_⟩
    .exact e
    .cases z
  exact g x M
 .refine#[Nt (Nd (hfo b D) hC),λx c e=>(hf b D).2.2.2.2.1 x c (sub x c e)]
 .rcases(hf b D).2.2.2.1 with z|z
  .exact I.ok.noex b o e z
  .exact absurd (Nd (L0 e) (Nu I.ok.bsz z)) (N7 _)
 .have J:b∈fp:=D;have W:b∈frs X.stack:=z;rcases M8.mp (I.qC b W)with e|e
  .exact(hf b J).2.1 e
  .exact(hf b J).2.2.1 e
 .have(j,hj,e1,e2,e3):=Cq (own:=own) I.len T S;have t:scope.names.lookup x=some .free:=by rw[<-e2];exact hin j hj
  have V:=hfr _ (OH t) rfl;have(m0,aa,R):=I.loc;have(u,r,l):=R j x v e1 e3 (.inr V);refine#[u,r,?_];rcases l with⟨k,_⟩|⟨_,c,ec,z⟩
  .have U:X.env.scope.names.lookup x=some .local:=k;rcases V with q|q<;>(rw[show X.env.scope.names.lookup x=_ from q]at U;cases U)
  .have(c',L):=g x t;have:=sub x c' L;rw[ec]at this
   cases this
   have(o,Q,hd):=z;exact .inr #[pZ t,c,L,o,old c o Q,hd]
 .have(v,o,Q,hd):=I.cell x c (sub x c e);exact#[v,o,old c o Q,hd]
 .show(iV own.length fr σ).length=(own++fr.map λj=>X.N.getD j NB).length;simp[iV]
theorem sQ (I:Inv X pins σ H s)(y:∀b∈fp,oh X pins H b)(I':Inv (bL X scope S fp C s H) l σ' r s')(hC:s.heap.objs.size<=C)(hD:s.heap.objs.size<=D)(hDC:D≠C)(hDn:r D=none)(pl:s'.heap.PlainList D ys)(rv:Vals vs ys.toList)(hz:vs.length<=mH)(hs:PL C s'.heap h''):
  Inv X pins σ (upd r D (.lst vs)) {s' with heap:=h''}:=by
 have un:Un (frs X.stack) fp H r s.heap s'.heap:=I'.base;have t:r C=none:=I'.free;have at':∀b,b≠C->h''.get? b=s'.heap.get? b:=λb g=>hs.2 b g;have m:∀b o,s.heap.get? b=some o->b≠C:=λb o e=>Nt (Nd (L0 e) hC);have G:∀b o,s.heap.get? b=some o->b≠D:=λb o e=>Nt (Nd (L0 e) hD);have d:∀b u,H b=some u->b≠D:=λb u e=>Nt (Nd (I.hok.lt e) hD)
 have B:Un (frs X.stack) fp H (upd r D (.lst vs)) s.heap h'':=by
  refine#[λb o e n L p=>?_,λb o e n L p=>?_,λb o e n p=>?_,λb o e p=>?_,λb M e=>?_,λb o u e=>?_,λb O e=>?_]
  .rw[at' b (m b o e)];exact un.keep b o e n L p
  .rw[at' b (m b o e)];exact un.slot b o e n L p
  .rw[au (G b o e)];exact un.free b o e n p
  .rw[at' b (m b o e)];exact un.there b o e p
  .rw[au (d b _ e)];exact un.tups b M e
  .rw[au (d b _ e)];exact un.frzs b o u e
  .rw[au (d b _ e)];exact un.tbls b O e
 have J:mQ X.prog X.w (upd r D (.lst vs)) h'':=λb u e=>by
  by_cases g:b=D
  .subst g;rw[af]at e
   cases e
   have(n,Q):=pl;refine#[hz,ys.toList,n,rv,?_];rw[at' b hDC]
   simpa using Q
  .rw[au g]at e;refine(I'.hok b u e).stay (λc v R q=>?_) (λc q=>?_) λc M q=>?_
   .rw[at' c ?_];exact q;rintro rfl;rcases R with z|z
    .rw[<-z,t]at e;cases e
    .rw[t]at z;cases z
   .rw[au (λz=>by rw[z,hDn]at q;cases q)];exact q
   .rw[au (λz=>by rw[z,hDn]at q;cases q)];exact q
 exact I.Gy (s':={s' with heap:=h''}) (ch:=fp) I'.os B J I'.bare λb g=>#[(y b g).2.2.2.1,(y b g).2.1,(y b g).2.2.2.2.1,(y b g).2.2.2.2.2]
theorem xJ {ak:Pos}(own:List Str)(fr:List Nat)(hc:X.calm=true)(hkind:scope.kind=.function)(hcell:∀x∈scope.names,x.2≠.cell)(hnames:∀x∈scope.names,x.2=.local->scope.names.lookup x.1=some .local)(hfr:∀x∈scope.names,x.2=.free->X.env.scope.names.lookup x.1=some .cell\/X.env.scope.names.lookup x.1=some .free)(hin:∀j∈fr,scope.names.lookup (X.N.getD j NB)=some .free)(hi:PI X tg t wi)(hg:∀fp C s H,PG (bL X scope (own++fr.map λj=>X.N.getD j NB) fp C s H) tg g)(ht:∀fp C s H,vR (bL X scope (own++fr.map λj=>X.N.getD j NB) fp C s H) Z tt)(he:∀fp C s H,PE (bL X scope (own++fr.map λj=>X.N.getD j NB) fp C s H) am te)(hs:∀x,NV t X.env x=pure x)(I:Inv X pins σ H s)(h:uU own.length fr wi g tt te σ H Q)(fin:∀{fp:List Addr}{C:Addr}{l s4:fy}{G H3:Hp}{S:St}{vs:List V}{ys:Array eF}{pn:Nat}{pl:List (Addr×Obj)},Inv X pins σ G l->(∀b∈fp,oh X pins G b)->Inv (bL X scope (own++fr.map λj=>X.N.getD j NB) fp C l G) pl S H3 s4->l.heap.objs.size<=C->l.heap.objs.size≠C->H3 l.heap.objs.size=none->s4.heap.get? l.heap.objs.size=some {cls:=.type "list",data:=.seq ys pn}->Vals vs ys.toList->vs.length<=mH->Q (.ref l.heap.objs.size) (upd H3 l.heap.objs.size (.lst vs))->compPost (Nf X.prog X.w) X.A X.xe U R (.ref l.heap.objs.size) C (.ok .next) s4):
  Na (Nf X.prog X.w) X.A (comprehension (.ListComp am [#[tg,t,Z,0]] scope ak) scope X.env (firstIterPos [#[tg,t,Z,0]] ak) (newList []) (firstAsync [#[tg,t,Z,0]]) (firstIter [#[tg,t,Z,0]] X.env) U) R X.xe s:=by
 have ad:∀x∈scope.names,x.2=.free->∃c,X.env.cells.lookup x.1=some c:=λx hx e=>I.ok.has x.1 (hfr x hx e);refine QB (use:=U) rfl hs (kH ad) hkind hnames ?_;refine cR (hi pins s σ H _ I h) λv s1 h1=>cR h1 λbc l h2=>?_;have(it,fp,tn,J,G,e,I2,T,ap,f2,W,(m0,w0),ag):=h2;subst e;have av:∀b∈fp,b<l.heap.objs.size:=λb D=>by have(o,e,_):=T.obj 0 _ ap b D;exact L0 e
 refine NL (Rz hcell (by intro y hy;simp at hy) (λL B m=>?_) hkind);dsimp only at B m|-;generalize hH2:l.heap.push {cls:=.type "list",dict:=none,data:=.seq ([]:List eF).toArray}=G2 at B m|-;have hC:G2.objs.size=l.heap.objs.size+1:=by rw[<-hH2,Oc]
 have ae:l.heap.objs.size≠G2.objs.size:=by rw[hC];exact Nt (O1 _)
 have ai:l.heap.objs.size<=G2.objs.size:=by rw[hC];exact Ot _
 have ar:∀b o,l.heap.get? b=some o->L.get? b=some o:=λb o e=>m.extBut b o (by rw[hC];exact Nt (Q6 (L0 e))) (tF _ (hH2▸tF _ e));have aw:L.PlainList l.heap.objs.size #[]:=#[_,m.extBut _ _ ae (tF _ (hH2▸Nc _ rfl))]
 have I3:Inv (bL X scope (own++fr.map λj=>X.N.getD j NB) fp G2.objs.size l G) [] (iV own.length fr σ) G {l with heap:=L,toks:=l.toks+([]:List (Str×eF)).length} :=
  oX I2 hkind hcell hfr hin ai f2 av ar B
 have ab:tn 0 L:=T.keep 0 _ _ ap λb _ o e=>ar b o e;have ay:l.heap.objs.size∉fp:=λhm=>N7 _ (av _ hm);have ax:G l.heap.objs.size=none:=I2.hok.fresh (i5 _);have sub:∀y c,(cC X.env scope.names []).lookup y=some c->X.env.cells.lookup y=some c:=iU _ _ ad (by intro y c e;simp at e)
 have ao:∀y c,(cC X.env scope.names []).lookup y=some c->c≠l.heap.objs.size:=λy c e=>by
  have(_,o,ho,_):=I2.cell y c (sub y c e);exact Nt (L0 ho)
 have ba:l.heap.objs.size∉frs X.stack:=λz=>by
  rcases M8.mp (I2.qC _ z)with e|e
  .exact absurd I2.lt (by rw[<-e];exact N7 _)
  .exact I2.B3 (i5 _) e
 -- the iterator's records,in the block's context
 have aa:∀{H':Hp}{pl:List (Addr×Obj)},(∀b∈fp,H' b=none)->(∀p∈pl,p.1=l.heap.objs.size)->∀b∈fp,oh (bL X scope (own++fr.map λj=>X.N.getD j NB) fp G2.objs.size l G) pl H' b:=λ{H' pl} hn hp b D=>by
  refine#[hn b D,(I3.ok.exf b D).1,I3.ok.exfs b D,.inl D,(I3.ok.exf b D).2,λp a7 z=>?_];have as:p∈pl:=by simpa[bL]using a7
  exact ay (by rw[<-hp p as,z];exact D)
 have aq:∀{Y:St}{H':Hp}{s':fy}{ys:Array eF}{n:Nat},Inv (bL X scope (own++fr.map λj=>X.N.getD j NB) fp G2.objs.size l G) [] Y H' s'->H' l.heap.objs.size=none->s'.heap.get? l.heap.objs.size=some {cls:=.type "list",data:=.seq ys n} ->
   Inv (bL X scope (own++fr.map λj=>X.N.getD j NB) fp G2.objs.size l G) [(l.heap.objs.size,{cls:=.type "list",data:=.seq ys n})] Y H' s':=λ{Y H' s' ys n} J hn e=>J.fu λp hp=>by
  have e':p=(l.heap.objs.size,{cls:=.type "list",data:=.seq ys n}):=by simpa using hp
  subst e';exact#[e,hn,ae,ba,λv z=>nomatch z]
 have ah:O5 (Nf X.prog X.w) X.A (.compLoop (.ListComp am [#[tg,t,Z,0]] scope ak) 0 (.ref it) (.ref l.heap.objs.size) (Uu scope (cC X.env scope.names []) G2.objs.size X.env))
   (compPost (Nf X.prog X.w) X.A X.xe U R (.ref l.heap.objs.size) G2.objs.size) {l with heap:=L,toks:=l.toks+([]:List (Str×eF)).length}:=by
  refine nh (E:=λ_ _=>False) (λn s'=>∃i Y H' vs ys,Inv (bL X scope (own++fr.map λj=>X.N.getD j NB) fp G2.objs.size l G) [] Y H' s'/\tn i s'.heap/\(∀b∈fp,H' b=none)/\H' l.heap.objs.size=none/\s'.heap.PlainList l.heap.objs.size ys/\Vals vs ys.toList/\W i n Y vs H')
   ?_ (λ_ _ z=>z.elim) m0 #[0,_,G,[],#[],I3,ab,λb D=>(f2 b D).1,ax,aw,.nil,w0]
  rintro n s3 ⟨i,S,H3,vs,ys,J3,ab,az,an,⟨pn,a5⟩,rv,w3⟩;have a0:=aq J3 an a5
  have M:∀p∈[(l.heap.objs.size,({cls:=.type "list",data:=.seq ys pn}:Obj))],p.1=l.heap.objs.size:=λp hp=>by
   have e':p=(l.heap.objs.size,{cls:=.type "list",data:=.seq ys pn}):=by simpa using hp
   rw[e']
  rcases ag i n S vs H3 w3 with⟨stop,hz,q⟩|⟨go,hz,N,hN,step⟩
  .refine cR (T.done (bL X scope (own++fr.map λj=>X.N.getD j NB) fp G2.objs.size l G) rfl rfl rfl hc i _ s3 S H3 (λ_ _=>False) a0 (aa az M) ab stop) λr s4 ⟨hr,J4⟩=>?_;subst hr;exact fin I2 f2 J4 ai ae an (J4.pin (l.heap.objs.size,{cls:=.type "list",data:=.seq ys pn}) (we _ (by simp))).1 rv hz (q _ an)
  .refine cR (T.item (bL X scope (own++fr.map λj=>X.N.getD j NB) fp G2.objs.size l G) rfl rfl rfl hc i _ s3 S H3 (λ_ _=>False) a0 (aa az M) ab go) λr s4 ⟨u,hr,h4⟩=>?_;subst hr;refine cR h4 λ_ s5 ⟨x,H5,J5,r5,y5,aj,a8⟩=>?_;have a9:=J5.pinned (aa a8 M) (T.obj _ _ aj);refine cR (hg fp _ l G _ s5 S H5 x u _ a9 r5 (step x H5 y5)) λ_ s6 ⟨O,H6,J6,q6⟩=>?_;refine cR (ht fp _ l G _ s6 O H6 _ J6 q6) λok s7 ⟨H7,J7,q7⟩=>?_
   -- what stood pinned through the ag
   have after:∀{s8:fy}{H8:Hp},Inv (bL X scope (own++fr.map λj=>X.N.getD j NB) fp G2.objs.size l G) ([(l.heap.objs.size,({cls:=.type "list",data:=.seq ys pn}:Obj))]++jU fp s5.heap) O H8 s8 ->
     tn (i+1) s8.heap/\(∀b∈fp,H8 b=none)/\H8 l.heap.objs.size=none/\s8.heap.get? l.heap.objs.size=some {cls:=.type "list",data:=.seq ys pn}:=λ{s8 H8} J8=>by
    refine#[T.keep _ _ _ aj λb D o e=>(J8.pin (b,o) (we _ (we _ (fc D e)))).1,λb D=>?_,?_,?_]
    .have(o,e,d):=T.obj _ _ aj b D;exact(J8.pin (b,o) (we _ (we _ (fc D e)))).2.1
    .exact(J8.pin (l.heap.objs.size,{cls:=.type "list",data:=.seq ys pn}) (we _ (NG _ (by simp)))).2.1
    .exact(J8.pin (l.heap.objs.size,{cls:=.type "list",data:=.seq ys pn}) (we _ (NG _ (by simp)))).1
   cases ok with
   |false =>
    have(m',hm,w7):=hN _ _ _ q7;have(a1,a2,a3,a4):=after J7;exact#[m',hm,i+1,O,H7,vs,ys,J7.fu (λp hp=>absurd hp (by simp)),a1,a2,a3,#[pn,a4],rv,w7]
   |true =>
    refine cR (he fp _ l G _ s7 O H7 _ J7 q7) λy s8 ⟨v8,H8,J8,r8,n8⟩=>?_;have(m',hm,w8):=hN _ _ _ n8;have(a1,a2,a3,a4):=after J8;have J9:Inv (bL X scope (own++fr.map λj=>X.N.getD j NB) fp G2.objs.size l G) [] O H8 s8:=J8.fu (λp hp=>absurd hp (by simp))
    have a6:ys.size<=mH:=by
     have e1:vs.length=ys.toList.length:=rv.length;have e2:ys.toList.length=ys.size:=by simp
     omega
    refine wpAny_list_append_plain (hsz:=a6) #[pn,a4] λbb al ac=>?_
    refine#[m',hm,i+1,O,H8,vs++[v8],ys.push y,J9.turned (t':=s8.toks) (it:=l.heap.objs.size) (λb o D e=>by rw[ac.2 b D];exact e) a3 ae (.inr (i5 _)) ao (λp hp=>absurd (show p∈([]:List (Addr×Obj))from hp) (by simp)),
     T.keep _ _ _ a1 λb D o e=>(ac.2 b (λz=>ay (z▸D))).trans e,a2,a3,al,?_,w8]
    have:Vals (vs++[v8]) (ys.toList++[y]):=rv.append (.cons r8 .nil)
    simpa using this
 exact codeAny_compStart_list ah (T.self X.A 0 _ _ _ ab ah)
theorem EG (own:List Str)(fr:List Nat)(O:X.calm=true)(hkind:scope.kind=.function)(hcell:∀x∈scope.names,x.2≠.cell)(hnames:∀x∈scope.names,x.2=.local->scope.names.lookup x.1=some .local)(hfr:∀x∈scope.names,x.2=.free->X.env.scope.names.lookup x.1=some .cell\/X.env.scope.names.lookup x.1=some .free)(hin:∀j∈fr,scope.names.lookup (X.N.getD j NB)=some .free)(hi:PI X o d y)(hg:∀fp C s H,PG (bL X scope (own++fr.map λj=>X.N.getD j NB) fp C s H) o g)(ht:∀fp C s H,vR (bL X scope (own++fr.map λj=>X.N.getD j NB) fp C s H) e z)(he:∀fp C s H,PE (bL X scope (own++fr.map λj=>X.N.getD j NB) fp C s H) m B)(hs:∀x,NV d X.env x=pure x:=by intro _;rfl):PE X (.ListComp m [#[o,d,e,0]] scope p) (uU own.length fr y g z B):=by
 intro D s U H Q I h;rw[eval_ListComp];refine xJ own fr O hkind hcell hnames hfr hin hi hg ht he hs I h λT R G l u v S J M q=>?_;have(L,t,_):=id G.loc;exact#[L,t,λV r=>#[.ref _,_,sQ T R G l (i5 _) u v #[_,S] J M r,rfl,q]]
noncomputable def ni(scope d:OI)(e:List Str)(fr:List Nat):Bool :=
 scope.kind == .function&&scope.names.all (λx=>x.2 != .cell&&(x.2 != .local||scope.names.lookup x.1 == some .local)&&(x.2 != .free||d.names.lookup x.1 == some .cell||d.names.lookup x.1 == some .free)) &&
  fr.all (λj=>scope.names.lookup (e.getD j NB) == some .free)
theorem kW {o d q:Expr}{l:List Expr}{scope:OI}{r:Pos}{v:TI}{g:TG}{y:TT}{B:TE}(D:OI)(p own:List Str)(fr:List Nat)(L:X.calm=true)(u:X.env.scope=D)(M:X.N=p)(ok:ni scope D p fr=true)(hi:PI X q d v)(hg:∀fp C s H,PG (bL X scope (own++fr.map λj=>p.getD j NB) fp C s H) q g)(ht:∀fp C s H,vR (bL X scope (own++fr.map λj=>p.getD j NB) fp C s H) l y)(he:∀fp C s H,PE (bL X scope (own++fr.map λj=>p.getD j NB) fp C s H) o B)(hs:∀x,NV d X.env x=pure x:=by intro _;rfl):PE X (.ListComp o [#[q,d,l,0]] scope r) (uU own.length fr v g y B):=by
 subst u M;unfold ni at ok;simp only[NJ,NO,bne_iff_ne,beq_iff_eq,Qc]at ok;have((I,t),G):=ok;refine EG own fr L I (λx m=>(t x m).1.1) (λx m e=>?_) (λx m e=>?_) (λj J=>G j J) hi hg ht he hs
 .rcases(t x m).1.2 with z|z
  .exact absurd e z
  .exact z
 .rcases(t x m).2 with(z|z)|z
  .exact absurd e z
  .exact .inl z
  .exact .inr z
theorem vS (n:Nat)(o:Nat->St->List V->Hp->Prop)(L:o 0 σ0 [] H0)(t:∀i d vs H,i<=n->o i d vs H->vs.length<=i)(hn:n<=mH)(B:∀i d vs H,i<n->o i d vs H->J.go i H)(z:∀d vs H,o n d vs H->J.stop n H)(hs:∀i d vs H x u,i<n->o i d vs H->J.yld i H x u->g x d u λl D=>tt l D λok C=>if ok=true then te l C λv M=>o (i+1) l (vs++[v]) M else o (i+1) l vs C)(hd:∀d vs H,o n d vs H->∀p,H p=none->Q (.ref p) (upd H p (.lst vs))):mC J g tt te Q σ0 H0:=by
 refine#[λi m d vs H=>m=n-i/\i<=n/\o i d vs H,#[n,by simp,Nn _,L],?_];rintro i m d vs H ⟨rfl,I,p⟩;have O:=t i d vs H I p
 by_cases r:i<n
 .exact .inr #[B i d vs H r p,(),o (i+1),λl G D q=>#[n - (i+1),(),rfl,r,q],λx u y=>hs i d vs H x u r p y]
 .have e:i=n:=()
  subst e;exact .inl #[z d vs H p,(),hd d vs H p]
theorem lN (l:Nat->St->List V->Hp->Prop)(t:l 0 σ0 [] H0)(m:∀i e vs H,i<=n->l i e vs H->vs.length<=i)(hn:n<=mH)(hs:∀i e vs H,i<n->l i e vs H->g (.int (o+i)) e H λd z=>tt d z λok q=>if ok=true then te d q λv u=>l (i+1) d (vs++[v]) u else l (i+1) d vs q)(hd:∀e vs H,l n e vs H->∀p,H p=none->Q (.ref p) (upd H p (.lst vs))):mC (Ht o n) g tt te Q σ0 H0 :=
 vS n l t m hn (λ_ _ _ _ h _=>h) (λ_ _ _ _=>i5 _) (λi e vs H x B r p y=>by have(rfl,rfl):=y;exact hs i e vs _ r p) hd
theorem kX {K:bN}(l:Nat->St->List V->Hp->Prop)(t:l 0 σ0 [] H0)(m:∀i d vs H,i<=xs.length->l i d vs H->vs.length<=i)(hn:xs.length<=mH)(q:∀i d vs H,i<=xs.length->l i d vs H->bQ K H a xs)(hs:∀i x d vs H,xs[i]?=some x->l i d vs H->g x d H λe z=>tt e z λok r=>if ok=true then te e r λv u=>l (i+1) e (vs++[v]) u else l (i+1) e vs r)(hd:∀d vs H,l xs.length d vs H->∀p,H p=none->Q (.ref p) (upd H p (.lst vs))):mC (GA K a) g tt te Q σ0 H0:=by
 refine vS xs.length l t m hn (λi d vs H o p=>#[xs,xs[i],q i d vs H (Ol o) p,by simp[o]]) (λd vs H p=>#[xs,q _ d vs H (i5 _) p,i5 _]) (λi d vs H x B o p y=>?_) hd;have(rfl,y):=y;exact hs i x d vs _ (y xs (q i d vs _ (Ol o) p)) p
structure qY(h:Heap) (lo:Nat) (xs ys:Array eF) (as:List Nat):Prop where
 rise:as.Pairwise (· < ·)
 low:∀a∈as,lo<=a
 pairs:∀(j:Nat) (a:Nat),as[j]?=some a->∃x y,xs[j]?=some x/\ys[j]?=some y/\Qe h a x y
theorem qY.lt (g:qY h d xs ys as)(m:a∈as):a<h.objs.size:=by
 have(j,l):=List.mem_iff_getElem?.mp m;have(_,_,_,_,e):=g.pairs j a l;exact L0 e
theorem qY.keep (g:qY h d xs ys as)(k:∀c o,d<=c->h.get? c=some o->h'.get? c=some o):qY h' d xs ys as :=
 #[g.rise,g.low,λj a e=>by
  have(x,y,p,m,l):=g.pairs j a e;exact#[x,y,p,m,k a _ (g.low a (M9 e)) l]]
theorem qY.snoc (g:qY h d xs ys as)(k:∀c o,d<=c->h.get? c=some o->h'.get? c=some o)(hn:d<=n)(l:h.objs.size<=n)(q:xs[as.length]?=some x)(p:ys[as.length]?=some y)(r:Qe h' n x y):
  qY h' d xs ys (as++[n]):=by
 have u:=g.keep k;refine#[List.pairwise_append.mpr #[g.rise,QN _ _,λa m b t=>?_],λa m=>?_,λj a e=>?_]
 .rw[IF.mp t];exact Nd (g.lt m) l
 .rcases M7.mp m with h|h
  .exact g.low a h
  .rw[IF.mp h];exact hn
 .rcases Nat.lt_trichotomy j as.length with hj|hj|hj
  .rw[NY hj]at e;exact u.pairs j a e
  .subst hj;rw[NN (i5 _),S6]at e
   cases e
   exact#[x,y,q,p,r]
  .rw[Rh (by rw[i4,Rg];omega)]at e;cases e
theorem vU :∀{ys:List Str}{us:List eF},Vals (ys.map V.str) us->StrsAre us ys
 | [],_,.nil=>.nil
 |_::_,_,.cons ⟨t,e⟩ r=>by subst e;exact .cons _ t (vU r)
def rJoin(K:bN):V->List V->Hp->VK->Prop:=λx e H Q=>∃z p d,x=.str z/\e=[.ref p]/\bQ K H p (d.map V.str)/\(d.map (·.length)).sum+d.length*z.length<=16777216/\Q (.str (Txt.join z d)) H
theorem EH :KI X "str.join" (rJoin X.K):=by
 intro d s C H x G v J Q I e m h;have(z,p,D,rfl,rfl,y,B,q):=h;have(t,rfl):=e;have(u,rfl,l):=vals1 m
 cases l
 have(r,g,o,M):=I.list y;exact join_list o.isList (by simpa using vU g) B λL k=>#[.str _,H,I.tok _,#[_,rfl],q]
theorem sR :∀{bs:List Bool}{us:List eF},Vals (bs.map V.bl) us->LSm.BoolsAre us bs
 | [],_,.nil=>.nil
 |_::_,_,.cons e r=>by cases e;exact .cons _ (sR r)
theorem Cr (G:X.calm=true):iQ X (.builtin "all") (λxs H Q=>∃(p:Addr) (bs:List Bool),xs=[.ref p]/\bQ X.K H p (bs.map V.bl)/\Q (.bl (bs.all id)) H):=by
 intro m s L H xs M Q I r h;have(p,bs,rfl,C,q):=h;have(u,rfl,z):=vals1 r
 cases z
 have(d,y,B,S):=I.list C;have o:=sR y;have l:=B.isList;have g:p<s.heap.objs.size:=by have(_,e,_):=l;exact L0 e
 refine call_all_walk (QV l ?_)
 refine#[s.heap.objs.size,[s.heap.objs.size,p],[s.heap.objs.size],d.toArray.size,_,_,λi=>(bs[i]?).getD true,rfl,Walks.list (A:=X.A.in1) (I.ok.hd G) _ p (Nt g) d.toArray,
  #[#[_,Nc _ rfl,rfl,rfl],l.push _],λi v R U W J t=>?_,λT O D=>?_]
 .have(b,e,rfl):=o.get i v (by simpa using J);simp only[e,Option.getD_some]at t;exact PM t
 .have e:((Pa d.toArray.size).all λi=>(bs[i]?).getD true)=bs.all id:=by
   rw[M6,o.length];exact LSm.range_all bs
  rw[e];exact#[.bl _,H,I.kept (LSm.kept_iter D),rfl,q]
def Lp:V->Option Int->Option Int->Hp->VK->Prop:=λx d e H Q=>∃z,x=.str z/\z.length<=mH/\Q (.str (O4 z d e)) H
theorem part_of (h:Sw v o):∃p:Option (Int×Tok),v=partValue p/\p.map (·.1)=o:=by
 cases h with
 |none=>exact#[none,rfl,rfl]
 |int i t=>exact#[some (i,t),rfl,rfl]
theorem Cs :BW X Lp:=by
 intro d s D H x v J G O R M Q I m y p o h;have(z,rfl,r,q):=h;have(t,rfl):=m;have(g,rfl,C):=part_of p;have(e,rfl,B):=part_of o;refine#["str",_,PySem.F.slot_str_getitem.lookup,typeIs_str s z t,?_];refine wpAny_getItem_str_slice (l:=g) (u:=e) (st:=none) y rfl ?_;subst C B
 cases g<;>cases e<;>exact post_val_or_str #[Nu (Txt.slice_le z _ _) r,λL k=>#[.str _,H,I.tok _,#[_,rfl],q]]
noncomputable def uV(xs:List V)(d hi st:Option Int):List V:=(R8 (Oj d hi st xs.length).1 (Oj d hi st xs.length).2.1 (Oj d hi st xs.length).2.2).filterMap (xs[·]?)
theorem qJ (r:Vals xs us):∀d:List Nat,Vals (d.filterMap (xs[·]?)) (d.filterMap (us[·]?))
 | []=>.nil
 |i::d=>by
  rw[OX,OX]
  cases e:xs[i]? with
  |none=>rw[r.none_of e];exact qJ r d
  |some x =>
   have(u,l,g):=r.get e;rw[l];exact .cons g (qJ r d)
def Lq(K:bN)(te:TE)(tl th tk:TO):TE:=λd H Q=>te d H λx r=>tl d r λl q=>th d q λu o=>tk d o λk m=>∃a g,x=.ref a/\bQ K m a g/\k≠some 0/\(uV g l u k).length<=mH /\
 ∀p,m p=none->Q (.ref p) (upd m p (.lst (uV g l u k)))
theorem A4 {e st:Expr}{lo hi:Option Expr}{te:TE}{tl th tk:TO}{p2 pos:Pos}(he:PE X e te)(hl:PO X lo tl)(hu:PO X hi th)(hk:PO X (some st) tk):PE X (.Subscript e (.Slice lo hi (some st) p2) pos) (Lq X.K te tl th tk):=by
 intro d s g H Q I h;refine SX (cR (he d s g H _ I h) λv O ⟨x,H1,I1,R,q1⟩=>?_);refine wpAny_Slice (cR (hl d O g H1 _ I1 q1) λG M ⟨l,H2,I2,Y,V⟩=>cR (hu d M g H2 _ I2 V) λD L ⟨u,H3,I3,W,U⟩=>cR (hk d L g H3 _ I3 U) λJ m ⟨k,H4,I4,Z,S⟩=>?_);have(a,y,rfl,hx,k0,z,q):=S
 cases R
 have B:Inv X d g H4 {m with heap:=m.heap.push {cls:=.type "slice",data:=.fields #[G,D,J,]}}:=I4.kept (t':=m.toks) λb ob q=>tF _ q;have(p,r,C,hz):=B.list hx;have t:=r.length;refine tail_any (T:="list") (ops:=[.ref a,.ref m.heap.objs.size]) C.isList.typeIs Sj.lookup ?_ (by with_unfolding_all rfl);refine Sx C.isList (R4 ..) Y W Z k0 ?_ (by rw[M6]<;>omega)
 have ep:UH p.toArray l u k=((R8 (Oj l u k y.length).1 (Oj l u k y.length).2.1 (Oj l u k y.length).2.2).filterMap (p[·]?)).toArray:=by
  unfold UH;rw[M6,<-t];simp
 rw[ep];refine#[.ref _,_,B.laid (t':=m.toks) (o:=.lst (uV y l u k)) (λb ob q=>tF _ q) (i5 _) ?_,rfl,q _ (B.hok.fresh (i5 _))];exact#[z,_,0,qJ r _,Nc _ rfl]
theorem EI {st:Option Int}(h:R8 (Oj d hi st xs.length).1 (Oj d hi st xs.length).2.1 (Oj d hi st xs.length).2.2=e):uV xs d hi st=e.filterMap (xs[·]?):=by
 unfold uV;rw[h]
noncomputable def EJ:Expr->Option Str
 |.Constant (.str x) _ _=>some x
 |_=>none
noncomputable def strsOf:List Expr->Option (List Str)
 | []=>some []
 |e::r=>(EJ e).bind λx=>(strsOf r).map (x::·)
def Ct(xs:List Str):TA:=λ_ H Q=>Q (xs.map V.str) H
theorem EK (h:EJ e=some x):∃j p,e=.Constant (.str x) j p:=by
 unfold EJ at h
 split at h
 .cases h;exact#[_,_,rfl]
 .cases h
theorem zQ :∀{xs:List Str},strsOf d=some xs->PA X d (Ct xs):=by
 induction d with
 |nil=>intro xs h;cases h;exact aA
 |cons e r ih =>
  intro xs h;unfold strsOf at h
  cases h1:EJ e with
  |none=>rw[h1]at h;cases h
  |some x =>
   cases h2:strsOf r with
   |none=>rw[h1,h2]at h;cases h
   |some ys =>
    rw[h1,h2]at h
    cases h
    have(j,p,rfl):=EK h1;exact bI aH (ih h2) rfl
end L2
namespace L2
open PySem PySem.Spec PyProof.Rows PySem.SeqAt
theorem xK :∀{bs:List Bool}{us:List eF},Vals (bs.map V.bl) us->us=bs.map Value.bool
 | [],us,r=>by cases r;rfl
 |d::ds,us,r=>by
  cases r with
  |cons a b =>
   have z:=xK b;subst z;exact congrArg (·::_) a
mutual
def Rp(K:bN)(H:Hp):T->V->Prop
 |.s x,v=>v=.str x
 |.i n,v=>v=.int n
 |.n,v=>v=.eN
 |.t xs,v=>∃a d,v=.ref a/\cH K H a d/\bO K H xs d
def bO(K:bN)(H:Hp):List T->List V->Prop
 | [],vs=>vs=[]
 |x::r,vs=>∃v q,vs=v::q/\Rp K H x v/\bO K H r q
end
noncomputable def Kt(H e:Hp):Prop:=∀a d,Rd H a (.tup d)->Rd e a (.tup d)
theorem Kt.refl :Kt H H:=λ_ _ h=>h
theorem Kt.trans (a:Kt H g)(b:Kt g e):Kt H e:=λc d h=>b c d (a c d h)
theorem Kt.same (s:aT H d):Kt H d:=λa g h=>h.elim (λe=>.inl (s _ _ e)) λ⟨o,e⟩=>.inr #[o,s _ _ e]
theorem Kt.new {H:Hp}{p:Addr}(h:H p=none)(o:HO):Kt H (upd H p o):=λa d r=>r.elim (λe=>.inl (by rw[au (ay e h)];exact e)) λ⟨u,e⟩=>.inr #[u,by rw[au (ay e h)];exact e]
theorem Kt.upd {H:Hp}{l:Addr}{u:HO}(h:H l=some u)(g:∀xs,u≠.tup xs)(d:∀o xs,u≠.nH o (.tup xs))(o:HO):Kt H (upd H l o):=λa xs r=>by
 rcases r with e|⟨p,e⟩
 .exact .inl (by rw[au (jt e h λz=>g _ z.symm)];exact e)
 .exact .inr #[p,by rw[au (jt e h λz=>d _ _ z.symm)];exact e]
theorem Kt.lst (h:H l=some (.lst xs))(o:HO):Kt H (L2.upd H l o):=Kt.upd h (λ_ z=>nomatch z) (λ_ _ z=>nomatch z) o
theorem cH.kt {K:bN}(k:Kt H H')(h:cH K H a xs):cH K H' a xs:=h.elim (λe=>.inl (k _ _ e)) .inr
theorem bO.all {K:bN}(f:∀{x v},Rp K H x v->Rp K H' x v):∀{xs:List T}{vs:List V},bO K H xs vs->bO K H' xs vs
 | [],vs,h=>by unfold bO at h|-;exact h
 |x::r,vs,h=>by
  unfold bO at h|-;have(v,q,e,g,d):=h;exact#[v,q,e,f g,bO.all f d]
theorem bO.nil {K:bN}:bO K H [] []:=by unfold bO;rfl
theorem bO.cons {K:bN}{H:Hp}{x:T}{v:V}{r:List T}{q:List V}(h:Rp K H x v)(t:bO K H r q):bO K H (x::r) (v::q):=by unfold bO;exact#[v,q,rfl,h,t]
theorem bO.inv {K:bN}(h:bO K H (x::r) vs):∃v q,vs=v::q/\Rp K H x v/\bO K H r q:=by unfold bO at h;exact h
theorem bO.jk {K:bN}(h:bO K H [] vs):vs=[]:=by unfold bO at h;exact h
theorem Rp.s {K:bN}:Rp K H (.s x) (.str x):=by unfold Rp;rfl
theorem Rp.i {K:bN}:Rp K H (.i n) (.int n):=by unfold Rp;rfl
theorem Rp.eN {K:bN}:Rp K H .n .eN:=by unfold Rp;rfl
theorem Rp.t {K:bN}(h:cH K H a vs)(r:bO K H xs vs):Rp K H (.t xs) (.ref a):=by unfold Rp;exact#[a,vs,rfl,h,r]
theorem Rp.aJ {K:bN}(h:Rp K H (.s x) v):v=.str x:=by unfold Rp at h;exact h
theorem Rp.jI {K:bN}(h:Rp K H (.i n) v):v=.int n:=by unfold Rp at h;exact h
theorem Rp.aS {K:bN}(h:Rp K H (.t xs) v):∃a vs,v=.ref a/\cH K H a vs/\bO K H xs vs:=by unfold Rp at h;exact h
theorem Rp.kt {K:bN}(k:Kt H H'):∀{v:V},Rp K H x v->Rp K H' x v:=by
 induction x using T.induct with
 |hs x=>intro v h;rw[h.aJ];exact .s
 |hi x=>intro v h;rw[h.jI];exact .i
 |hn=>intro v h;unfold Rp at h;rw[h];exact .eN
 |ht xs ih =>
  intro v h;have(a,d,rfl,hs,hr):=h.aS;refine .t (hs.kt k) ?_;clear hs h
  induction xs generalizing d with
  |nil=>rw[hr.jk];exact .nil
  |cons x r ih2 =>
   have(v,q,rfl,l,g):=hr.inv;exact .cons (ih x (.head _) l) (ih2 (λy e=>ih y (.tail _ e)) _ g)
theorem bO.kt {K:bN}(k:Kt H H')(h:bO K H xs vs):bO K H' xs vs:=bO.all (λh=>h.kt k) h
theorem bO.length {K:bN}:∀{xs:List T}{vs:List V},bO K H xs vs->vs.length=xs.length
 | [],vs,h=>by rw[h.jk];rfl
 |x::r,vs,h=>by
  have(v,q,rfl,_,d):=h.inv;rw[Np,Np,bO.length d]
theorem bO.get {K:bN}:∀{xs:List T}{vs:List V}{i:Nat}{x:T},bO K H xs vs->xs[i]?=some x->∃v,vs[i]?=some v/\Rp K H x v
 | [],vs,i,x,h,e=>by simp at e
 |x::r,vs,0,y,h,e=>by
  have(v,q,rfl,m,_):=h.inv;simp at e;subst e;exact#[v,rfl,m]
 |x::r,vs,i+1,y,h,e=>by
  have(v,q,rfl,_,l):=h.inv;have(w,g,d):=bO.get (i:=i) l (by simpa using e);exact#[w,by simpa using g,d]
theorem bO.get' {K:bN}:∀{xs:List T}{vs:List V}{i:Nat}{v:V},bO K H xs vs->vs[i]?=some v->∃x,xs[i]?=some x/\Rp K H x v:=λ{xs vs i v} h e=>by
 have l:=h.length
 have d:i<xs.length:=by
  rcases Nat.lt_or_ge i vs.length with z|z
  .omega
  .rw[Qt.mpr z]at e;cases e
 have(w,g,m):=h.get (my d);rw[e]at g;cases g;exact#[_,my d,m]
theorem bO.append {K:bN}:∀{xs ys:List T}{vs d:List V},bO K H xs vs->bO K H ys d->bO K H (xs++ys) (vs++d)
 | [],ys,vs,d,h,g=>by rw[h.jk];exact g
 |x::r,ys,vs,d,h,g=>by
  have(v,q,rfl,l,e):=h.inv;exact .cons l (bO.append e g)
theorem bO.one {K:bN}(h:Rp K H x v):bO K H [x] [v]:=.cons h .nil
theorem bO.snoc {K:bN}(h:bO K H xs vs)(g:Rp K H x v):bO K H (xs++[x]) (vs++[v]):=h.append (.one g)
theorem bO.drop {K:bN}:∀{xs:List T}{vs:List V}(n:Nat),bO K H xs vs->bO K H (xs.drop n) (vs.drop n)
 |xs,vs,0,h=>h
 | [],vs,n+1,h=>by rw[h.jk];exact .nil
 |x::r,vs,n+1,h=>by
  have(v,q,rfl,_,d):=h.inv;exact bO.drop n d
theorem bO.take {K:bN}:∀{xs:List T}{vs:List V}(n:Nat),bO K H xs vs->bO K H (xs.take n) (vs.take n)
 |xs,vs,0,h=>.nil
 | [],vs,n+1,h=>by rw[h.jk];exact .nil
 |x::r,vs,n+1,h=>by
  have(v,q,rfl,e,d):=h.inv;exact .cons e (bO.take n d)
theorem bO.split {K:bN}:∀{xs ys:List T}{vs:List V},bO K H (xs++ys) vs->∃d us,vs=d++us/\bO K H xs d/\bO K H ys us
 | [],ys,vs,h=>#[[],vs,rfl,.nil,h]
 |x::r,ys,vs,h=>by
  have(v,q,rfl,m,l):=bO.inv h;have(d,us,rfl,g,e):=bO.split l;exact#[v::d,us,rfl,.cons m g,e]
theorem bO.reverse {K:bN}:∀{xs:List T}{vs:List V},bO K H xs vs->bO K H xs.reverse vs.reverse
 | [],vs,h=>by rw[h.jk];exact .nil
 |x::r,vs,h=>by
  have(v,q,rfl,e,d):=h.inv;rw[PR,PR];exact(bO.reverse d).snoc e
theorem bO.strs {K:bN}:∀(xs:List Str),bO K H (xs.map .s) (xs.map .str)
 | []=>.nil
 |_::r=>.cons .s (bO.strs r)
theorem bO.qb {K:bN}:∀{xs:List Str}{vs:List V},bO K H (xs.map .s) vs->vs=xs.map .str
 | [],vs,h=>h.jk
 |x::r,vs,h=>by
  have(v,q,rfl,e,d):=bO.inv h;rw[e.aJ,bO.qb d];rfl
theorem Rp.inj {s:fy}(I:Inv X pins σ H s)(a:T):∀(b:T) {v:V},Rp X.K H a v->Rp X.K H b v->a=b:=by
 induction a using T.induct with
 |hs x =>
  intro b v h g;rw[h.aJ]at g
  cases b with
  |s y=>have z:=g.aJ;injection z with z;rw[z]
  |i y=>have z:=g.jI;cases z
  |n=>unfold Rp at g;cases g
  |t ys=>have(_,_,z,_):=g.aS;cases z
 |hi x =>
  intro b v h g;rw[h.jI]at g
  cases b with
  |s y=>have z:=g.aJ;cases z
  |i y=>have z:=g.jI;injection z with z;rw[z]
  |n=>unfold Rp at g;cases g
  |t ys=>have(_,_,z,_):=g.aS;cases z
 |hn =>
  intro b v h g;unfold Rp at h;rw[h]at g
  cases b with
  |s y=>have z:=g.aJ;cases z
  |i y=>have z:=g.jI;cases z
  |n=>rfl
  |t ys=>have(_,_,z,_):=g.aS;cases z
 |ht xs ih =>
  intro b v h g;have(p,u,rfl,hs,hr):=h.aS
  cases b with
  |t ys =>
   have(M,J,e,l,d):=g.aS
   cases e
   have e:=I.qE hs l;subst e
   congr 1
   clear hs l h g
   induction xs generalizing ys u with
   |nil =>
    have z:=hr.jk;subst z
    cases ys with
    |nil=>rfl
    |cons y q=>have(_,_,z,_):=d.inv;cases z
   |cons x r ih2 =>
    have(v,q,rfl,G,D):=hr.inv
    cases ys with
    |nil=>cases d.jk
    |cons y q' =>
     have(L,B,e,o,m):=d.inv
     cases e
     rw[ih x (.head _) y G o,ih2 (λz C=>ih z (.tail _ C)) _ D _ m]
  |_=>unfold Rp at g;cases g
theorem gJ (p:US h a d):h.IsTuple a d:=p
theorem uW (r:Vals us d)(e:us[j]?=some v){h:j<d.toArray.size}:RelV v d.toArray[j]:=by
 have(u,l,g):=r.get e
 have z:d.toArray[j]=u:=by
  have q:d[j]?=some d.toArray[j]:=by
   rw[my (by simpa using h)];simp
  rw[l]at q;exact(Ng q).symm
 rw[z];exact g
noncomputable def zR(s:fy)(K:bN)(H:Hp)(x:T):Prop:=∀(b:T) {u v:V}{e d:eF}(A:Nq),A.units+x.dep<Rf->Rp K H x u->Rp K H b v->RelV u e->RelV v d->EqAt A s e d (x.eqB b)
theorem uX {X:Cx}(t:∀x∈xs,zR s X.K H x)(z:A.units+T.mZ xs<Rf)(hr:bO X.K H xs us)(e:bO X.K H ys l)(r:Vals us d)(o:Vals l its')(j:Nat)(h1:j<d.toArray.size)(h2:j<its'.toArray.size):EqAt A s d.toArray[j] its'.toArray[j] (T.eqB (xs.getD j .n) (ys.getD j .n)):=by
 have l1:us.length=d.length:=r.length;have l2:l.length=its'.length:=o.length;have l3:=hr.length;have I:=e.length;have C:j<d.length:=by simpa using h1
 have B:j<its'.length:=by simpa using h2
 have g:j<xs.length:=()
 have p:j<ys.length:=()
 have(v,y,q):=hr.get (my g);have(w,u,m):=e.get (my p);have G:xs.getD j .n=xs[j]:=by simp[g]
 have D:ys.getD j .n=ys[j]:=by simp[p]
 rw[G,D];exact t _ (NP g) _ A (R7 (TX (T.Cn (NP g)) _) z) q m (uW r y) (uW o u)
theorem A5 (I:Inv X pins σ H s)(y:∀x∈xs,zR s X.K H x)(B:A.units+1+T.mZ xs<Rf)(hs:cH X.K H p us)(hr:bO X.K H xs us)(t:cH X.K H q m)(l:bO X.K H ys m):
  RcAt A s (.ref p) (.ref q) (T.pW xs ys):=by
 have(g,r,v,_):=I.tuple hs;have(d,u,o,_):=I.tuple t;have z:=RcAt.tuples (A:=A) (gJ v) (gJ o) () (e:=λj=>T.eqB (xs.getD j .n) (ys.getD j .n)) (uX (A:=A.in1) y (by show A.units+1+_<_;exact B) hr l r u);have l1:us.length=g.length:=r.length;have l2:m.length=d.length:=u.length;have l3:=hr.length;have G:=l.length;rw[T.oU];have D:g.toArray.size=xs.length:=by simp;omega
 have C:d.toArray.size=ys.length:=by simp;omega
 rw[D,C]at z;exact z
theorem Cu (I:Inv X pins σ H s)(O:∀x∈xs,zR s X.K H x)(Q:A.units+1+T.mZ xs<Rf)(hs:bQ X.K H p us)(hr:bO X.K H xs us)(D:bQ X.K H q B)(t:bO X.K H ys B):
  RcAt A s (.ref p) (.ref q) (T.pW xs ys)/\RcNeAt A s (.ref p) (.ref q) (!T.pW xs ys):=by
 have(m,r,M,_):=I.list hs;have(g,J,C,_):=I.list D;have z:s.heap.IsList p m.toArray:=by obtain⟨o,n,e,c,-,d⟩:=M;exact#[o,e,c,n,d]
 have y:s.heap.IsList q g.toArray:=by obtain⟨o,n,e,c,-,d⟩:=C;exact#[o,e,c,n,d]
 have l1:us.length=m.length:=r.length;have l2:B.length=g.length:=J.length;have l3:=hr.length;have R:=t.length;have G:m.toArray.size=xs.length:=by simp;omega
 have L:g.toArray.size=ys.length:=by simp;omega
 have l:=uX (A:=A.in1) O (by show A.units+1+_<_;exact Q) hr t r J;rw[T.oU]
 by_cases e:xs.length=ys.length
 .have v:=RcAt.lists (A:=A) z y () () (e:=λj=>T.eqB (xs.getD j .n) (ys.getD j .n)) l;have u:=RcNeAt.lists (A:=A) z y () () (e:=λj=>T.eqB (xs.getD j .n) (ys.getD j .n)) l;rw[G]at v u;rw[show min xs.length ys.length=xs.length by omega,show(xs.length == ys.length)=true by simpa using e,Bool.and_true];exact#[v,u]
 .have v:=RcAt.lists_lengths (A:=A) z y (by rw[G,L];simpa using e) ();have u:=RcNeAt.lists_lengths (A:=A) z y (by rw[G,L];simpa using e) ();rw[show(xs.length == ys.length)=false by simpa using e,Tr];exact#[v,u]
theorem Lr (I:Inv X pins σ H s)(a:T):zR s X.K H a:=by
 induction a using T.induct with
 |hs x =>
  intro b u v G D A B h g l d;rw[h.aJ]at l;have(t,rfl):=l
  cases b with
  |s y=>rw[g.aJ]at d;have(o,rfl):=d;unfold T.eqB;exact EqAt.str_str _ _ _ _
  |i y=>rw[g.jI]at d;have(o,rfl):=d;unfold T.eqB;exact EqAt.str_int _ _ _ _
  |n=>unfold Rp at g;rw[g]at d;cases d;unfold T.eqB;exact EqAt.str_none _ _
  |t ys =>
   have(q,C,rfl,hs,hr):=g.aS
   cases d
   have(r,_,m,_):=I.tuple hs;unfold T.eqB;exact EqAt.str_tuple _ _ (gJ m) ()
 |hi x =>
  intro b u v G D A B h g l d;rw[h.jI]at l;have(t,rfl):=l
  cases b with
  |s y=>rw[g.aJ]at d;have(o,rfl):=d;unfold T.eqB;exact EqAt.int_str _ _ _ _
  |i y=>rw[g.jI]at d;have(o,rfl):=d;unfold T.eqB;exact EqAt.int_int _ _ _ _
  |n=>unfold Rp at g;rw[g]at d;cases d;unfold T.eqB;exact EqAt.int_none _ _
  |t ys =>
   have(q,C,rfl,hs,hr):=g.aS
   cases d
   have(r,_,m,_):=I.tuple hs;unfold T.eqB;exact EqAt.int_tuple _ _ (gJ m) ()
 |hn =>
  intro b u v G D A B h g l d;unfold Rp at h;rw[h]at l
  cases l
  cases b with
  |s y=>rw[g.aJ]at d;have(o,rfl):=d;unfold T.eqB;exact EqAt.none_str _ _
  |i y=>rw[g.jI]at d;have(o,rfl):=d;unfold T.eqB;exact EqAt.none_int _ _
  |n=>unfold Rp at g;rw[g]at d;cases d;unfold T.eqB;exact EqAt.same _
  |t ys =>
   have(q,C,rfl,hs,hr):=g.aS
   cases d
   have(r,_,m,_):=I.tuple hs;unfold T.eqB;exact EqAt.none_tuple (gJ m) ()
 |ht xs ih =>
  intro b u v G D A B h g l d;have(p,O,rfl,hs,hr):=h.aS
  cases l
  have(r,M,m,_):=I.tuple hs
  cases b with
  |s y=>rw[g.aJ]at d;have(o,rfl):=d;unfold T.eqB;exact EqAt.tuple_str _ _ (gJ m) ()
  |i y=>rw[g.jI]at d;have(o,rfl):=d;unfold T.eqB;exact EqAt.tuple_int _ _ (gJ m) ()
  |n=>unfold Rp at g;rw[g]at d;cases d;unfold T.eqB;exact EqAt.tuple_none (gJ m) ()
  |t ys =>
   have(q,C,rfl,J,L):=g.aS
   cases d
   by_cases e:p=q
   .subst e;have z:=Rp.inj I _ _ h g;rw[z,T.Co];exact EqAt.same _
   .unfold T.dep at B;unfold T.eqB;exact EqAt.of_refs e (A5 I ih () hs hr J L)
noncomputable def Ls(K:bN):R2:=λx y H Q=>∃p q d e l g,x=.ref p/\y=.ref q/\bQ K H p l/\bO K H d l/\bQ K H q g/\bO K H e g/\T.mZ d<=149/\Q (.bl (!decide (d=e))) H
theorem HY (C:X.A.units+150<Rf):mK X (Ox .NotEq) (Ls X.K):=by
 intro pins s σ H x y v u Q I e d h;have(p,q,t,r,B,z,rfl,rfl,o,m,l,g,hd,k):=h;obtain rfl:v=Value.ref p:=e;obtain rfl:u=Value.ref q:=d;rw[<-T.Cp]at k;exact(Cu I (A:=X.A) (λx _=>Lr I x) () o m l g).2 X.prog X.w X.xe _ #[.bl _,H,I,rfl,k]
theorem dj.Cv (r:dj k A):A.units+150<Rf:=by have:=r.un;omega
end L2
namespace L2
open PySem PySem.Spec PyProof.Rows
theorem Jm {A:Prop}(e:b=true)(h:A):if b=true then A else B:=by rw[if_pos e];exact h
theorem ux {A:Prop}(e:b=false)(h:B):if b=true then A else B:=by rw[if_neg (by rw[e];exact Nk)];exact h
theorem zS {e:Pos}{d:List Expr}{k:Nat}{t:Ek}{n:Nat}(K:bN)(m:X.K=K)(l:X.calm=true)(h:Jx X d t)(hn:(QF d X.env).length=n:=by rfl)(g:(QF d X.env).findIdx? (·.1)=none:=by rfl):PG X (.Tuple d k e) (El K n t):=by
 subst m;exact Hr l h hn g
theorem vV (K:bN)(d:X.K=K):Cd X (Ew K):=by subst d;exact aP
theorem Cw (K:bN)(d:X.K=K):Cd X (HM K):=by subst d;exact br
theorem Cy (K:bN)(d:X.K=K):BW X (JO K):=by subst d;exact rR
theorem EL (K:bN)(d:X.K=K):BW X (JK K):=by subst d;exact vK
theorem sS (K:bN)(d:X.K=K):mK X (Ox .In) (Li K false):=by subst d;exact gq
theorem oN (K:bN)(d:X.K=K):iQ X (.builtin "len") (λxs H Q=>∃p ys,xs=[.ref p]/\(bQ K H p ys\/cH K H p ys)/\Q (.int ys.length) H):=by subst d;exact aL
def GJ(w:Ni):List O7->List (Str×V)->Prop
 | [],kvs=>kvs=[]
 |e::r,kvs=>∃x v q,kvs=(x,v)::q/\(∃t,e.key=.str x t)/\e.hash=hashStr w x/\RelV v e.val/\GJ w r q
def KD(K:bN)(w:Ni)(d:Addr)(kvs:List (Str×V)):Prop :=
 ∃(e:Array O7) (n:Nat),K.lookup d=some {cls:=.type "dict",dict:=none,data:=.dict e n,slots:=#[]}/\GJ w e.toList kvs/\(kvs.map (·.1)).Nodup/\(d == OR)=false
theorem GJ.keys :∀{g:List O7}{kvs:List (Str×V)},GJ w g kvs->∃vs:List (Str×eF),Pairs (Pj P w) g vs/\(∀e∈g,∃k,(Pj P w).is k e.key=true/\e.hash=(Pj P w).hash k)/\vs.map (·.1)=kvs.map (·.1) /\
  ∀k,lC (kvs.lookup k) (Qp vs k)
 | [],kvs,h=>by
  obtain rfl:kvs=[]:=h;exact#[[],.nil,(λ_ h=>nomatch h),rfl,λ_=>trivial]
 |e::r,kvs,h=>by
  have(x,v,q,rfl,(t,o),p,m,hr):=h;have(vs,C,B,y,u):=GJ.keys (P:=P) hr;have l:(Pj P w).is x e.key=true:=by rw[o];exact(by simp[Pj,Sq]:(Pj P w).is x (.str x t)=true)
  refine#[(x,e.val)::vs,.cons l rfl C,λG d=>?_,by rw[Nr,Nr,y],λk=>?_]
  .cases d with
   |head=>exact#[x,l,p]
   |tail _ d=>exact B G d
  .rw[NK]
   by_cases c:k=x
   .subst c;rw[beq_self_eq_true];simp only[Qp,Ob,decide_true,RH];exact m
   .rw[beq_false_of_ne c];have z:=u k
    have D:Qp ((x,e.val)::vs) k=Qp vs k:=by
     simp only[Qp,Ob];rw[decide_eq_false (λq=>c q.symm)]
    rw[D];exact z
theorem KD.dict {K:bN}(D:KD K w d kvs)(X:K.In h):∃vs,h.DictOf (Pj P w) d vs/\(d == OR)=false/\∀k,lC (kvs.lookup k) (Qp vs k):=by
 have(t,n,e,l,g,hd):=D;have(vs,r,q,p,o):=GJ.keys (P:=P) l;exact#[vs,#[_,t,n,X _ _ e,#[rfl,rfl,rfl],rfl,λu m=>q u (by simpa using m),r,by rw[p];exact g],hd,o]
theorem zT :(Pj P w).is x (.str x t)=true:=by simp[Pj,Sq]
def Lu(K:bN)(w:Ni):R2:=λx y H Q=>∃k d e,x=.str k/\y=.ref d/\KD K w d e/\Q (.bl (e.lookup k).isSome) H
theorem lC.EM (r:lC a b):b.isSome=a.isSome:=by
 cases a<;>cases b<;>first|rfl|exact r.elim
theorem EN :mK X (Ox .In) (Lu X.K X.w):=by
 intro g s r H x y v u Q I m l h;have(k,d,o,rfl,rfl,D,q):=h;have(t,rfl):=m;obtain rfl:u=Value.ref d:=l;have(z,p,hd,e):=D.dict (P:=X.prog) I.sy;refine wpAny_in_of zT hd p.mapOf ?_;rw[(e k).EM];exact#[.bl _,H,I.tok _,rfl,q]
def JU(K:bN)(w:Ni)(l ty:TE):TE:=λg H Q=>l g H λx o=>ty g o λy m=>∃d e k v,x=.ref d/\y=.str k/\KD K w d e/\e.lookup k=some v/\Q v m
theorem zU (S:PE X o q)(hi:PE X i ty)(hs:HV i):PE X (.Subscript o i m) (JU X.K X.w q ty):=by
 intro e s p H Q I h;refine zP Sf.lookup hs (cR (S e s p H _ I h) λu C ⟨x,W,U,J,q1⟩=>cR (hi e C p W _ U q1) λiv Z ⟨y,V,z,G,d,O,k,v,ex,T,D,M,L⟩=>?_);subst ex T;obtain rfl:u=Value.ref d:=J;have(t,rfl):=G;have(B,r,hd,l):=D.dict (P:=X.prog) z.sy;have(Y,R,g):=lC.some_of (v:=v) (o:=Qp B k) (by rw[<-M];exact l k);exact#[r.typeIs,wpAny_getItem_of zT r.mapOf R #[v,V,z.tok _,g,L]]
theorem y9 :mK X (PN .Mult) (λx y H Q=>∃z n,x=.str z/\y=.int n/\-1000000<=n/\n<=1000000/\z.length*n.toNat<=mH/\Q (.str (Sl z n)) H):=by
 intro d s r H x y v u Q I o m h;have(z,n,rfl,rfl,G,D,g,q):=h;have(t,rfl):=o;have(l,rfl):=m;refine PySem.SB.mul #[by simp;omega,λa b=>?_,λa b=>?_] λl k=>#[.str _,H,I.tok _,#[_,rfl],q]
 .intro c;have B:1<=n:=()
  have p:z.length*n.toNat<=16777216:=by rw[<-Qk];exact g
  have C:z.length<=z.length*n.toNat:=Nat.le_mul_of_pos_right _ ();have e:(9223372036854:Int)<=(2 ^ 63-1) / n:=Int.le_ediv_of_mul_le () ();omega
 .unfold QW.Str.tooLong;simp;exact g
theorem gb {K:bN}(l:Nat->St->List V->Hp->Prop)(t:l 0 σ0 [] H0)(m:∀i d vs H,i<=xs.length->l i d vs H->vs.length<=i)(hn:xs.length<=mH)(q:∀i d vs H,i<=xs.length->l i d vs H->cH K H a xs)(hs:∀i x d vs H,xs[i]?=some x->l i d vs H->g x d H λe z=>tt e z λok r=>if ok=true then te e r λv u=>l (i+1) e (vs++[v]) u else l (i+1) e vs r)(hd:∀d vs H,l xs.length d vs H->∀p,H p=none->Q (.ref p) (upd H p (.lst vs))):mC (zH K a) g tt te Q σ0 H0:=by
 refine vS xs.length l t m hn (λi d vs H o p=>#[xs,xs[i],q i d vs H (Ol o) p,by simp[o]]) (λd vs H p=>#[xs,q _ d vs H (i5 _) p,i5 _]) (λi d vs H x B o p y=>?_) hd;have(rfl,y):=y;exact hs i x d vs _ (y xs (q i d vs _ (Ol o) p)) p
mutual
noncomputable def T.py:T->PyData
 |.s x=>.str x
 |.i k=>.int k
 |.n=>.none
 |.t xs=>.tuple (T.EO xs)
noncomputable def T.EO:List T->List PyData
 | []=>[]
 |x::r=>x.py::T.EO r
end
theorem sU {X:Cx}{s:fy}:∀{xs:List T},(∀x∈xs,∀{v:V}{u:eF},Rp X.K H x v->RelV v u->∃as,Reads s.heap u x.py as)->∀{vs:List V}{us:List eF},bO X.K H xs vs->Vals vs us->∃as,ReadsAll s.heap us (T.EO xs) as
 | [],_,vs,us,h,r=>by
  obtain rfl:=h.jk
  cases r
  exact#[[],.nil]
 |x::q,ih,vs,us,h,r=>by
  have(v,w,rfl,m,l):=h.inv
  cases r with
  |cons r1 r2 =>
   have(as,g):=ih x (.head _) m r1;have(bs,e):=sU (λy d=>ih y (.tail _ d)) l r2;exact#[as++bs,.cons g e]
theorem ER (I:Inv X pins σ H s)(a:T):∀{v:V}{u:eF},Rp X.K H a v->RelV v u->∃as,Reads s.heap u a.py as:=by
 induction a using T.induct with
 |hs x=>intro v u h r;rw[h.aJ]at r;have(t,rfl):=r;unfold T.py;exact#[[],.str x t]
 |hi x=>intro v u h r;rw[h.jI]at r;have(t,rfl):=r;unfold T.py;exact#[[],.int x t]
 |hn=>intro v u h r;unfold Rp at h;rw[h]at r;cases r;unfold T.py;exact#[[],.none]
 |ht xs ih =>
  intro v u h r;have(p,q,rfl,hs,hr):=h.aS
  cases r
  have(l,g,(o,e,c,n,d),_):=I.tuple hs;have(as,m):=sU (s:=s) ih hr g;unfold T.py;exact#[as,.tuple e c d (by simpa using m)]
structure GK(d:PyData):Prop where
 sh:d.showable=true
 nd:d.hasDict=false
 dp:d.depth<=100
 sz:d.shown.length<=mH
theorem za (C:X.A.guards=some [])(L:X.A.units+150<Rf):iQ X (.builtin "repr") (λxs H Q=>∃p g vs,xs=[.ref p]/\bQ X.K H p vs/\bO X.K H g vs/\GK (.list (T.EO g))/\Q (.str (PyData.list (T.EO g)).shown) H):=by
 intro pins s σ H xs G Q I r h;have(p,g,vs,rfl,y,hr,S,q):=h;have(u,rfl,m):=vals1 r
 cases m
 have(v,l,t,_):=I.list y;have(o,e,c,n,d):=t.isList;have(O,D):=sU (s:=s) (λx _=>ER I x) hr l;refine repr_of_reads' (.list e c d (by simpa using D)) S.sh (λz=>by rw[S.nd]at z;cases z) C (by have:=S.dp;omega) (λ_ _ e=>e) (λM u J B=>?_) S.sz;exact#[.str _,H,I.kept B,#[_,rfl],q]
theorem atS {z:Str}(l:0<=r)(h:r<(z.length:Int)):∃c,eK z.cps.toList r=some c/\c∈z.cps.toList:=by
 have e:z.cps.toList.length=z.length:=by simp[S1]
 have d:r.toNat<z.cps.toList.length:=by rw[e];omega
 have g:r=((r.toNat:Nat):Int):=()
 have q:eK z.cps.toList ((r.toNat:Nat):Int)=some z.cps.toList[r.toNat]:=aG (my d);rw[<-g]at q;exact#[_,q,NP d]
theorem ES (d:List Nat):Txt.join "" (d.map λc=>(⟨#[c]⟩:Str))=⟨d.toArray⟩:=by
 show QW.Str.glued (Of "") _=_;rw[StrLaws.glued_eq_join];exact PyProof.Rows.join_ones d
theorem Cz (l:List Nat):((l.map λc=>(⟨#[c]⟩:Str)).map (·.length)).sum=l.length:=by
 induction l with
 |nil=>rfl
 |cons c r ih=>rw[Nr,Nr,List.sum_cons,ih,Np];show 1+_=_;omega
theorem HZ (d:List Nat):(⟨d.toArray⟩:Str).length=d.length:=by simp[S1]
theorem JV (b:Bool)(z:Str):(Sl z (if b then 1 else 0)).length<=z.length:=by
 cases b with
 |true=>simp[Sl]
 |false=>simp[Sl,S1,NB]
end L2
namespace L2
open PySem
def cP(H:Hp)(f:Addr):Prop:=∃p q:Int,H f=some (.lst [.int p,.int q])
def Ext(f:Addr)(H d:Hp):Prop:=(∀b o,b≠f->H b=some o->d b=some o)/\cP d f
theorem Ext.refl (h:cP H f):Ext f H H:=#[λ_ _ _ e=>e,h]
theorem Ext.trans (a:Ext f H g)(b:Ext f g d):Ext f H d:=#[λc o n e=>b.1 c o n (a.1 c o n e),b.2]
theorem Ext.same (a:Ext f H g)(s:aT g d):Ext f H d:=#[λc o n e=>s c o (a.1 c o n e),let⟨p,q,e⟩:=a.2;#[p,q,s f _ e]]
theorem ae (h:H p=none)(o:HO):aT H (upd H p o):=λb u q=>by rw[au (ay q h)];exact q
theorem cP.same (h:cP H f)(s:aT H d):cP d f:=let⟨p,q,e⟩:=h;#[p,q,s f _ e]
theorem Ext.tup (e:Ext f H g)(d:cP H f)(h:H a=some (.tup xs)):g a=some (.tup xs):=by
 refine e.1 a _ ?_ h;have(p,q,d):=d;exact jt h d (by intro z;cases z)
def cD:Sp:=λe H Q _=>∃(f:Addr) (m:Int),e=[.ref f,.int m]/\0<m/\m<1073741824/\cP H f/\∀(r:Int) (d:Hp),0<=r->r<m->Ext f H d->Q (.int r) d
def CA(K:bN):Sp:=λg H Q _=>∃(a:Addr) (e:List Int) (k:Int),g=[.ref a,.int k]/\bQ K H a (e.map V.int)/\e.length<=63/\0<=k/\k<=100 /\
 ∀(r:Addr) (d:Hp),aT H d->H r=none->cP d r->Q (.ref r) d
theorem small (h:n<=1000):n<=mH:=Ol (bq h)
theorem zV {ns:List Int}(g:0<=k)(h:k<(ns.length:Int)):∃v:Int,eK (ns.map V.int) k=some (.int v):=by
 have d:k.toNat<ns.length:=()
 have e:k=((k.toNat:Nat):Int):=()
 have q:eK (ns.map V.int) ((k.toNat:Nat):Int)=some (.int ns[k.toNat]):=aG (by rw[EF,my d]<;>rfl)
 rw[<-e]at q;exact#[_,q]
theorem oY {xs:List d}(l:0<=k)(h:k<(xs.length:Int)):∃v:d,eK xs k=some v/\v∈xs:=by
 have e:k.toNat<xs.length:=()
 have g:k=((k.toNat:Nat):Int):=()
 have q:eK xs ((k.toNat:Nat):Int)=some xs[k.toNat]:=aG (my e);rw[<-g]at q;exact#[_,q,NP e]
theorem Ext.kt (e:Ext f H g)(d:cP H f):Kt H g:=λa l r=>by
 have(p,q,d):=d;rcases r with h|⟨o,h⟩
 .exact .inl (e.1 a _ (jt h d (by intro z;cases z)) h)
 .exact .inr #[o,e.1 a _ (jt h d (by intro z;cases z)) h]
theorem Ext.new (e:Ext f H d)(h:d p=none)(o:HO):Ext f H (L2.upd d p o):=e.same (ae h o)
structure eL(P:I0) (w:Ni) (K:bN) (mg:Str->Option eF) (base:Heap) (x:Str) (k:Nat) (ps:List Str) (sp:Sp) (f:Addr) (fd:M5):Prop where
 ok:cA P w K mg base gy k f fd ps sp
 at':mg x=some (.ref f)
 kp:Pb K (.ref f)=true
 bd:Binds K fd ps []
theorem zW {sp:Sp}(h:∀vs H Q E,¬sp vs H Q E):cA P w K mg base gy k f d ps sp :=
 #[λvs H Q E z=>(h vs H Q E z).elim,λ_ _ _ _ _ _ _ _ _ _ _ _ _ z=>(h _ _ _ _ z).elim]
end L2
namespace L2
open PySem PySem.Spec PyProof.Rows
noncomputable def sV(p:List Str×Tm):T:=.t [.t (p.1.map .s),enc p.2]
noncomputable def right(d:Tm):List (List Str×Tm):=(bnd d.hd d.ks.length).zip d.ks
theorem cH.same {K:bN}(e:aT H d)(h:cH K H a xs):cH K d a xs:=h.kt (Kt.same e)
theorem Rp.same {K:bN}(e:aT H d)(h:Rp K H x v):Rp K d x v:=h.kt (Kt.same e)
theorem bO.same {K:bN}(e:aT H d)(h:bO K H x v):bO K d x v:=h.kt (Kt.same e)
theorem Rp.new {K:bN}(d:H p=none)(h:bO K H xs vs):Rp K (upd H p (.tup vs)) (.t xs) (.ref p):=.t (.of af) (h.same (ae d _))
theorem xM {K:bN}{ps:List Nat}{ks:List T}(U:cH K H0 a vs)(hr:bO K H0 D vs)(W:cH K H0 M (ps.map λ(j:Nat)=>V.int (j:Int)))(v:ps.length<=1000)(O:ps.map (λ(j:Nat)=>D[j]?)=ks.map some)(k:∀(p:Addr) (C:Hp) (L:List V),aT H0 C->C p=some (.lst L)->bO K C (ks.map λk=>.t [.t [],k]) L->Q (.ref p) C):
  mC (zH K M) (iF 0) uT (yR (oB (yR xu) (oB (GB (Ew K) (mR 1) (mR 0)) xu))) Q [none,some (.ref a)] H0:=by
 refine gb (xs:=ps.map λ(j:Nat)=>V.int (j:Int)) (λi u g m=>(∃x,u=[x,some (.ref a)])/\aT H0 m/\bO K m ((ks.take i).map λk=>.t [.t [],k]) g) #[#[none,rfl],aT.refl _,.nil] ?_ (small (by rw[bM];exact v)) ?_ ?_ ?_
 .rintro i u g m hi ⟨_,_,r⟩;rw[r.length,bM,L1];omega
 .rintro i u g m hi ⟨_,e,_⟩;exact W.same e
 .rintro i x u g m hx ⟨⟨Y,rfl⟩,e,r⟩;rw[EF]at hx;have(j,S,rfl):=xn.mp hx
  have d:D[j]?=ks[i]?/\i<ks.length:=by
   have z:=congrArg (λl=>l[i]?) O;simp only[EF,S,RH]at z
   cases B:ks[i]? with
   |none=>rw[B]at z;cases z
   |some q=>rw[B]at z;exact#[Ng z,(bH.mp B).1]
  have(d,y):=d;rw[my y]at d;have(w,R,G):=hr.get d;refine#[Nn _,λq I=>?_];have J:=e.trans (ae I (.tup []));refine#[_,rfl,_,rfl,a,_,_,w,rfl,rfl,U.same J,aG R,(by show 2<=mH;decide),λt H=>?_];have B:=J.trans (ae H (.tup [.ref q,w]));refine#[#[_,rfl],B,?_];rw[mu y,lj];refine(r.same (λb o h=>ae H _ b o (ae I _ b o h))).snoc (Rp.new H (.cons ?_ (.one (G.same J))));exact Rp.new I .nil
 .rintro u g m ⟨_,e,r⟩ p hp
  have l:(ps.map λ(j:Nat)=>V.int (j:Int)).length=ks.length:=by
   have z:=congrArg QL O
   simpa using z
  rw[l,Nl]at r;exact k p _ g (e.trans (ae hp _)) af (r.same (ae hp _))
theorem A6 {K:bN}(L:cH K H0 D vs)(hr:bO K H0 ks vs)(H:ks.length<=1000)(k:∀(p:Addr) (u:Hp) (C:List V),aT H0 u->u p=some (.lst C)->bO K u (ks.map λk=>.t [.t [],k]) C->Q (.ref p) u):
  mC (zH K D) (iF 0) uT (yR (oB (yR xu) (oB (mR 0) xu))) Q [none] H0:=by
 have l:=hr.length;refine gb (xs:=vs) (λi m d g=>(∃x,m=[x])/\aT H0 g/\bO K g ((ks.take i).map λk=>.t [.t [],k]) d) #[#[none,rfl],aT.refl _,.nil] ?_ (small ()) ?_ ?_ ?_
 .rintro i m d g hi ⟨_,_,r⟩;rw[r.length,bM,L1];omega
 .rintro i m d g hi ⟨_,e,_⟩;exact L.same e
 .rintro i x m d g hx ⟨⟨R,rfl⟩,e,r⟩;have(y,G,J):=hr.get' hx;have B:i<ks.length:=(bH.mp G).1;have M:ks[i]=y:=(bH.mp G).2;refine#[Nn _,λq z=>?_];have I:=e.trans (ae z (.tup []));refine#[_,rfl,(by show 2<=mH;decide),λt v=>?_];have O:=I.trans (ae v (.tup [.ref q,x]));refine#[#[_,rfl],O,?_];rw[mu B,lj,M];refine(r.same (λb o h=>ae v _ b o (ae z _ b o h))).snoc (Rp.new v (.cons ?_ (.one (J.same I))));exact Rp.new z .nil
 .rintro m d g ⟨_,e,r⟩ p hp;rw[l,Nl]at r;exact k p _ d (e.trans (ae hp _)) af (r.same (ae hp _))
theorem A7 {K:bN}(S:arms.length=ks.length)(U:cH K H0 D vs)(hr:bO K H0 (Og oV arms ks) vs)(H:ks.length<=1000)(k:∀(p:Addr) (q:Hp) (C:List V),aT H0 q->q p=some (.lst C)->bO K q (Og (λa k=>.t [.t (a.2.map .s),k]) arms ks) C->Q (.ref p) q):
  mC (zH K D) (El K 3 (sD (iF 0) (sD (iF 1) (sD (iF 2) Ho)))) uT (yR (oB (mR 1) (oB (mR 2) xu))) Q [none,none,none] H0:=by
 have l:=hr.length;rw[Oz,S,Q7]at l;refine gb (xs:=vs) (λi o g m=>(∃x y z,o=[x,y,z])/\aT H0 m/\bO K m ((Og (λ(a:Str×List Str) k=>T.t [.t (a.2.map .s),k]) arms ks).take i) g) #[#[none,none,none,rfl],aT.refl _,.nil] ?_ (small ()) ?_ ?_ ?_
 .rintro i o g m I ⟨_,_,r⟩;rw[r.length,L1];omega
 .rintro i o g m I ⟨_,e,_⟩;exact U.same e
 .rintro i x o g m hx ⟨⟨x0,y0,z0,rfl⟩,e,r⟩;have(y,G,L):=hr.get' hx;have I:i<vs.length:=(bH.mp hx).1;have B:i<arms.length:=()
  have v:i<ks.length:=()
  have R:i<(Og (λ(a:Str×List Str) k=>T.t [.t (a.2.map .s),k]) arms ks).length:=by rw[Oz];omega
  rw[Ri,my B,my v]at G
  cases G
  have(O,M,rfl,J,d):=(show Rp K H0 (.t [_,_,_]) x from L).aS;have(t1,q1,rfl,h1,d):=d.inv;have(t2,q2,rfl,Y,d):=d.inv;have(t3,q3,rfl,W,d):=d.inv;obtain rfl:=d.jk;refine#[O,_,rfl,J.same e,rfl,_,_,rfl,_,_,rfl,_,_,rfl,rfl,?_];refine#[_,rfl,_,rfl,(by show 2<=mH;decide),λt u=>?_];have Z:=e.trans (ae u (.tup [t2,t3]));refine#[#[_,_,_,rfl],Z,?_];rw[mu R];refine(r.same (ae u _)).snoc ?_;rw[List.getElem_zipWith];exact Rp.new u (.cons (Y.same e) (.one (W.same e)))
 .rintro o g m ⟨_,e,r⟩ p hp;rw[Oh (by rw[Oz];omega)]at r;exact k p _ g (e.trans (ae hp _)) af (r.same (ae hp _))
theorem mE {d e:Type}(f:d->Option e)(g:d->e):∀(l:List d),(∀a∈l,f a=some (g a))->l.filterMap f=l.map g
 | [],_=>rfl
 |a::r,h=>by rw[OX,h a (.head _),Nr,mE f g r λb m=>h b (.tail _ m)]
theorem A8 {g:Type}(xs:List g):((Pa xs.length).map λk=>xs.length-1-k).filterMap (xs[·]?)=xs.reverse:=by
 cases xs with
 |nil=>rfl
 |cons x r =>
  rw[Ug,mE _ (λk=>(x::r).reverse.getD k x)]
  .apply List.ext_getElem
   .simp
   .intro i m e;simp only[Ro,List.getElem_range];simp at m;simp only[Om];rw[my e];rfl
  .intro k l;have d:=Pu.mp l;show(x::r)[(x::r).length-1-k]?=_;have e:k<(x::r).reverse.length:=by simpa using d
   simp only[Om];rw[my e,Tv,my ()];rfl
theorem A9 (n:Nat):R8 (Oj none none (some (-1)) n).1 (Oj none none (some (-1)) n).2.1 (Oj none none (some (-1)) n).2.2=(Pa n).map λk=>n-1-k:=by
 show R8 ((n:Int) - 1) (-1) (-1)=_;unfold R8
 have c:(if(-1:Int)>0 then(if(n:Int) - 1 < -1 then(-1 - ((n:Int) - 1)+-1-1) / -1 else 0)else(if(n:Int) - 1 > -1 then((n:Int) - 1 - -1 - -1-1) / (- -1)else 0))=(n:Int):=by
  rw[if_neg (by decide)]
  split
  .rw[show(- -1:Int)=1 from rfl,Ut];omega
  .omega
 simp only[c,OL];refine List.map_congr_left λk d=>?_;have:=Pu.mp d;omega
theorem xN (xs:List V):uV xs none none (some (-1))=xs.reverse:=by
 rw[EI (A9 xs.length)];exact A8 xs
noncomputable def JW(d:OI)(y:Str):Bool:=(d.names.lookup y == some .local||d.names.lookup y == some .cell||d.names.lookup y == some .free)&&!(y == ("__debug__":Str))&&!(y == ("__classdict__":Str))
abbrev Nm(N:List Str)(d:OI):Prop:=N.all (JW d)=true
noncomputable def JX(d:OI)(y:Str):Bool:=d.names.lookup y == some .local||d.names.lookup y == some .cell
abbrev Lm(N:List Str)(d:OI):Prop:=N.all (JX d)=true
theorem Nm.get (h:Nm N d){i:Nat}(e:N[i]?=some x):Jt d x/\(x == ("__debug__":Str))=false/\(x == ("__classdict__":Str))=false:=by
 have z:=NO.mp h x (M9 e);unfold JW at z;simp only[NJ,Qc,Bool.not_eq_true']at z;have((z1,l),g):=z;refine#[?_,l,g];rcases z1 with(z1|z1)|z1
 .exact Or.inl (Pn z1)
 .exact Or.inr (Or.inl (Pn z1))
 .exact Or.inr (Or.inr (Pn z1))
theorem Lm.get (h:Lm N d){i:Nat}(e:N[i]?=some x):Loc d x:=by
 have z:=NO.mp h x (M9 e);unfold JX at z;simp only[Qc]at z;rcases z with z|z
 .exact Or.inl (Pn z)
 .exact Or.inr (Pn z)
theorem va (h:Nm X.N X.env.scope)(i:Nat)(d:X.N[i]?=some x:=by rfl):PE X (.Name x e) (mR i):=B4 d (h.get d).1 (h.get d).2.1 (h.get d).2.2
theorem sa {x:Str}{e:Expr}{l:TE}{g d:Pos}(o:X.N.Nodup)(h:Lm X.N X.env.scope)(i:Nat)(m:PE X e l)(hi:X.N[i]?=some x:=by rfl)(hs:Rm e (some (.Name x d)) g.line X.env=pure false:=by kernel_rfl)(hf:X.fn x=true\/X.env.scope.names.lookup x=some .local:=by exact .inl rfl):PS X (.Assign [.Name x d] e g) (vI l (iF i)):=lE o hi (h.get hi) m hs hf
theorem ga (g:X.N.Nodup)(h:Lm X.N X.env.scope)(i:Nat)(hi:X.N[i]?=some x:=by rfl)(e:X.fn x=true\/X.env.scope.names.lookup x=some .local:=by first|exact .inl rfl|exact .inr (by kernel_rfl)):PG X (.Name x d) (iF i):=lD g hi (h.get hi) e
theorem EU {V:TI}(own:List Str)(fr:List Nat)(hc:X.calm=true)(hkind:scope.kind=.function)(hcell:∀x∈scope.names,x.2≠.cell)(hnames:∀x∈scope.names,x.2=.local->scope.names.lookup x.1=some .local)(hfr:∀x∈scope.names,x.2=.free->X.env.scope.names.lookup x.1=some .cell\/X.env.scope.names.lookup x.1=some .free)(hin:∀j∈fr,scope.names.lookup (X.N.getD j NB)=some .free)(hi:PI X J m V)(hg:∀fp C s H,PG (bL X scope (own++fr.map λj=>X.N.getD j NB) fp C s H) J g)(ht:∀fp C s H,vR (bL X scope (own++fr.map λj=>X.N.getD j NB) fp C s H) t W)(he:∀fp C s H,PE (bL X scope (own++fr.map λj=>X.N.getD j NB) fp C s H) u Y)(hgg:PG X (.Name y d) gg)(hsw:Rm (.ListComp u [#[J,m,t,0]] scope D) (some (.Name y d)) r.line X.env=pure true)(hs:∀x,NV m X.env x=pure x:=by intro _;rfl):PS X (.Assign [.Name y d] (.ListComp u [#[J,m,t,0]] scope D) r) (vI (uU own.length fr V g W Y) gg):=by
 intro l s M H D0 I h;rw[exec_Assign_Name_used _ _ _ _ hsw,arm_evalThenUse_ListComp];refine cB (OG (cB (cB ?_)));refine cR (xJ (U:=some (RV (.Name y d) X.env)) (R:=λ_ s'=>SP X l D0 .next s') own fr hc hkind hcell hnames hfr hin hi hg ht he hs I h λ{fp C s2 s4 H2 H3 σ3 vs ys pn pl} I2 f2 J4 hCle hDC dn3 e4 rv hz q=>?_) λ_ _ q=>vv (vv q);have(m4,Q,_):=id J4.loc;have(L,es,ep,eC,dC,kC,fC):=Q;have I4:Inv X l M (upd H3 s2.heap.objs.size (.lst vs)) s4:=sQ (h'':=s4.heap) I2 f2 J4 hCle (i5 _) hDC dn3 #[_,e4] rv hz #[rfl,λ_ _=>rfl];have cL:C≠X.env.locals:=λz=>absurd I2.lt (by rw[<-z];exact UY.mpr hCle)
 have I5:Inv X (l++[(C,L)]) M (upd H3 s2.heap.objs.size (.lst vs)) s4:=I4.fu λp G=>by
  rcases M7.mp G with z|z
  .exact I4.pin p (we _ z)
  .have z:p=(C,L):=by simpa using z
   subst z;exact#[eC,by rw[au hDC.symm];exact J4.free,cL,I2.B3 hCle,λv T=>by rw[dC]at T;cases T]
 show Na _ _ (RV (.Name y d) X.env (.ref s2.heap.objs.size)) _ _ _;refine cR (hgg _ s4 M _ (.ref s2.heap.objs.size) _ _ I5 rfl q) λ_ Z ⟨B,H5,S,q6⟩=>?_;have pC:=S.pin (C,L) (we _ (we _ (by simp)));refine#[m4,#[L,es,ep,pC.1,dC,kC,fC],λh' O=>?_];have I7:Inv X l B H5 Z:=S.fu λp G=>S.pin p (we _ (NG _ G));refine#[B,H5,I7.turned (t':=Z.toks) (it:=C) (λb o hb e=>(O.2 b hb).trans e) pC.2.1 cL (.inr (Nu I2.sz hCle)) (λx c e z=>?_) (λp G z=>?_),q6]
 .have(_,o,ho,_):=I2.cell x c e;exact absurd (L0 ho) (by rw[z];exact UY.mpr hCle)
 .exact absurd (L0 (I2.pin p G).1) (by rw[z];exact UY.mpr hCle)
theorem nj {y:Str}{l m:Pos}{L:TG}{p d u:Expr}{o:List Expr}{scope:OI}{q:Pos}{D:TI}{g:TG}{G:TT}{I:TE}(J:OI)(t own:List Str)(fr:List Nat)(R:X.calm=true)(B:X.env.scope=J)(S:X.N=t)(ok:ni scope J t fr=true)(hi:PI X u d D)(hg:∀fp C s H,PG (bL X scope (own++fr.map λj=>t.getD j NB) fp C s H) u g)(ht:∀fp C s H,vR (bL X scope (own++fr.map λj=>t.getD j NB) fp C s H) o G)(he:∀fp C s H,PE (bL X scope (own++fr.map λj=>t.getD j NB) fp C s H) p I)(hgg:PG X (.Name y l) L)(hsw:Rm (.ListComp p [#[u,d,o,0]] scope q) (some (.Name y l)) m.line X.env=pure true:=by kernel_rfl)(hs:∀x,NV d X.env x=pure x:=by intro _;rfl):PS X (.Assign [.Name y l] (.ListComp p [#[u,d,o,0]] scope q) m) (vI (uU own.length fr D g G I) L):=by
 subst B S;unfold ni at ok;simp only[NJ,NO,bne_iff_ne,beq_iff_eq,Qc]at ok;have((O,v),M):=ok;refine EU own fr R O (λx r=>(v x r).1.1) (λx r e=>?_) (λx r e=>?_) (λj Q=>M j Q) hi hg ht he hgg hsw hs
 .rcases(v x r).1.2 with z|z
  .exact absurd e z
  .exact z
 .rcases(v x r).2 with(z|z)|z
  .exact absurd e z
  .exact .inl z
  .exact .inr z
end L2
open Lean in
def r2:List Name:=[`ok,`at',`kp,`bd,`kT,`rfl,`PySem.F.plainAttrs_list,`PySem.F.slot_list_append,`PySem.F.type_list_append,`AY,`aC,`K,`j9,`X,`scope,`fp,`aA,`P,`w,`mg,`base,`f,`cdv,`A,`outer,`s,`E,`aH,`z_range,`vH]
open Lean in
def r3:List (Name × Name × Nat × List Nat):=[(`Z0,`eJ,16,[1000,0,1,1001,1002,1003,2,204,101,3,4,4]),
 (`Z1,`dc,5,[100,101,4]),
 (`Z2,`pN,9,[100,1,101,102,103,3,3,4,4]),
 (`Z3,`lD,99,[100,101,205,5,6]),
 (`Z4,`sa,6,[100,101,102,103,4,7,8]),
 (`Z5,`eA,5,[100,101]),
 (`Z6,`xx,12,[206,207,208,209,100,101,4,4,4,4,4]),
 (`Z7,`AX,9,[100,1,101,102,103,3,3,4,4]),
 (`Z8,`iI,99,[100,101,210,9]),
 (`Z9,`zS,5,[100,211,205,205,101,4,4]),
 (`Zb,`kQ,8,[100,101,212]),
 (`Zc,`bL,99,[213,214,10,215,100,101,102]),
 (`Zd,`dc,99,[100,216]),
 (`Ze,`b7,3,[100]),
 (`Zf,`pI,5,[100,101,4]),
 (`Zg,`kW,11,[100,101,102,103,205,205,205,11,104,105,12,106,13]),
 (`Zh,`Hv,8,[100,205,101,102,103,13]),
 (`Zi,`nS,8,[100,101,102,103]),
 (`Zj,`vJ,99,[100,217,218,211,219,220,101,102,103,221,222,223,224,225,104,226]),
 (`Zk,`jL,99,[14,100,227,9]),
 (`Zl,`iI,7,[100,101,102,9]),
 (`Zm,`fH,5,[100]),
 (`Zn,`bS,8,[100,101,102]),
 (`Zo,`Ej,4,[100,4]),
 (`Zp,`nS,99,[100,101,102,15]),
 (`Zq,`yI,6,[100,101,4,4,4]),
 (`Zr,`uI,6,[1,228,100,4]),
 (`Zt,`pI,99,[100,229]),
 (`Zu,`dF,4,[100]),
 (`Zv,`cI,4,[100])]
set_option hygiene false in
open Lean in
def r8:Nat->MacroM Term
 | 0=>`(hr.mono ())
 | 1=>`(by left)
 | 2=>`(.nil)
 | 3=>`(by decide)
 | 4=>`(by rfl)
 | 5=>`(Or.inl (by kernel_rfl))
 | 6=>`(by first|exact .inl rfl|exact .inr (by kernel_rfl))
 | 7=>`(by kernel_rfl)
 | 8=>`(by exact .inl rfl)
 | 9=>`(λ_ _=>rfl)
 | 10=>`(own++fr.map λj=>X.N.getD j Str.empty)
 | 11=>`(by decide)
 | 12=>`(λ_ _ _ _=>fZ)
 | 13=>`(by intro _;rfl)
 | 14=>`(gE hr)
 | _=>`(bG _)
open Lean in
def r4 (f:Name)(a:Array Term):MacroM Term:=do
 let some (_,n,k,c):=r3.find? (·.1==f) | Macro.throwUnsupported
 let b←c.mapM λi=>do
  if i<100 then r8 i else if i<200 then return a.getD (i-100) ⟨.missing⟩ else if i<1000 then return mkIdent (r2.getD (i-200) .anonymous) else return mkIdent ((a.getD (i/1000-1) ⟨.missing⟩).raw.getId++r2.getD (i%1000) .anonymous)
 let b:=b.toArray
 if k==99 then `($(mkIdent n) $b*) else
 let h←`(_)
 let s:=Array.replicate k h
 `(@$(mkIdent n) $s* $b*)
local macro_rules|`($f:ident $a*)=>r4 f.getId (a.map λx=>⟨x.raw⟩)
namespace G14
open PySem L2
noncomputable def top(i:Nat):Stmt:=PySem.Challenge.pw_gapwork_k14_kinds_and_heads_amiss.main.body.getD i (.Pass #[0,0,0,0])
noncomputable abbrev EV:Stmt:=top 3
noncomputable abbrev CB:Stmt:=top 4
noncomputable abbrev vW:Stmt:=top 5
noncomputable abbrev jw:Stmt:=top 14
noncomputable abbrev jl:Stmt:=top 15
noncomputable abbrev nT:Stmt:=top 17
noncomputable abbrev jX:Stmt:=top 18
noncomputable abbrev jQ:Stmt:=top 19
noncomputable abbrev EW:Stmt:=top 21
noncomputable abbrev jx:Stmt:=top 22
noncomputable abbrev jY:Stmt:=top 23
noncomputable abbrev iW:Stmt:=top 24
noncomputable abbrev iu:Stmt:=top 25
noncomputable abbrev lQ:Stmt:=top 26
noncomputable abbrev jM:Stmt:=top 27
noncomputable abbrev iJ:Stmt:=top 28
noncomputable abbrev jy:Stmt:=top 29
noncomputable abbrev iX:Stmt:=top 30
noncomputable abbrev sW:Stmt:=top 32
noncomputable abbrev sX:Stmt:=top 33
noncomputable abbrev c8:Stmt:=top 34
noncomputable abbrev dH:Stmt:=top 35
noncomputable abbrev jR:Stmt:=top 36
noncomputable abbrev bW:Stmt:=top 37
noncomputable abbrev bZ:Stmt:=top 38
noncomputable abbrev aW:Stmt:=top 39
noncomputable abbrev aQ:Stmt:=top 40
noncomputable abbrev jZ:Stmt:=top 41
noncomputable abbrev iw:Stmt:=top 42
noncomputable abbrev gQ:Stmt:=top 43
noncomputable abbrev eS:Stmt:=top 44
noncomputable abbrev dJ:Stmt:=top 45
noncomputable abbrev fL:Stmt:=top 46
noncomputable abbrev bX:Stmt:=top 47
noncomputable abbrev iY:Stmt:=top 48
noncomputable abbrev nq:Stmt:=top 49
noncomputable abbrev gU:Stmt:=top 50
noncomputable abbrev bY:Stmt:=top 51
noncomputable abbrev dQ:Stmt:=top 52
noncomputable abbrev fQ:Stmt:=top 53
noncomputable abbrev nu:Stmt:=top 54
theorem zb :aZ ["_law_feed_here","_law_many","_law_digit","_law_one"] U6 (ak sX):=#[rfl,rfl,rfl,by decide,rfl,by decide,by decide]
theorem EX (F:jr K "_law_take" "_law_take" sX f t):cA P w K mg base gy 1 f t U6 cD:=by
 refine F.ok zb (λu H Q E h=>?_) (λcdv A outer s H u Q E hr h=>?_)
 .have(a,m,rfl,_):=h;rfl
 have(a,m,rfl,g,v,(p,q,d),k):=h
 refine#[_,eA (kQ (Zp pL (Z8 br (pv 0)) aC)
   (eA (lE (i:=2) zb.nd rfl (Or.inl rfl) (bS iR (Z8 br (pv 0)) (pv 1)))
   (eA (yI (bS rP (Z8 br (pv 0)) (pv 1)) (mT (pv 0) aC set_list))
   (b7 (cI (pv 2))))) j9)
  (eA (lE (i:=3) zb.nd rfl (Or.inl rfl) (bS iR (bS kG (Z8 br (pv 0)) aC) aC))
  (eA (yI (bS dS (bS iR (bS dS (bS kG (pv 3) aC) aC) aC) aC) (mT (pv 0) aC set_list))
  (b7 (cI (bS iR (bS rP (bS dS (bS kG (pv 3) aC) (Z8 br (pv 0))) aC) (pv 1)))))),?_]
 have ext:∀r l:Int,Ext a H (upd H a (.lst [.int r,.int l])):=λr l=>#[λb o n e=>by rw[au n];exact e,r,l,af];refine#[_,rfl,a,_,0,_,rfl,rfl,bQ.of d,rfl,_,_,rfl,rfl,_,rfl,?_];refine cg (λ_=>?_) (λ_=>?_)
 .refine#[_,rfl,a,_,0,_,rfl,rfl,bQ.of d,rfl,_,rfl,_,_,rfl,rfl,g,?_];refine#[_,rfl,a,_,0,_,rfl,rfl,bQ.of d,rfl,_,rfl,_,_,rfl,rfl,#[g,v],?_];refine#[_,rfl,a,_,0,0,rfl,rfl,d,rfl,?_];refine#[_,rfl,?_];exact k _ _ (Te _ ()) (R9 _ g) (ext _ _)
 .refine#[_,rfl,a,_,1,_,rfl,rfl,bQ.of d,rfl,_,_,rfl,rfl,.inr #[by decide,by decide],_,_,rfl,rfl,(by show(0:Int)<2147483647;decide),?_];refine#[_,rfl,_,_,rfl,rfl,.inr #[by decide,by decide],_,_,rfl,rfl,_,_,rfl,rfl,(by show(0:Int)<2147483399;decide),_,_,rfl,rfl,?_];refine#[_,rfl,a,_,1,1,rfl,rfl,d,rfl,?_];refine#[_,rfl,_,_,rfl,rfl,.inr #[by decide,by decide],_,rfl,a,_,1,_,rfl,rfl,bQ.of af,rfl,_,_,rfl,rfl,_,_,rfl,rfl,#[by decide,by decide],_,rfl,_,_,rfl,rfl,g,?_];exact k _ _ (Te _ ()) (R9 _ g) (ext _ _)
theorem qK :aZ ["_law_script","_law_k","_law_cell","_law_own"] V8 (ak sW):=#[rfl,rfl,rfl,by decide,rfl,by decide,by decide]
theorem EY (F:jr K "_law_feed" "_law_feed" sW f t)(p:mg "len"=none):cA P w K mg base gy 1 f t V8 (CA K):=by
 refine F.ok qK (λy H Q E h=>?_) (λcdv A outer s H y Q E hr h=>?_)
 .have(a,ns,m,rfl,_):=h;rfl
 have(a,ns,k,rfl,o,D,z,C,g):=h
 refine#[_,eA (lE (i:=2) qK.nd rfl (Or.inl rfl) (bS dS (bS kG aC (pv 1)) aC))
  (eA (kQ (Zp mU (pv 1) (pN aL (by rfl) p Nh (bI (pv 0) aA)))
   (b7 (lE (i:=2) qK.nd rfl (Or.inl rfl) (iI br (pv 0) (pv 1) (λ_ _=>rfl))))
   (b7 (kQ (Zp pL (pN aL (by rfl) p Nh (bI (pv 0) aA)) aC)
    (b7 (lE (i:=2) qK.nd rfl (Or.inl rfl) (bS dS (bS kG (bS iR (iI br (pv 0) (bS iR (pv 1) (pN aL (by rfl) p Nh (bI (pv 0) aA))) (λ_ _=>rfl)) aC) aC) (bS kG aC (pv 1)))))
    j9)))
  (eA (lE (i:=3) qK.nd rfl (Or.inl rfl) aC)
  (eA (kQ (Zp JF (pv 2) (bS HC aC aC)) (b7 (lE (i:=3) qK.nd rfl (Or.inl rfl) (pv 2))) j9)
  (b7 (cI (dF (bI (pv 3) (bI (bS dS (bS iR (bS dS (bS kG (bS iR (pv 2) aC) aC) (bS kG aC (pv 1))) aC) aC) aA)))))))),?_]
 have e:(ns.map V.int).length=ns.length:=bM _;refine#[_,rfl,_,_,rfl,rfl,.inl #[by decide,by decide],_,_,rfl,rfl,?_];refine#[_,rfl,_,rfl,a,_,rfl,.inl o,_,_,rfl,rfl,_,rfl,?_];refine cg (λc=>?_) (λc=>?_)
 .have u:k<((ns.map V.int).length:Int):=of_decide_eq_true c;rw[e]at u;have(v,q):=zV (ns:=ns) z u;refine#[_,rfl,_,rfl,a,_,_,_,rfl,rfl,o,q,?_];refine#[_,rfl,_,_,rfl,rfl,#[by decide,by decide,by decide],_,_,rfl,rfl,_,rfl,cg (λ_=>?_) (λ_=>?_)]
  .refine#[_,rfl,_,rfl,_,rfl,_,_,rfl,rfl,(by show(0:Int)<2147483629;decide),_,_,rfl,rfl,.inr #[by decide,by decide],_,rfl,_,_,rfl,rfl,.inl #[by decide,by decide],_,_,rfl,rfl,_,_,rfl,rfl,(by show(0:Int)<2147483629;decide),_,_,rfl,rfl,(by show 2<=mH;decide),λl e=>?_];exact g l _ (ae e _) e #[_,_,af]
  .refine#[_,rfl,_,rfl,_,_,rfl,rfl,(by show(0:Int)<2147483629;decide),_,_,rfl,rfl,.inr #[by decide,by decide],_,rfl,_,_,rfl,rfl,.inl #[by decide,by decide],_,_,rfl,rfl,_,_,rfl,rfl,(by show(0:Int)<2147483629;decide),_,_,rfl,rfl,(by show 2<=mH;decide),λl e=>?_];exact g l _ (ae e _) e #[_,_,af]
 .refine#[_,rfl,a,_,rfl,.inl o,_,_,rfl,rfl,_,rfl,?_];refine cg (λd=>?_) (λd=>?_)
  .have r:(0:Int)<((ns.map V.int).length:Int):=of_decide_eq_true d;have B:(0:Int)<(ns.length:Int):=by rw[e]at r;exact r
   have(v,q):=zV (ns:=ns) (k:=k % (((ns.map V.int).length:Nat):Int)) (Te _ ()) (by rw[e];exact R9 _ B);refine#[_,rfl,_,rfl,_,rfl,a,_,rfl,.inl o,_,_,rfl,rfl,r,a,_,_,_,rfl,rfl,o,q,_,_,rfl,rfl,(by show(0:Int)<2147483629;decide),_,_,rfl,rfl,.inr #[by decide,by decide],_,rfl,_,_,rfl,rfl,.inl #[by decide,by decide],_,_,rfl,rfl,?_];refine#[_,rfl,_,_,rfl,rfl,#[by decide,by decide,by decide],_,_,rfl,rfl,_,rfl,cg (λ_=>?_) (λ_=>?_)]
   .refine#[_,rfl,_,rfl,_,rfl,_,_,rfl,rfl,(by show(0:Int)<2147483629;decide),_,_,rfl,rfl,.inr #[by decide,by decide],_,rfl,_,_,rfl,rfl,.inl #[by decide,by decide],_,_,rfl,rfl,_,_,rfl,rfl,(by show(0:Int)<2147483629;decide),_,_,rfl,rfl,(by show 2<=mH;decide),λl e=>?_];exact g l _ (ae e _) e #[_,_,af]
   .refine#[_,rfl,_,rfl,_,_,rfl,rfl,(by show(0:Int)<2147483629;decide),_,_,rfl,rfl,.inr #[by decide,by decide],_,rfl,_,_,rfl,rfl,.inl #[by decide,by decide],_,_,rfl,rfl,_,_,rfl,rfl,(by show(0:Int)<2147483629;decide),_,_,rfl,rfl,(by show 2<=mH;decide),λl e=>?_];exact g l _ (ae e _) e #[_,_,af]
  .refine#[_,rfl,_,_,rfl,rfl,#[by decide,by decide,by decide],_,_,rfl,rfl,_,rfl,cg (λ_=>?_) (λ_=>?_)]
   .refine#[_,rfl,_,rfl,_,rfl,_,_,rfl,rfl,(by show(0:Int)<2147483629;decide),_,_,rfl,rfl,.inr #[by decide,by decide],_,rfl,_,_,rfl,rfl,.inl #[by decide,by decide],_,_,rfl,rfl,_,_,rfl,rfl,(by show(0:Int)<2147483629;decide),_,_,rfl,rfl,(by show 2<=mH;decide),λl e=>?_];exact g l _ (ae e _) e #[_,_,af]
   .refine#[_,rfl,_,rfl,_,_,rfl,rfl,(by show(0:Int)<2147483629;decide),_,_,rfl,rfl,.inr #[by decide,by decide],_,rfl,_,_,rfl,rfl,.inl #[by decide,by decide],_,_,rfl,rfl,_,_,rfl,rfl,(by show(0:Int)<2147483629;decide),_,_,rfl,rfl,(by show 2<=mH;decide),λl e=>?_];exact g l _ (ae e _) e #[_,_,af]
end G14
namespace L2
open PySem
theorem aT.oq (s:aT H d)(h:H l=none)(o:HO):aT H (upd d l o):=λb g e=>by rw[au (ay e h)];exact s b g e
structure LS(K:bN) (Ps:St->Prop) (H2:Hp) (us:List V) (ys:List T) (σ:St) (H5:Hp):Prop where
 p:Ps σ
 s:aT H2 H5
 r:bO K H5 ys us
theorem zc {d l:Type}{φ:d->List l}(e:∀p,(φ p).length<=1):∀ps:List d,(ps.flatMap φ).length<=ps.length
 | []=>Nn _
 |x::r=>by
  rw[OT,i4,Np];have:=e x;have:=zc e r;omega
theorem vX {d e:Type}(f:d->e):∀l:List d,(l.flatMap λp=>[f p])=l.map f
 | []=>rfl
 |x::r=>by rw[OT,vX f r];rfl
theorem uY {G:Type}{e:G->T}{φ:G->List T}{ps:List G}(C:St->Prop)(O:cH K H0 a vs)(hr:bO K H0 (ps.map e) vs)(Y:ps.length<=900)(R:∀p,(φ p).length<=1)(S:C σ0)(hs:∀p∈ps,∀x t o (N:List V->St->Hp->Prop),aT H0 o->C t->Rp K o (e p) x->(∀us d u,LS K C o us (φ p) d u->N us d u)->g x t o λd W=>tt d W λok L=>if ok=true then te d L λv u=>N [v] d u else N [] d L)(k:∀l D B,aT H0 D->H0 l=none->D l=some (.lst B)->bO K D (ps.flatMap φ) B->Q (.ref l) D):mC (zH K a) g tt te Q σ0 H0:=by
 have l:=hr.length;rw[bM]at l;refine gb (xs:=vs) (λi t us o=>C t/\aT H0 o/\bO K o ((ps.take i).flatMap φ) us) #[S,aT.refl _,.nil] ?_ (small ()) ?_ ?_ ?_
 .rintro i t us o hi ⟨_,_,r⟩;rw[r.length];exact Nu (zc R _) (by rw[L1];exact Nat.min_le_left _ _)
 .rintro i t us o hi ⟨_,s,_⟩;exact O.same s
 .rintro i x t us o hx ⟨p,s,r⟩;have(y,J,M):=hr.get' hx;rw[EF]at J;have(q,H,rfl):=xn.mp J;have I:i<ps.length:=(bH.mp H).1;have U:ps[i]=q:=(bH.mp H).2
  have z:=hs q (M9 H) x t o (λB d u=>C d/\aT H0 u/\bO K u ((ps.take (i+1)).flatMap φ) (us++B)) s p (M.same s) λB d u m=>by
   refine#[m.p,s.trans m.s,?_];rw[mu I,U,NQ];exact(r.same m.s).append (by rw[OT,SM,Ny];exact m.r)
  simp only[Ny]at z;exact z
 .rintro t us o ⟨_,s,r⟩ p hp;rw[l,Nl]at r;exact k p _ us (s.trans (ae hp _)) (s.free hp) af (r.same (ae hp _))
theorem Ba {G:Type}{e:G->T}{φ:G->List T}{ps:List G}(C:St->Prop)(O:H0 a=some (.lst vs))(hr:bO K H0 (ps.map e) vs)(Y:ps.length<=900)(R:∀p,(φ p).length<=1)(S:C σ0)(hs:∀p∈ps,∀x t o (N:List V->St->Hp->Prop),aT H0 o->C t->Rp K o (e p) x->(∀us d u,LS K C o us (φ p) d u->N us d u)->g x t o λd W=>tt d W λok L=>if ok=true then te d L λv u=>N [v] d u else N [] d L)(k:∀l D B,aT H0 D->H0 l=none->D l=some (.lst B)->bO K D (ps.flatMap φ) B->Q (.ref l) D):mC (GA K a) g tt te Q σ0 H0:=by
 have l:=hr.length;rw[bM]at l;refine kX (xs:=vs) (λi t us o=>C t/\aT H0 o/\bO K o ((ps.take i).flatMap φ) us) #[S,aT.refl _,.nil] ?_ (small ()) ?_ ?_ ?_
 .rintro i t us o hi ⟨_,_,r⟩;rw[r.length];exact Nu (zc R _) (by rw[L1];exact Nat.min_le_left _ _)
 .rintro i t us o hi ⟨_,s,_⟩;exact bQ.of (s _ _ O)
 .rintro i x t us o hx ⟨p,s,r⟩;have(y,J,M):=hr.get' hx;rw[EF]at J;have(q,H,rfl):=xn.mp J;have I:i<ps.length:=(bH.mp H).1;have U:ps[i]=q:=(bH.mp H).2
  have z:=hs q (M9 H) x t o (λB d u=>C d/\aT H0 u/\bO K u ((ps.take (i+1)).flatMap φ) (us++B)) s p (M.same s) λB d u m=>by
   refine#[m.p,s.trans m.s,?_];rw[mu I,U,NQ];exact(r.same m.s).append (by rw[OT,SM,Ny];exact m.r)
  simp only[Ny]at z;exact z
 .rintro t us o ⟨_,s,r⟩ p hp;rw[l,Nl]at r;exact k p _ us (s.trans (ae hp _)) (s.free hp) af (r.same (ae hp _))
theorem bO.kY :∀{ns:List Str}{vs:List V},bO K H (ns.map .s) vs->vs=ns.map V.str
 | [],_,h=>h.jk
 |n::r,_,h=>by
  have(v,d,rfl,g,h):=bO.inv (K:=K) (x:=.s n) h;rw[g.aJ,kY h];rfl
structure dZ(M:List Addr) (f:Addr) (H H':Hp):Prop where
 oth:∀b o,b∉M->b≠f->H b=some o->H' b=some o
 kt:Kt H H'
 ff:cP H' f
theorem dZ.refl (d:cP H f):dZ M f H H:=#[λ_ _ _ _ e=>e,Kt.refl,d]
theorem dZ.ext (a:dZ M f H H1)(e:Ext f H1 H2):dZ M f H H2:=#[λb o g d h=>e.1 b o d (a.oth b o g d h),a.kt.trans (e.kt a.ff),e.2]
theorem dZ.same (a:dZ M f H H1)(e:aT H1 H2):dZ M f H H2:=#[λb o g d h=>e b o (a.oth b o g d h),a.kt.trans (Kt.same e),let⟨p,q,h⟩:=a.ff;#[p,q,e _ _ h]]
theorem dZ.trans (a:dZ M f H H1)(b:dZ M f H1 H2):dZ M f H H2:=#[λc o e d h=>b.oth c o e d (a.oth c o e d h),a.kt.trans b.kt,b.ff]
theorem dZ.upd {M:List Addr}{f:Addr}{H H1:Hp}{l:Addr}{us:List V}{o:HO}(a:dZ M f H H1)(r:l∈M)(n:l≠f)(h:H1 l=some (.lst us)):dZ M f H (upd H1 l o):=#[λb g d m e=>by have z:b≠l:=(λz=>d (by rw[z];exact r));rw[au z];exact a.oth b g d m e,a.kt.trans (Kt.lst h o),let⟨p,q,e⟩:=a.ff;#[p,q,by rw[au n.symm];exact e]]
theorem dZ.CC (a:dZ M f H H1)(hn:H l=none)(n:l≠f)(h:H1 l=some (.lst us)):dZ M f H (L2.upd H1 l o):=#[λb d m g e=>by rw[au (ay e hn)];exact a.oth b d m g e,a.kt.trans (Kt.lst h o),let⟨p,q,e⟩:=a.ff;#[p,q,by rw[au n.symm];exact e]]
theorem dZ.GL (a:dZ M f H H1)(hn:H l=none)(n:l≠f)(h:H1 l=some (.dK us)):dZ M f H (L2.upd H1 l o):=#[λb d m g e=>by rw[au (ay e hn)];exact a.oth b d m g e,a.kt.trans (Kt.upd h (λ_ z=>nomatch z) (λ_ _ z=>nomatch z) o),let⟨p,q,e⟩:=a.ff;#[p,q,by rw[au n.symm];exact e]]
theorem dZ.drop (a:dZ (l::M) f H H1)(hn:H l=none):dZ M f H H1:=#[λb o e d h=>a.oth b o (λz=>(M8.mp z).elim (λz=>by subst z;rw[hn]at h;cases h) e) d h,a.kt,a.ff]
theorem dZ.more (a:dZ M f H H1):dZ (l::M) f H H1:=#[λb o e d h=>a.oth b o (λz=>e (.tail _ z)) d h,a.kt,a.ff]
theorem dZ.sub (a:dZ M f H H1)(h:∀z∈M,z∈M'):dZ M' f H H1:=#[λb o g d e=>a.oth b o (λz=>g (h b z)) d e,a.kt,a.ff]
theorem dZ.ex (a:dZ [] f H H1):Ext f H H1:=#[λb o n h=>a.oth b o nofun n h,a.ff]
theorem Ext.sY (d:cP H f)(e:Ext f H H1):dZ M f H H1:=(dZ.refl d).ext e
theorem dZ.CD (a:dZ [] f H H1)(n:b≠f)(h:H b=some o):H1 b=some o:=a.oth b o nofun n h
theorem dZ.jF (a:dZ [l] f H H1)(d:b≠l)(n:b≠f)(h:H b=some o):H1 b=some o:=a.oth b o (λz=>d (IF.mp z)) n h
theorem dZ.Lv (a:dZ [l,m] f H H1)(e:b≠l)(d:b≠m)(n:b≠f)(h:H b=some o):H1 b=some o:=a.oth b o (λz=>(M8.mp z).elim e λz=>d (IF.mp z)) n h
theorem dZ.free (a:dZ M f H H1)(d:H1 p=none)(g:p∉M):H p=none:=by
 cases e:H p with
 |none=>rfl
 |some o =>
  by_cases c:p=f
  .subst c;have(x,y,z):=a.ff;rw[z]at d;cases d
  .rw[a.oth p o g c e]at d;cases d
theorem bA (d:cP H f)(h:H l=none):l≠f:=λz=>by
 have(p,q,e):=d;rw[<-z,h]at e
 cases e
theorem iL (xs:List V)(n:Nat):jv xs none (some (n:Int))=xs.take n:=by
 unfold jv;rw[HT.kg,HT.sH,List.drop_zero,Nat.sub_zero];rcases Uv n xs.length with h|h
 .rw[PJ h]
 .rw[SN h,Oh (i5 _),Oh h]
theorem qL (xs:List V)(j:Nat):jv xs (some (j:Int)) none=xs.drop j:=by
 unfold jv;rw[HT.kg,HT.sH];rcases Uv j xs.length with h|h
 .rw[PJ h,Oh (by rw[NW];omega)]
 .rw[SN h,P6 h,P6 (i5 _)];simp
theorem xO (xs:List V)(a b:Nat)(h:b<=xs.length)(d:a<=b):jv xs (some (a:Int)) (some (b:Int))=(xs.drop a).take (b-a):=by
 unfold jv;rw[HT.kg,HT.kg,PJ h,PJ ()]
end L2
namespace L2
open PySem PySem.Spec PyProof.Rows
def qZ(b:Bool)(h:Heap)(l:Addr)(xs:Array eF):Prop:=match b with|false=>h.IsList l xs|true=>h.IsTuple l xs
def qz(b:Bool)(h:Heap)(i l:Addr)(k:Nat):Prop:=match b with|false=>h.IsListIter i l k|true=>h.IsTupleIter i l k
theorem qZ.at (x:qZ b h l xs)(k:∀o,h.get? l=some o->h'.get? l=some o):qZ b h' l xs:=by
 cases b with
 |false=>exact Heap.IsList.at (show h.IsList l xs from x) k
 |true=>have(o,e,r):=(show h.IsTuple l xs from x);exact#[o,k o e,r]
theorem qz.at (x:qz b h i l n)(k:∀o,h.get? i=some o->h'.get? i=some o):qz b h' i l n:=by
 cases b with
 |false=>exact Heap.IsListIter.at (show h.IsListIter i l n from x) k
 |true=>have(o,e,r):=(show h.IsTupleIter i l n from x);exact#[o,k o e,r]
theorem qZ.extBut (x:qZ b h l xs)(hs:Tw c h h')(d:l≠c):qZ b h' l xs:=x.at λo e=>hs l o d e
theorem qz.extBut (x:qz b h i l n)(hs:Tw c h h')(d:i≠c):qz b h' i l n:=x.at λo e=>hs i o d e
theorem qZ.got (x:qZ b h l xs):∃o,h.get? l=some o:=by
 cases b with
 |false=>have(o,e,_):=(show h.IsList l xs from x);exact#[o,e]
 |true=>have(o,e,_):=(show h.IsTuple l xs from x);exact#[o,e]
theorem qz.got (x:qz b h i l n):∃o,h.get? i=some o:=by
 cases b with
 |false=>have(o,e,_):=(show h.IsListIter i l n from x);exact#[o,e]
 |true=>have(o,e,_):=(show h.IsTupleIter i l n from x);exact#[o,e]
theorem uy (d:s.heap.IsTupleIter it t i)(ht:s.heap.IsTuple t items)(p:items[i]?=some x)(hQ:∀h',h'.IsTupleIter it t (i+1)->PL it s.heap h'->Q x {s with heap:=h'}):Na (Nf prog w) A (NS (.ref it)) Q E s:=by
 have(o,e,q,hd):=id d;have(r,g,_,u,l):=ht;have m:=d.typeIs;unfold NS;refine cB (OD (name:=Of "__next__") m OU (O3 OU m QS ?_ (QH _)));show Na _ _ (UZ (.ref it) 0>>=_) _ _ s;refine cB (NU e hd (x:=.ref t) rfl ?_);show Na _ _ (if(Value.ref t == Value.none)=true then _ else _) _ _ s;rw[if_neg (show ¬((Value.ref t == Value.none)=true)from Nk)];show Na _ _ (UZ (.ref it) 1>>=_) _ _ s;refine cB (NU e hd (x:=.int i 0) rfl ?_);show Na _ _ (UI (.ref t)>>=_) _ _ s;refine cB (OV g l ?_);simp only[OL,p];refine cB (Q8 e hd (by simp) (vv #[x,rfl,vv (hQ _ #[_,ON _ e (Rj (QI hd _)),(Uw ..).trans q,?_] (TY ..))]));rw[QI hd];simp[Qd]
theorem vY (q:A.handled=none)(d:s.heap.IsTupleIter it t i)(ht:s.heap.IsTuple t items)(u:items[i]?=none)(hE:∀h' e,Tw it s.heap h'->(∃o,h'.get? e=some o/\o.cls=.type "StopIteration")->E (.ref e) {s with heap:=h'}):Na (Nf prog w) A (NS (.ref it)) Q E s:=by
 have(o,l,z,hd):=id d;have(v,g,_,y,p):=ht;have r:=d.typeIs;unfold NS;refine cB (OD (name:=Of "__next__") r OU (O3 OU r QS ?_ (QH _)));show Na _ _ (UZ (.ref it) 0>>=_) _ _ s;refine cB (NU l hd (x:=.ref t) rfl ?_);show Na _ _ (if(Value.ref t == Value.none)=true then _ else _) _ _ s;rw[if_neg (show ¬((Value.ref t == Value.none)=true)from Nk)];show Na _ _ (UZ (.ref it) 1>>=_) _ _ s;refine cB (NU l hd (x:=.int i 0) rfl ?_);show Na _ _ (UI (.ref t)>>=_) _ _ s;refine cB (OV g p ?_);simp only[OL,u];refine cB (RX (cB (Q8 l hd (by simp) ?_)));show Na _ _ (newExc (.type "StopIteration") []>>=_) _ _ _;refine cB ?_;simp only[newExc,newTuple];refine cB (NL ?_ (by size_fits));refine cB (m:=firstArgMember _ _) (wpAny_of_eq (a:=Value.none) (by first|rfl|(simp only[firstArgMember];rfl)) ?_)
 refine NL ?_ (by size_fits);simp only[raiseNew];refine cB (wpAny_handled ?_)
 first|rw[show A.in1.handled=none from q]|rw[q]
 refine cB (vv (wpAny_throw ?_));exact hE _ _ (((TY ..).extBut.push _).push _) #[_,Nc _ rfl,rfl]
theorem qc (d:qz b s.heap it l i)(g:qZ b s.heap l items)(e:items[i]?=some x)(hQ:∀h',qz b h' it l (i+1)->PL it s.heap h'->Q x {s with heap:=h'}):Na (Nf prog w) A (NS (.ref it)) Q E s:=by
 cases b with
 |false=>exact wpAny_nextOf_list_item d g e hQ
 |true=>exact uy d g e hQ
theorem vZ (p:A.handled=none)(d:qz b s.heap it l i)(m:qZ b s.heap l items)(g:items[i]?=none)(hE:∀h' e,Tw it s.heap h'->(∃o,h'.get? e=some o/\o.cls=.type "StopIteration")->E (.ref e) {s with heap:=h'}):Na (Nf prog w) A (NS (.ref it)) Q E s:=by
 cases b with
 |false=>exact wpAny_nextOf_list_end p d m g hE
 |true=>exact vY p d m g hE
noncomputable abbrev ny(b:Bool)(l:Addr):Obj:={cls:=.type (cond b "tuple_iterator" "list_iterator"),data:=.fields #[.ref l,.int 0 0,]}
theorem xP (d:qZ b s.heap l items)(e:Q (.ref s.heap.objs.size) {s with heap:=s.heap.push (ny b l)}):Na (Nf prog w) A (Tp (.ref l)) Q E s:=by
 cases b with
 |false=>exact QV d e
 |true=>exact wpAny_pyIter_tuple d e
noncomputable abbrev KO(d:Bool)(h:Heap)(l1:Addr):Heap:=h.push (ny d l1)
noncomputable abbrev KP(e d:Bool)(h:Heap)(l1 l2:Addr):Heap:=(KO e h l1).push (ny d l2)
noncomputable abbrev KQ(d e:Bool)(h:Heap)(l1 l2:Addr):Heap:=(KP d e h l1 l2).push {cls:=.type "tuple",data:=.seq #[.ref h.objs.size,.ref (KO d h l1).objs.size,]}
noncomputable abbrev KR(e d:Bool)(h:Heap)(l1 l2:Addr):Heap:=(KQ e d h l1 l2).push {cls:=.type "tuple",data:=.seq #[.none,.none,]}
noncomputable abbrev Ia(e d:Bool)(h:Heap)(l1 l2:Addr):Heap:=(KR e d h l1 l2).push {cls:=.type "zip",data:=.fields #[.none,.bool false,.bool false,.ref (KP e d h l1 l2).objs.size,.ref (KQ e d h l1 l2).objs.size,]}
theorem Ib (l m:Bool)(l1 l2:Addr)(xs ys:Array eF):
  Meets (QW.«zip.__new__» #[[.type "zip",.ref l1,.ref l2],[]]) (λ_ R s=>qZ l s.heap l1 xs/\qZ m s.heap l2 ys/\R (.ok (.ret (.ref (KR l m s.heap l1 l2).objs.size))) {s with heap:=Ia l m s.heap l1 l2}) :=
 .of_wp λv w A R s h=>by
  have(B,g,d,u,y):=s;have(q,p,h):=h;have z:=sub_zip;have t:qZ l (UO #[B,g,d,u,y]) l1 xs:=q;have r:qZ m (UO #[B.push (ny l l1),g,d,u,y]) l2 ys:=p.at λo e=>tF _ e
  wp_walk using xP t,xP r
  exact#[_,rfl,h]
theorem CF (e:h.get? i=some (ny b l)):qz b h i l 0:=by
 cases b with
 |false=>exact#[_,e,rfl,rfl]
 |true=>exact#[_,e,rfl,rfl]
theorem EZ (t:qZ b1 s.heap l1 xs)(r:qZ b2 s.heap l2 ys)(h:∀h',Tf h' (s.heap.objs.size+4) (s.heap.objs.size+2) (s.heap.objs.size+3) .none->Qe h' (s.heap.objs.size+2) (.ref s.heap.objs.size) (.ref (s.heap.objs.size+1)) ->
   Qe h' (s.heap.objs.size+3) .none .none->qz b1 h' s.heap.objs.size l1 0->qz b2 h' (s.heap.objs.size+1) l2 0->h'.objs.size=s.heap.objs.size+5 ->
   (∀c o,s.heap.get? c=some o->h'.get? c=some o)->Q (.ref (s.heap.objs.size+4)) {s with heap:=h'}):
  Na (Nf prog w) A (call (.type "zip") [.ref l1,.ref l2]) Q E s:=by
 refine callType_new PySem.F.called_zip (by decide) (PySem.F.typeCall_zip_2 _ _) (PySem.F.newCall_zip_2 _ _) (λq=>PySem.F.args_object_init_3 q _ _) PySem.F.entry_zip_new (Ib b1 b2 l1 l2 xs ys) #[t,r,?_];have p:(KO b1 s.heap l1).objs.size=s.heap.objs.size+1:=Oc ..;have m:(KP b1 b2 s.heap l1 l2).objs.size=s.heap.objs.size+2:=by rw[Oc,p]
 have l:(KQ b1 b2 s.heap l1 l2).objs.size=s.heap.objs.size+3:=by rw[Oc,m]
 have g:(KR b1 b2 s.heap l1 l2).objs.size=s.heap.objs.size+4:=by rw[Oc,l]
 have B:(Ia b1 b2 s.heap l1 l2).objs.size=s.heap.objs.size+5:=by rw[Oc,g]
 have d:∀{h:Heap}{c:Addr}{o:Obj}(x:Obj),h.get? c=some o->(h.push x).get? c=some o:=λx e=>tF _ e;have u:(Ia b1 b2 s.heap l1 l2).get? (KR b1 b2 s.heap l1 l2).objs.size=some _:=Nc _ rfl;have v:(Ia b1 b2 s.heap l1 l2).get? (KQ b1 b2 s.heap l1 l2).objs.size=some _:=d _ (Nc _ rfl);have y:(Ia b1 b2 s.heap l1 l2).get? (KP b1 b2 s.heap l1 l2).objs.size=some _:=d _ (d _ (Nc _ rfl));have z:(Ia b1 b2 s.heap l1 l2).get? (KO b1 s.heap l1).objs.size=some (ny b2 l2):=d _ (d _ (d _ (Nc _ rfl)));have C:(Ia b1 b2 s.heap l1 l2).get? s.heap.objs.size=some (ny b1 l1):=d _ (d _ (d _ (d _ (Nc _ rfl))));show _/\_;rw[m,l,g]at u;rw[p,m]at y;rw[l]at v;rw[p]at z;rw[g];exact#[#[_,u,rfl],h _ u y v (CF C) (CF z) B λc o x=>d _ (d _ (d _ (d _ (d _ x))))]
theorem E1 {TI TO:Addr}(D:ZipApart z TI TO R O l1 l2)(hz:Tf s.heap z TI TO .none)(ak:Qe s.heap TI (.ref R) (.ref O))(aj:Qe s.heap TO a b)(h1:qz b1 s.heap R l1 k1)(h2:qz b2 s.heap O l2 k2)(hl1:qZ b1 s.heap l1 xs)(hl2:qZ b2 s.heap l2 ys)(hx:xs[k1]?=some x)(hy:ys[k2]?=some y)(hQ:∀h',Tf h' z TI TO (Qd s.heap.objs.size)->Qe h' TO x y->qz b1 h' R l1 (k1+1)->qz b2 h' O l2 (k2+1)->Qe h' s.heap.objs.size x y->h'.objs.size=s.heap.objs.size+1 ->
   (∀c o,c≠z->c≠TO->c≠R->c≠O->s.heap.get? c=some o->h'.get? c=some o)->Q (some (.ref s.heap.objs.size)) {s with heap:=h'}):
  Na (Nf prog w) A (Rn (.ref z)) Q E s:=by
 have ai:s.TypeIs (.ref z) "zip":=#[_,hz,rfl];unfold Rn;refine cB (Sz (OD (name:=Of "__next__") ai Qf (O3 Qf ai S7 ?_ (SO _))));show Na _ _ (UZ (.ref z) 2>>=_) _ _ _;refine cB (NU hz rfl (x:=.bool false) rfl ?_);show Na _ _ (UZ (.ref z) 3>>=_) _ _ _;refine cB (NU hz rfl (x:=.ref TI) rfl (cB (OV ak rfl ?_)));show Na _ _ (OO (.ref z)>>=_) _ _ _;refine cB ?_;unfold OO;refine cB (NU hz rfl (x:=.none) rfl (vv ?_));simp only[if_true];refine cB (RX (cB (NU hz rfl (x:=.ref TO) rfl ?_)));refine cB (Py hz (by simp) λae C g=>?_)
 replace C:Tf ae z TI TO .ellipsis:=C
 refine cB ?_;simp only[UJ,List.zipIdx_nil,QE,Q4];refine cB (cB (Ru ?_));show Na _ _ (NS (.ref R)>>=_) _ _ _;refine cB (qc (h1.extBut g.extBut D.i1z) (hl1.extBut g.extBut D.l1z) hx λad Z m=>vv ?_);have J:Qe ad TO a b:=m.extBut _ _ D.TOi1 (g.extBut _ _ D.TOz aj);refine cB (OV J rfl (cB (RA J λac u l=>?_)))
 replace u:Qe ac TO x b:=u
 refine cB (wpAny_letGo (vv ?_));refine cB (cB (Ru ?_));show Na _ _ (NS (.ref O)>>=_) _ _ _;refine cB (qc (((h2.extBut g.extBut D.i2z).extBut m.extBut D.i12.symm).extBut l.extBut D.TOi2.symm) (((hl2.extBut g.extBut D.l2z).extBut m.extBut D.l2i1).extBut l.extBut D.l2TO) hy λab W r=>vv ?_);have I:Qe ab TO x b:=r.extBut _ _ D.TOi2 u;refine cB (OV I rfl (cB (RA I λd p q=>?_)))
 replace p:Qe d TO x y:=p
 refine cB (wpAny_letGo (vv (vv (cB (OV p rfl (cB (wpAny_newTuple ?_)))))));have ah:d.objs.size=s.heap.objs.size:=by rw[q.1,r.1,l.1,m.1,g.1]
 have L:Tf d z TI TO .ellipsis:=q.extBut _ _ D.TOz.symm (r.extBut _ _ D.i2z.symm (l.extBut _ _ D.TOz.symm (m.extBut _ _ D.i1z.symm C)));have U:∀c o,c≠z->c≠TO->c≠R->c≠O->s.heap.get? c=some o->d.get? c=some o:=λc o c1 c2 c3 c4 e=>q.extBut _ _ c2 (r.extBut _ _ c4 (l.extBut _ _ c2 (m.extBut _ _ c3 (g.extBut _ _ c1 e))));have Y:qz b1 d R l1 (k1+1):=((Z.extBut l.extBut D.TOi1.symm).extBut r.extBut D.i12).extBut q.extBut D.TOi1.symm;have V:qz b2 d O l2 (k2+1):=W.extBut q.extBut D.TOi2.symm;have S:z<d.objs.size:=L0 L;show Na _ _ (Qw (.ref z) (.ref d.objs.size)>>=_) _ _ _;refine cB ?_;unfold Qw;have T:Tf (d.push {cls:=.type "tuple",data:=.seq #[x,y,]}) z TI TO .ellipsis:=tF _ L;refine cB (Py T (by simp) λaa B H=>?_)
 replace B:Tf aa z TI TO (Qd d.objs.size):=B
 refine Py B (by simp) λv t G=>?_
 replace t:Tf v z TI TO (Qd d.objs.size):=t
 have up:∀c o,c≠z->d.get? c=some o->v.get? c=some o:=λc o c1 e=>G.extBut _ _ c1 (H.extBut _ _ c1 (tF _ e));have M:Qe v d.objs.size x y:=G.extBut _ _ (QU S) (H.extBut _ _ (QU S) (Nc _ rfl));have ag:v.objs.size=d.objs.size+1:=by rw[G.1,H.1,Oc]
 rw[ah]at t M ag;refine vv #[_,rfl,vv ?_];show Q (some (.ref d.objs.size)) _;rw[ah];exact hQ v t (up _ _ D.TOz p) (Y.at λo e=>up _ o D.i1z e) (V.at λo e=>up _ o D.i2z e) M ag λc o c1 c2 c3 c4 e=>up c o c1 (U c o c1 c2 c3 c4 e)
theorem Ic {TI TO:Addr}(hh:A.handled=none)(D:ZipApart z TI TO J I l1 l2)(L:Tf s.heap z TI TO .none)(ab:Qe s.heap TI (.ref J) (.ref I))(aa:Qe s.heap TO a b)(h1:qz b1 s.heap J l1 Z)(h2:qz b2 s.heap I l2 Y)(hl1:qZ b1 s.heap l1 xs)(hl2:qZ b2 s.heap l2 ys)(hend:xs[Z]?=none\/ys[Y]?=none)(hQ:∀h',(∀c o,c≠z->c≠TO->c≠J->c≠I->s.heap.get? c=some o->h'.get? c=some o)->Q none {s with heap:=h'}):Na (Nf prog w) A (Rn (.ref z)) Q E s:=by
 have S:s.TypeIs (.ref z) "zip":=#[_,L,rfl]
 have C:∀(h':Heap) (e:Addr),(∀c o,c≠z->c≠TO->c≠J->c≠I->s.heap.get? c=some o->h'.get? c=some o)->(∃o,h'.get? e=some o/\o.cls=.type "StopIteration") ->
   Na (Nf prog w) A (do if(←Uh (.ref e) (.type "StopIteration"))then pure none else throw (.ref e)) Q E {s with heap:=h'}:=λh' e hk ⟨o,ho,hc⟩ =>
  cB (Rq (T:="StopIteration") (b:=true) #[o,ho,hc] isSubtype_stop (vv (hQ _ hk)))
 unfold Rn;refine cB (Sz (OD (name:=Of "__next__") S Qf (O3 Qf S S7 ?_ (SO _))));show Na _ _ (UZ (.ref z) 2>>=_) _ _ _;refine cB (NU L rfl (x:=.bool false) rfl ?_);show Na _ _ (UZ (.ref z) 3>>=_) _ _ _;refine cB (NU L rfl (x:=.ref TI) rfl (cB (OV ab rfl ?_)));show Na _ _ (OO (.ref z)>>=_) _ _ _;refine cB ?_;unfold OO;refine cB (NU L rfl (x:=.none) rfl (vv ?_));simp only[if_true];refine cB (RX (cB (NU L rfl (x:=.ref TO) rfl ?_)));refine cB (Py L (by simp) λR m d=>?_)
 replace m:Tf R z TI TO .ellipsis:=m
 refine cB ?_;simp only[UJ,List.zipIdx_nil,QE,Q4];refine cB (cB (Ru ?_));show Na _ _ (NS (.ref J)>>=_) _ _ _
 cases hx:xs[Z]? with
 |none =>
  refine cB (vZ hh (h1.extBut d.extBut D.i1z) (hl1.extBut d.extBut D.l1z) hx λr e g he=>?_);have(W,p,B):=he;have u:Tf r z TI TO .ellipsis:=g _ _ D.i1z.symm m;have H:e≠z:=λx=>by subst x;rw[u]at p;cases p;simp at B
  exact Py u (by simp) λG _ l=>C G e (λc o U _ c3 _ x=>l.extBut _ _ U (g _ _ c3 (d.extBut _ _ U x))) #[W,l.extBut _ _ H p,B]
 |some x =>
  have hy:ys[Y]?=none:=by
   rcases hend with h|h
   .rw[hx]at h;cases h
   .exact h
  refine cB (qc (h1.extBut d.extBut D.i1z) (hl1.extBut d.extBut D.l1z) hx λr ac g=>vv ?_);have q:Qe r TO a b:=g.extBut _ _ D.TOi1 (d.extBut _ _ D.TOz aa);refine cB (OV q rfl (cB (RA q λG V l=>?_)));refine cB (wpAny_letGo (vv ?_));refine cB (cB (Ru ?_));show Na _ _ (NS (.ref I)>>=_) _ _ _;refine cB (vZ hh (((h2.extBut d.extBut D.i2z).extBut g.extBut D.i12.symm).extBut l.extBut D.TOi2.symm) (((hl2.extBut d.extBut D.l2z).extBut g.extBut D.l2i1).extBut l.extBut D.l2TO) hy λO e y he=>?_);have(W,p,B):=he;have t:Tf O z TI TO .ellipsis:=y _ _ D.i2z.symm (l.extBut _ _ D.TOz.symm (g.extBut _ _ D.i1z.symm m));have H:e≠z:=λx=>by subst x;rw[t]at p;cases p;simp at B
  exact Py t (by simp) λM _ v=>C M e (λc o U c2 c3 c4 x=>v.extBut _ _ U (y _ _ c4 (l.extBut _ _ c2 (g.extBut _ _ c3 (d.extBut _ _ U x))))) #[W,v.extBut _ _ H p,B]
def nU(K:bN)(b:Bool)(H:Hp)(p:Addr)(xs:List V):Prop:=match b with|false=>bQ K H p xs|true=>cH K H p xs
theorem lR (I:Inv X g u H s)(h:nU X.K c H p xs):∃d:List eF,Vals xs d/\qZ c s.heap p d.toArray/\xs.length<=mH:=by
 cases c with
 |false =>
  have(d,l,m,q):=I.list h;exact#[d,l,m.isList,q]
 |true =>
  have(d,l,m,q):=I.tuple h;exact#[d,l,(show Heap.IsTuple _ _ _ by have(o,e,r):=m;exact#[o,e,r]),q]
theorem Inv.wc {fp:List Addr}(I:Inv X pins σ H s)(l:∀b∈fp,oh X pins H b)(k:∀b o,b∉fp->s.heap.get? b=some o->h'.get? b=some o):Inv X pins σ H {s with heap:=h',toks:=t'}:=by
 have g:∀b u,H b=some u->b∉fp:=λb u e z=>by rw[(l b z).1]at e;cases e
 have B:X.env.locals∉fp:=λz=>(l _ z).2.1 rfl
 refine I.step (g':=s.gens) (d':=s.drawn) (ch:=fp) (λb y=>?_) (λb o _ _ d e _=>k b o d e) (λb o _ _ d e _=>#[o.slots,k b o d e]) (λ_ _ _ _ n=>n)
  (λb o d e=>#[o,k b o d e]) (λ_ _ e=>e) (λ_ _ _ e=>e) (λb O e=>#[#[],by rw[e];simp]) (λm t=>?_) (λb u e=>?_) I.bare
 .have(_,J,_,G,D,C):=l b y;exact#[G,J,D,C]
 .have(o,L,M,p,r):=t;exact#[o,L,M,k _ o B p,r]
 .refine(I.hok b u e).stay (λc v d q=>k c v ?_ q) (λ_ q=>q) λ_ _ q=>q;rcases d with z|z
  .rw[z];exact g b u e
  .exact g c _ z
theorem Inv.wg {fp:List Addr}(I:Inv X pins σ H s)(t:∀b∈fp,oh X pins H b)(k:∀b o,b∉fp->s.heap.get? b=some o->h'.get? b=some o)(y:s.heap.objs.size<=a)(new:eM X.prog X.w (upd H a o) h' a o):
  Inv X pins σ (upd H a o) {s with heap:=h',toks:=t'}:=by
 have l:∀b u,H b=some u->b∉fp:=λb u e z=>by rw[(t b z).1]at e;cases e
 have G:X.env.locals∉fp:=λz=>(t _ z).2.1 rfl;have C:H a=none:=I.hok.fresh y;have g:∀b u,H b=some u->upd H a o b=some u:=λb u e=>by rw[au (ay e C)];exact e
 refine I.step (g':=s.gens) (d':=s.drawn) (ch:=fp) (λb p=>?_) (λb o _ _ d e _=>k b o d e) (λb o _ _ d e _=>#[o.slots,k b o d e]) (λb T _ e n=>?_)
  (λb o d e=>#[o,k b o d e]) (λb _ e=>g b _ e) (λb _ _ e=>g b _ e) (λb S e=>#[#[],by rw[g b _ e];simp]) (λm D=>?_) (λb u e=>?_) I.bare
 .have(_,O,_,M,L,J):=t b p;exact#[M,O,L,J]
 .rw[au (Nt (Nd (L0 e) y))];exact n
 .have(o,Q,R,B,r):=D;exact#[o,Q,R,k _ o G B,r]
 .by_cases p:b=a
  .subst p;rw[af]at e;cases e;exact new
  .rw[au p]at e;refine(I.hok b u e).stay (λc v d q=>k c v ?_ q) (λc q=>g c _ q) λc _ q=>g c _ q;rcases d with z|z
   .rw[z];exact l b u e
   .exact l c _ z
noncomputable def JY (K : bN) (l : Bool) (l1 : Addr) (g : Bool) (l2 : Addr) : It :=
  #[λi H => ∃ e d x y, nU K l H l1 e ∧ nU K g H l2 d ∧ e[i]? = some x ∧ d[i]? = some y,
   λi H v m => ∃ p x y, H p = none ∧ v = .ref p ∧ m = upd H p (.tup [x, y]) ∧ (∀ e, nU K l H l1 e -> e[i]? = some x) ∧ ∀ d, nU K g H l2 d -> d[i]? = some y,
   λi H => ∃ e d, nU K l H l1 e ∧ nU K g H l2 d ∧ (e.length ≤ i ∨ d.length ≤ i)]
theorem nU.inj (I:Inv X d g H s)(h:nU X.K b H a xs)(e:nU X.K b H a ys):xs=ys:=by
 cases b with
 |false=>exact I.xm h e
 |true=>exact I.qE h e
theorem CG {K:bN}{V:List Expr}(z TI TO Q O l1 l2:Addr)(D:ZipApart z TI TO Q O l1 l2):Turn P w K (.Tuple V x1 ab) (JY K b1 l1 b2 l2) [z,TI,TO,Q,O] z
  (λi h=>Tf h z TI TO .none/\Qe h TI (.ref Q) (.ref O)/\(∃a b,Qe h TO a b)/\qz b1 h Q l1 i/\qz b2 h O l2 i) where
 mem:=by simp
 obj:=λi h t b m=>by
  have(G,g,(a,c,p),L,J):=t
  have T:∀{b:Bool}{i l:Addr}{k:Nat},qz b h i l k->∃o,h.get? i=some o/\∀v,o.data≠.cell v:=λ{b i l k} q=>by
   cases b with
   |false=>have(o,e,_,d):=(show h.IsListIter i l k from q);exact#[o,e,λv z=>by rw[d]at z;cases z]
   |true=>have(o,e,_,d):=(show h.IsTupleIter i l k from q);exact#[o,e,λv z=>by rw[d]at z;cases z]
  simp only[M8,Nv,or_false]at m;rcases m with rfl|rfl|rfl|rfl|rfl
  .exact#[_,G,λv z=>by cases z]
  .exact#[_,g,λv z=>by cases z]
  .exact#[_,p,λv z=>by cases z]
  .exact T L
  .exact T J
 keep:=λi h h' t k=>by
  have(G,g,(a,c,p),L,J):=t;exact#[k z (by simp) _ G,k TI (by simp) _ g,#[a,c,k TO (by simp) _ p],L.at λo e=>k Q (by simp) o e,J.at λo e=>k O (by simp) o e]
 item:=by
  intro X hP hw hK hc i S s σ H E I hf t hg;subst hP hw hK;have(xs,ys,x,y,C,B,hx,hy):=hg;have(G,g,(a,c,p),L,J):=t;have(ad,rv,p1,_):=lR I C;have(ac,M,p2,_):=lR I B;have(u,hu,ru):=rv.get hx;have(v,hv,aa):=M.get hy;refine E1 D G g p L J p1 p2 (x:=u) (y:=v) (by simpa using hu) (by simpa using hv) λh' a1 a2 a3 a4 a5 a6 Z=>?_;refine#[.ref s.heap.objs.size,rfl,wpAny_letOwnedTupleGo_zip (s:={s with heap:=h'}) a1 λU ae r=>?_]
  have np:∀b∈[z,TI,TO,Q,O],b≠s.heap.objs.size:=λb m e=>by
   obtain⟨o,e2⟩:∃o,s.heap.get? b=some o:=by
    simp only[M8,Nv,or_false]at m;rcases m with rfl|rfl|rfl|rfl|rfl
    .exact#[_,G]
    .exact#[_,g]
    .exact#[_,p]
    .exact L.got
    .exact J.got
   have:=L0 e2;rw[e]at this;exact N7 _ this
  have kk:∀b o,b∉[z,TI,TO,Q,O]->s.heap.get? b=some o->U.get? b=some o:=λb o m e=>by
   simp only[M8,Nv,or_false,not_or]at m;have(n1,n2,n3,n4,n5):=m;exact r.extBut _ _ n1 (Z b o n1 n3 n4 n5 e)
  have Y:Qe U s.heap.objs.size u v:=r.extBut _ _ (np z (by simp)).symm a5
  refine#[.ref s.heap.objs.size,upd H s.heap.objs.size (.tup [x,y]),I.wg (t':=s.toks) hf kk (i5 _) #[(by show 2<=mH;decide),_,.cons ru (.cons aa .nil),#[_,Y,rfl,_,rfl],_,Y,rfl],rfl,
   #[_,x,y,I.hok.fresh (i5 _),rfl,rfl,λzs R=>by rw[nU.inj I R C];exact hx,λzs R=>by rw[nU.inj I R B];exact hy],?_,λb m=>?_]
  .exact#[ae,r.extBut _ _ D.TIz (Z TI _ D.TIz D.TITO D.TIi1 D.TIi2 g),#[u,v,r.extBut _ _ D.TOz a2],a3.extBut r.extBut D.i1z,a4.extBut r.extBut D.i2z]
  .rw[au (np b m)];exact(hf b m).1
 done:=by
  intro X hP hw hK hc i S s σ H E I hf t hg;subst hP hw hK;have(xs,ys,C,B,hl):=hg;have(G,g,(a,c,p),L,J):=t;have(ad,rv,p1,_):=lR I C;have(ac,M,p2,_):=lR I B;have e1:=rv.length;have e2:=M.length;refine Ic (I.ok.hd hc) D G g p L J p1 p2 ?_ λh' Z=>#[rfl,I.wc (t':=s.toks) hf λb o m e=>?_]
  .rcases hl with hl|hl
   .left;simp;omega
   .right;simp;omega
  .simp only[M8,Nv,or_false,not_or]at m;exact Z b o m.1 m.2.2.1 m.2.2.2.1 m.2.2.2.2 e
 self:=λ_ _ _ _ _ t h=>wpAny_pyIter_zip t.1 h
def Lw(K:bN)(t:TA):TI:=λl H R=>t l H λr d=>∃g e p q o m,r=[.ref p,.ref q]/\nU K g d p o/\nU K e d q m/\R (JY K g p e q) d
theorem Ie {T:Pos}(K:bN)(hK:X.K=K)(hg:Gl X "zip")(hm:X.mg "zip"=none)(ha:PA X [a,b] t)(he:N8 [a,b] X.env=(false,eval a X.env)::N8 [b] X.env:=by rfl)(hpl:(RT z (N8 [b] X.env)).any (·.1)=false:=by rfl):PI X (.Tuple o Q y) (.Call (.Name "zip" T) [a,b] [] z) (Lw K t):=by
 subst hK;intro l s O H R I h;refine O2 (qD I hg hm boot_zip ?_ (by decide) (by decide));refine Ph ?_ he hpl;refine cR (ha z l s O H _ I h) λus d ⟨vs,H1,r,v,q1⟩=>?_;have(c1,c2,p,q,xs,ys,rfl,hx,hy,hq):=q1;have(u,w',rfl,v,r2):=vals2 v
 cases v
 cases r2
 have(Z,rv,J,_):=lR r hx;have(Y,S,G,_):=lR r hy;have V:@LT.lt Nat _ p d.heap.objs.size:=by have(_,e):=J.got;exact L0 e
 have U:@LT.lt Nat _ q d.heap.objs.size:=by have(_,e):=G.got;exact L0 e
 refine EZ J G λg L C B h1 h2 aa hk=>?_
 have D:ZipApart (d.heap.objs.size+4) (d.heap.objs.size+2) (d.heap.objs.size+3) d.heap.objs.size (d.heap.objs.size+1) p q:=by
  refine#[?_,?_,?_,?_,?_,?_,?_,?_,?_,?_,?_,?_,?_,?_,?_,?_,?_,?_]<;>(show @Ne Nat _ _;omega)
 refine wpAny_pyIter_zip (s:={d with heap:=g}) L ?_;refine#[d.heap.objs.size+4,[d.heap.objs.size+4,d.heap.objs.size+2,d.heap.objs.size+3,d.heap.objs.size,d.heap.objs.size+1],_,_,H1,rfl,r.kept (t':=d.toks) hk,CG _ _ _ _ _ p q D,#[L,C,#[_,_,B],h1,h2],λb M=>?_,hq]
 have m:d.heap.objs.size<=b:=by
  simp only[M8,Nv,or_false]at M;rcases M with rfl|rfl|rfl|rfl|rfl
  .exact Po _ 4
  .exact Po _ 2
  .exact Po _ 3
  .exact i5 _
  .exact Po _ 1
 exact r.AS m (r.hok.fresh m)
theorem E2 {K:bN}{g:TG}{G:TS}{D:Ends}(l:Nat->St->Hp->Prop)(T:l 0 d H)(B:∀i d H,i<=min xs.length ys.length->l i d H->nU K t H a xs)(z:∀i d H,i<=min xs.length ys.length->l i d H->nU K r H b ys)(hs:∀i x y d H p,xs[i]?=some x->ys[i]?=some y->l i d H->H p=none->g (.ref p) d (upd H p (.tup [x,y])) λo C=>G {D with nx:=l (i+1),ct:=l (i+1),bk:=D.nx} o C)(hd:∀d H,l (min xs.length ys.length) d H->D.nx d H):
  ∃W:Nat->Nat->St->Hp->Prop,(∃m,W 0 m d H)/\∀i m d H,W i m d H ->
   ((JY K t a r b).stop i H/\D.nx d H)\/((JY K t a r b).go i H/\∃N:St->Hp->Prop,(∀σ' q,N σ' q->∃m',m' < m/\W (i+1) m' σ' q)/\∀x q,(JY K t a r b).yld i H x q->g x d q λo C=>G {D with nx:=N,ct:=N,bk:=D.nx} o C):=by
 generalize hn:min xs.length ys.length=n at *;refine#[λi m d H=>m=n-i/\i<=n/\l i d H,#[n,by simp,Nn _,T],?_];rintro i m d H ⟨rfl,I,p⟩;have q1:=B i d H I p;have u:=z i d H I p
 by_cases v:i<n
 .have R:i<xs.length:=()
  have Q:i<ys.length:=()
  refine .inr #[#[xs,ys,xs[i],ys[i],q1,u,by simp[R],by simp[Q]],l (i+1),λσ' q O=>#[n - (i+1),(),rfl,v,O],λx q y=>?_];have(M,L,J,S,rfl,rfl,Y,U):=y;exact hs i L J d H M (Y xs q1) (U ys u) p S
 .have e:i=n:=()
  subst e;exact .inl #[#[xs,ys,q1,u,()],hd d H p]
end L2
namespace G14
open PySem L2
theorem sZ {ns:List Int}:oj (.int n) (ns.map V.int)=decide (n∈ns):=by
 unfold oj
 by_cases h:n∈ns
 .rw[decide_eq_true h,UK];exact#[.int n,NT h,show(n == n)=true from beq_self_eq_true n]
 .rw[decide_eq_false h,QX];intro y g e;have(z,d,rfl):=ND.mp g;have:z=n:=Pn (show(z == n)=true from e);exact h (this▸d)
theorem j0 {xs:List Str}:oj (.str x) (xs.map V.str)=decide (x∈xs):=by
 unfold oj
 by_cases h:x∈xs
 .rw[decide_eq_true h,UK];exact#[.str x,NT h,show(x == x)=true from beq_self_eq_true x]
 .rw[decide_eq_false h,QX];intro y g e;have(z,d,rfl):=ND.mp g;have:z=x:=Pn (show(z == x)=true from e);exact h (this▸d)
theorem qM (ns:List Int):(ns.map V.int).all oG=true:=by
 rw[NO];intro y d;have(z,_,rfl):=ND.mp d;rfl
theorem iM (xs:List Str):(xs.map V.str).all oG=true:=by
 rw[NO];intro y d;have(z,_,rfl):=ND.mp d;rfl
noncomputable def cJ(d:List Str):List Str->Option Str
 | []=>none
 |x::r=>if x∈d then some x else cJ (d++[x]) r
theorem xQ {xs:List Str}(h:xs[i]?=some x):cJ (xs.take i) (xs.drop i)=if x∈xs.take i then some x else cJ (xs.take (i+1)) (xs.drop (i+1)):=by
 have d:=(bH.mp h).1;have g:xs.drop i=x::xs.drop (i+1):=by rw[NF d,(bH.mp h).2]
 have e:xs.take (i+1)=xs.take i++[x]:=by rw[mu d,(bH.mp h).2]
 rw[g,e];rfl
theorem xR (h:nU K b H p xs)(s:aT H d):nU K b d p xs:=by
 cases b with
 |false=>exact s.seq (show bQ K H p xs from h)
 |true=>exact cH.same s (show cH K H p xs from h)
end G14
namespace L2
open PySem PySem.Spec PyProof.Rows
theorem rM {os:OsState}(F:ExcBaseFacts B newId initId bmB)(T:OwnTail h bmB bm)(hC:h.get? C=some (Qn nm q C N bs bm hdct sn sub ab col dd k0 k1 k2 k3 k5 newId))(hn:h.Ns N H)(hi:H "__init__"=some (.ref D))(hfI:h.get? D=some G)(hfc:G.cls=.type "function")(hq:∀h' e,Heap.MadeExcOf h h' e (.ref C) rest->h.objs.size<=e ->
   Na (Nf prog w) A (call (.ref D) (.ref e::rest)) (λr s'=>r=.none/\Q (.done (.ret (.ref e))) s') E #[h',g,d,t,os])(hrest:rest.length<=mH):
  Na (Nf prog w) A (QW.«type.__call__» #[.ref C::rest,[]]) Q E #[h,g,d,t,os]:=by
 repeat (first|with_reducible refine O8 hC ?_|with_reducible refine wpAny_madeBy_exc hC ?_|wp_step)
 refine codeAny_call_builtin_code (Ui _ F.quiet) (wpAny_check_new_subT F T hC ?_);refine codeAny_exc_new_subT F T hC ?_ hrest;show Na _ _ _ _ _ _;generalize ee:({cls:=.ref C,data:=.fields #[.ref h.objs.size,.none,.none,.none,.bool false,.none,]}:Obj)=oe;have kp:∀b o,h.get? b=some o->((h.push {cls:=.type "tuple",data:=.seq rest.toArray}).push oe).get? b=some o:=λb o e=>tF _ (tF _ e);have l:=kp _ _ hC;have m:=kp _ _ hfI;have u:=hn.keeps kp;have v:=T.keeps kp
 have p:((h.push {cls:=.type "tuple",data:=.seq rest.toArray}).push oe).get? (h.objs.size+1)=some oe:=by
  subst ee
  heap_get
 have y:oe.cls=.ref C:=by rw[<-ee]
 have z:(Value.ref C::bm).contains (.ref C)=true:=by simp
 unfold Uh
 repeat (first|(with_reducible refine O8 p ?_;rw[y])|(with_reducible refine Qx l ?_;rw[z])|wp_step)
 show Na _ _ (typeLookup (.ref C) _) _ _ _;refine wpAny_typeLookup_tail l u v F.mroIs F.init.lookup ?_;rw[hi];refine Oo (cB ?_);unfold bindSpecial;refine cB (RQ (T:="function") #[_,m,hfc] ?_);rw[if_pos (by decide)];refine vv (cB (Nz (hq _ (h.objs.size+1) #[kp,Rx (Ot _),h.objs.size,by rw[p,<-ee],Rx (i5 _),?_] (Ot _)) (λr s' hr=>?_) λ_ _ x=>x))
 .exact tF _ (Ux rfl rfl)
 .have(rfl,I):=hr
  wp_walk
  exact I
theorem zd {os:OsState}(F:ExcBaseFacts B newId initId bmB)(T:OwnTail h bmB bm)(hC:h.get? C=some (Qn nm q C N bs bm hdct sn sub ab col dd k0 k1 k2 k3 k5 newId))(hn:h.Ns N o)(hi:o "__init__"=some (.ref l))(hfI:h.get? l=some m)(hfc:m.cls=.type "function")(hq:∀h' e,Heap.MadeExcOf h h' e (.ref C) rest->h.objs.size<=e ->
   Na (Nf prog w) (A.under (.builtin "type.__call__" #[.ref C::rest,[]])) (call (.ref l) (.ref e::rest)) (λr s'=>r=.none/\Q (.ref e) s') E #[h',g,d,t,os])(hrest:rest.length<=mH):
  Na (Nf prog w) A (call (.ref C) rest) Q E #[h,g,d,t,os]:=by
 have z:=tc_lookup;have y:=tc_bind (.ref C);have v:(#[h,g,d,t,os]:fy).TypeIs (.ref C) "type":=#[_,hC,rfl];refine R0 (codeAny_of_tree ?_);show Na _ _ (callAny (.ref C) _) _ _ _
 repeat (any_goals (first|assumption|with_reducible refine O8 hC ?_|wp_step))
 refine#[rfl,?_];exact codeAny_call_builtin_at (Ui _ (by decide)) entry_typeCall (wpAny_check_type_call_sub hC (rM F T hC hn hi hfI hfc (λh' e u p=>hq h' e u p) hrest))
end L2
namespace L2
open PySem PySem.Spec PyProof.Rows PySem.W
noncomputable abbrev iZ:List eF:=[.type "ValueError",.type "Exception",.type "BaseException",.type "object"]
noncomputable def cM:List eF->Bool
 |.ref _::r=>cM r
 |l=>l == iZ
theorem rg :cM (.ref c::r)=cM r:=rfl
theorem tu (d:eF):∀{l:List eF},cM l=true->refuseLoop d "__setattr__" l=pure Unit.unit
 |.ref c::r,e=>by rw[refuseLoop_ref];exact tu d (by rw[rg]at e;exact e)
 | [],e=>by cases e
 |.type n::r,e=>by
  have g:(.type n::r:List eF)=iZ:=by unfold cM at e;exact beq_iff_eq.mp e
  rw[g];exact PySem.F.store_ValueError.passes d
 |.none::r,e=>by unfold cM at e;cases e
 |.bool _::r,e=>by unfold cM at e;cases e
 |.int _ _::r,e=>by unfold cM at e;cases e
 |.str _ _::r,e=>by unfold cM at e;cases e
 |.bytes _ _::r,e=>by unfold cM at e;cases e
 |.float _ _::r,e=>by unfold cM at e;cases e
 |.builtin _::r,e=>by unfold cM at e;cases e
 |.ellipsis::r,e=>by unfold cM at e;cases e
end L2
namespace L2
open PySem PySem.Spec PyProof.Rows PySem.W Builtin Builtin.ObjectAttr
theorem rj :∀{l:List eF},cM l=true->l.contains (.type "object")=true/\l.isEmpty=false
 |.ref c::r,e=>by rw[rg]at e;rw[Pz,(rj e).1,RS];exact#[rfl,rfl]
 | [],e=>by cases e
 |.type n::r,e=>by
  have d:(.type n::r:List eF)=iZ:=by unfold cM at e;exact beq_iff_eq.mp e
  rw[d];exact#[by decide,rfl]
 |.none::r,e=>by unfold cM at e;cases e
 |.bool _::r,e=>by unfold cM at e;cases e
 |.int _ _::r,e=>by unfold cM at e;cases e
 |.str _ _::r,e=>by unfold cM at e;cases e
 |.bytes _ _::r,e=>by unfold cM at e;cases e
 |.float _ _::r,e=>by unfold cM at e;cases e
 |.builtin _::r,e=>by unfold cM at e;cases e
 |.ellipsis::r,e=>by unfold cM at e;cases e
noncomputable def rS(K:Frag)(C:Addr):Bool:=(clsIn K C).any λd=>cM d.mro&&d.hasDict
noncomputable def iy(w:Ni)(name:Str)(d:Tok)(v:eF):Obj:=Obj.putName name (Sa w.params name) (.str name d) v {cls:=.type "dict",data:=.dict #[]}
theorem rA (w:Ni)(name:Str)(d:Tok)(v:eF):∃n,(iy w name d v).data=.dict #[#[Sa w.params name,.str name d,v],] n/\(iy w name d v).cls=.type "dict"/\(iy w name d v).dict=none:=by
 refine#[1,?_,?_,?_]<;>rfl
theorem E3 {K:Frag}(X:K.In s.heap)(I:InstAt s.heap x ox C none)(hp:rS K C=true)(ht:Rb K C name=some none)(go:∀h',h'.get? x=some {ox with dict:=some s.heap.objs.size}->h'.get? s.heap.objs.size=some (iy w name s.toks v)->(∀b o,b≠x->s.heap.get? b=some o->h'.get? b=some o) ->
   s.heap.objs.size<h'.objs.size->R (.ok (.ret .none)) {s with heap:=h',toks:=s.toks+1}):
  O5 (Nf prog w) A (.call (.builtin "object.__setattr__") #[[.ref x,.str name y,v],[]]) R s:=by
 have(l,g,d,t,os):=s;dsimp only at X I go;have B:=PySem.F.store_object;have(cd,U,Q):=any_some hp;have(ho,T):=Bool.and_eq_true_iff.mp Q;have r:=rj ho
 have O:Looks (Nf prog w) l (Uh (.ref x) (.type "object")) true :=
  I.type.andThen (looks_mroIn X (by unfold mroIn;rw[U,Pp,if_neg (by rw[r.2];decide),r.1]))
 have H:=@check_slot (Nf prog w) A.in1 (λe q=>R (.error e) q) #[l,g,d,t,os] "object.__setattr__" "object" "__setattr__" (.ref x) [.str name y,v] [];refine codeAny_call_builtin B.slot.plain B.entry (H B.kind B.split O (B.args (.ref x) (.str name y) v) ?_);clear H;have(p,ha,hr):=Option.bind_eq_some_iff.mp ht;have hm:Looks (Nf prog w) l (mroOf (.ref C)) cd.mro:=(looks_clsIn X U).andThen .now
 have L:Looks (Nf prog w) l (storeTaker? p) none:=by
  match p,hr with
  |none,_=>exact .now
  |some a,hr =>
   have(b,V,e):=xn.mp hr;refine(looks_takesIn X V).andThen ?_
   cases b
   .exact .now
   .cases e
 rw[osa_eq,refuse_eq];refine cB (cB (I.type.here (cB (hm.here ?_))));rw[tu _ ho];refine vv (cB (I.type.here (cB ((Uy X ha).here (cB (L.here ?_))))));have(J,G,hn,D):=I;have(oc,M,u,aa):=ox;dsimp only at G D;subst G
 cases M with
 |some _=>exact D.elim
 |none =>
 refine cB (vv (cB (cB (RZ J (cB ((looks_clsIn X U).here ?_))))));rw[T];have nc:∀c,u≠.cls c:=by intro c e;rw[e]at hn;cases hn
 generalize eD:({cls:=.type "dict",data:=.dict #[]}:Obj)=oD;have Z:=tF oD J;have Y:x≠l.objs.size:=Nt (L0 J)
 have fin:Na (Nf prog w) A.in1 (alloc oD>>=λdx=>(update x λo=>{o with dict:=some dx})>>=λ_=>pure (some dx)) (λod z =>
   Na (Nf prog w) A.in1 (match od with|some d=>storeInDict d (.str name y) name v|none=>noDictFor (.ref x) (.ref C) name p.isSome)
    (λfin q=>match fin with|.done f=>R (.ok f) q|.again c'=>c'.quiet=true/\O5 (Nf prog w) A c' R q) (λe q=>R (.error e) q) z) (λe q=>R (.error e) q) #[l,g,d,t,os]:=by
  refine cB (wpAny_alloc' ?_);refine cB (wpAny_update' Z ?_);refine vv ?_
  have m:((l.push oD).update x λo=>{o with dict:=some l.objs.size}).get? l.objs.size=some oD :=
   (Qy _ _ _ _ Y.symm).trans (Ux rfl (by rw[<-eD];rfl))
  show Na _ _ (storeInDict l.objs.size (.str name y) name v) _ _ _;refine cB (vv (cB ?_));unfold nsSet;refine cB (cB (wpAny_askSetting (vv (cB (Uz (cB (RZ m ?_)))))));rw[<-eD]at m|-;dsimp only;rw[aRefKeyMayBeTheName_at];rw[if_neg (by simp)];refine wpAny_updatePart' m ?_;generalize eU:((l.push {cls:=.type "dict",data:=.dict #[]}).update x λo=>{o with dict:=some l.objs.size})=h2;rw[eU]at m;have hf:(iy w name t v).isFreed=false:=rfl;have W:(h2.update l.objs.size (Obj.putName name (Sa w.params name) (.str name t) v)).get? l.objs.size=some (iy w name t v):=ON _ m hf;obtain⟨n,q1,-,-⟩:=rA w name t v;refine cB (wpAny_lookBehind W (by rw[q1];exact pastItsLine_dict (by rw[Qk];exact Nat.le_add_left 1 _)) ?_);refine vv (go _ ?_ W ?_ ?_)
  .refine(Qy _ _ _ _ Y).trans ?_;rw[<-eU,eD];refine ON _ Z ?_;have S:=(Heap.get?_some_iff.mp J).2
   cases u<;>first|rfl|exact S
  .intro b o V e;refine(Qy _ _ _ _ (Nt (L0 e))).trans ?_;rw[<-eU,eD];exact(Qy _ _ _ _ V).trans (tF _ e)
  .exact L0 W
 cases u with
 |cls c=>exact absurd rfl (nc c)
 |_=>exact fin
theorem E4 {K:Frag}(X:K.In s.heap)(I:InstAt s.heap x ox C none)(d:rS K C=true)(ht:Rb K C name=some none)(hs:Od K (.ref C) "__setattr__"=some (some (.builtin "object.__setattr__")))(go:∀h',h'.get? x=some {ox with dict:=some s.heap.objs.size}->h'.get? s.heap.objs.size=some (iy w name (s.toks+1) v)->(∀b o,b≠x->s.heap.get? b=some o->h'.get? b=some o) ->
   s.heap.objs.size<h'.objs.size->Q Unit.unit {s with heap:=h',toks:=s.toks+1+1}):
  Na (Nf prog w) A (setAttr (.ref x) name v) Q E s :=
 set_plain X I hs (E3 (s:={s with toks:=s.toks+1}) X I d ht go)
end L2
namespace L2
open PySem PySem.Spec PyProof.Rows PySem.W
noncomputable def tG(C ta:Addr)(od:Option Addr):Obj:={cls:=.ref C,dict:=od,data:=.fields #[.ref ta,.none,.none,.none,.bool false,.none,]}
def iq(x C:Addr)(od:Option Addr):Heap->Prop:=λh=>∃d,h.get? x=some (tG C d od)
theorem CH (e:iq x C od h):eM P w H h x (.ext (iq x C od)) :=
 #[e,e.elim λ_ q=>#[_,q],λ_ _ ⟨d,q⟩ k=>#[d,k _ q]]
structure E5(K:Frag) (C f:Addr):Prop where
 cls:∀h,K.In h->∃nm q N bs bm hdct sn sub ab col dd k0 k1 k2 k3 k5 mN oI,h.get? C=some (Qn nm q C N bs bm hdct sn sub ab col dd k0 k1 k2 k3 k5 "ValueError.__new__") /\
  h.Ns N mN/\mN "__init__"=some (.ref f)/\OwnTail h iZ bm/\h.get? f=some oI/\oI.cls=.type "function"
 kp:Pb K (.ref C)=true
structure wj(K:Frag) (C:Addr) (n:Str):Prop where
 over:rS K C=true
 sa:Od K (.ref C) "__setattr__"=some (some (.builtin "object.__setattr__"))
 no:Rb K C n=some none
def Lx(K:Frag)(ta l:TE)(f:Str):TS:=λD e H=>l e H λy m=>ta e m λx g=>∃a C,x=.ref a/\g a=some (.ext (iq a C none))/\wj K C f /\
 ∀d,g d=none->d≠a->D.nx e (upd (upd g d (.xd [(f,y)])) a (.ext (iq a C (some d))))
theorem Ig {h:Heap}(e:h.get? g=some (iy w n d v)):h.Ns1 g λy=>if y=n then some v else none:=by
 obtain⟨c,q1,-,-⟩:=rA w n d v;refine#[_,_,c,e,q1,?_,?_,?_]
 .intro a r;have z:a=#[Sa w.params n,.str n d,v]:=by simpa using r
  rw[z];exact#[n,d,rfl]
 .exact QN _ _
 .intro y;show _=if y=n then some v else none
  by_cases q:y=n
  .subst q;rw[if_pos rfl];simp[UC,findBy,Value.isStr]
  .rw[if_neg q];have l:(n == y)=false:=beq_false_of_ne λz=>q z.symm;simp[UC,findBy,Value.isStr,l]
theorem Bb (I:Inv X d r H s)(e:H a=some (.ext (iq a C none)))(c:wj X.K C n)(B:RelV y u)(go:∀g s',H g=none->g≠a->Inv X d r (upd (upd H g (.xd [(n,y)])) a (.ext (iq a C (some g)))) s'->Q Unit.unit s'):Na (Nf X.prog X.w) A (setAttr (.ref a) n u) Q E s:=by
 obtain⟨⟨ta,l⟩,-,-⟩:=I.hok a _ e;refine E4 (ox:=tG C ta none) I.sy #[l,rfl,rfl,trivial] c.over c.no c.sa λh' v hd G M=>go s.heap.objs.size _ (I.hok.fresh (i5 _)) (QU (L0 l)) ?_;have fr:=Nc s.heap (o:=iy X.w n (s.toks+1) u) rfl
 have L:=I.laid (a:=s.heap.objs.size) (o:=.xd [(n,y)]) (t':=s.toks) (h':=s.heap.push (iy X.w n (s.toks+1) u)) (λb o q=>tF _ q) (i5 _) #[_,Ig fr,λz=>by
  by_cases q:z=n
  .subst q;rw[if_pos rfl,NK,beq_self_eq_true];exact B
  .rw[if_neg q,NK,beq_false_of_ne q];exact True.intro]
 have D:a≠s.heap.objs.size:=Nt (L0 l);refine L.write (x:=a) (e:=a) (t':=s.toks+1+1) (by rw[au D,e];exact True.intro) (.inl rfl) (λb o J q=>?_) #[_,v] (CH #[ta,v]);rcases Heap.get?_push_cases q with⟨rfl,rfl⟩|q
 .exact hd
 .exact G b o J q
theorem ze (R:PE X o ta)(O:PE X d z)(hs:Rm d (some (.Attribute o n g)) pos.line X.env=pure false:=by rfl):PS X (.Assign [.Attribute o n g] d pos) (Lx X.K ta z n):=by
 intro l s r H D I h;refine Rc (cR (O l s r H _ I h) λu B ⟨y,Y,W,G,q⟩=>cR (R l B r Y _ W q) λM s2 ⟨x,H2,V,J,a,C,ex,S,c,L⟩=>?_) hs;subst ex;obtain rfl:M=Value.ref a:=J;exact Bb V S c G λT Z Q v U=>#[r,_,U,L T Q v]
end L2
namespace L2
open PySem PySem.Spec PyProof.Rows PySem.W Builtin Builtin.ObjectAttr
structure zf(K:Frag) (C:Addr):Prop where
 ga:Od K (.ref C) "__getattribute__"=some (some (.builtin "BaseException.__getattribute__"))
 gn:Od K (.ref C) "__getattr__"=some none
 mro:mroIn K C (.type "BaseException")=some true
theorem Bc {K:Frag}(X:K.In s.heap)(I:InstAt s.heap x ox C od)(G:zf K C)(m:Q Unit.unit s):Na M A (checkBuiltinCall "BaseException.__getattribute__" #[[.ref x,d],[]]) Q E s:=by
 have o:builtinKind "BaseException.__getattribute__"=some .slot:=by decide
 have e:splitId "BaseException.__getattribute__"=some ("BaseException","__getattribute__"):=by decide
 have g:Looks M s.heap (Uh (.ref x) (.type "BaseException")) true:=I.type.andThen (looks_mroIn X G.mro);have p:=PySem.F.args_bexc_ga (.ref x) d;have l:=@check_slot M A E s "BaseException.__getattribute__" "BaseException" "__getattribute__" (.ref x) [d] [] Q;exact l o e g p m
theorem CI {K:Frag}{fill:Bool}(X:K.In s.heap)(I:InstAt s.heap x ox C od)(G:zf K C)(h:Na (Nf prog w) A.in1 (QW.«object.__getattribute__» #[[.ref x,.str name p],[]]) (λfin s'=>match fin with
   |.done (.ret v)=>Na (Nf prog w) A (handedOut v) Q E s'
   |.again c=>c.quiet=true/\O5 (Nf prog w) A c (λr l=>match r with|.ok (.ret v)=>Na (Nf prog w) A (handedOut v) Q E l|_=>False) s'
   |_=>False) (λ_ _=>False) s):Na (Nf prog w) A (getAttrBy (.ref x) (.str name p) fill expr) Q E s:=by
 have B:=I.type (M:=Nf prog w);have y:=Uy (M:=Nf prog w) X G.ga;have L2:=Uy (M:=Nf prog w) X G.gn;have u:=SQ.ga.bind (.ref x);have o:(expr&&onTheHeap (Value.builtin "BaseException.__getattribute__"))=false:=by cases expr<;>rfl
 have m:(Value.builtin "BaseException.__getattribute__" == Value.builtin "object.__getattribute__")=false:=by decide
 have(H,g,d,t,D):=s;unfold getAttrBy;refine Oo (cB (B.at (cB (y.at ?_))));dsimp only;rw[m,Tr,if_neg (by decide)];unfold getAttrByItsOwn hookBefore;refine cB ?_;rw[show onTheHeap (Value.ref C)=true from rfl,if_pos rfl];refine L2.at (cB (Sz (Oo ?_)));unfold callGetattribute;rw[o,if_neg (by decide)];unfold boundAndCalled;refine cB (wpAny_of_eq u ?_);refine R0 (codeAny_call_builtin SQ.ga.plain PySem.F.entry_bexc_ga (Bc X I G ?_));refine Nz h (λfin s' z=>?_) λ_ _ z=>z.elim;rcases fin with(_|_|_|_)|c
 case again=>
  refine#[z.1,Qo z.2 λr l q=>?_];rcases r with e|(_|_|_|_)<;>first|exact q|exact q.elim
 all_goals first|exact z|exact z.elim
theorem Bd {K:Frag}(X:K.In s.heap)(I:InstAt s.heap x ox C od)(G:zf K C)(m:findObj K C od name=some (.value v))(l:handedIn v=true)(h:Q v {s with toks:=s.toks+1}):
  Na (Nf prog w) A (UQ (.ref x) name expr) Q E s:=by
 unfold UQ;refine cB (Uz ?_);refine CI (s:={s with toks:=s.toks+1}) X I G ?_;have(e,g,d,t,q):=s;have p:=I.type (M:=Nf prog w);have o:=looks_find (M:=Nf prog w) X I m;refine cB (vv (cB (vv (cB (p.at (cB (o.at ?_)))))));refine vv ?_;show Na _ _ (handedOut v) _ _ _;rw[handedOut_of l];exact vv h
theorem Be {K:Frag}(X:K.In s.heap)(I:InstAt s.heap x ox C od)(G:zf K C)(o:findObj K C od "__class__"=some (.bind (.builtin "getset_descriptor.__get__") (.builtin "object.__class__")))(m:mroIn K C (.type "object")=some true)(h:Q (some (.ref C)) {s with toks:=s.toks+1}):Na (Nf prog w) A (getAttr? (.ref x) "__class__") Q E s:=by
 unfold getAttr? getAttrBy?;refine cB (Uz (cB (Sz ?_)));refine CI (s:={s with toks:=s.toks+1}) X I G ?_;have(e,g,d,t,l):=s;have r:InstAt (#[e,g,d,t+1,l]:fy).heap x ox C od:=I;have q:=I.type (M:=Nf prog w);have p:=looks_find (M:=Nf prog w) X I o;refine cB (vv (cB (vv (cB (q.at (cB (p.at ?_)))))));show Na _ _ (Sh [_] (call (.builtin "getset_descriptor.__get__") [.builtin "object.__class__",.ref x,.ref C])>>=ret) _ _ _;refine cB (Oo (R0 (class_get (s:=#[e,g,d,t+1,l]) X r m ?_)));refine vv ?_;refine handed_on rfl ?_;exact vv h
end L2
namespace L2
open PySem PySem.Spec PyProof.Rows PySem.W PySem.Calls
structure Bf(K:Frag) (C:Addr):Prop where
 hg:zf K C
 hd:P5 K C=true
 ha:Od K (.ref C) "__class__"=some (some (.builtin "object.__class__"))
 hn:specialIn K (.builtin "object.__class__") "__get__"=some (some (.builtin "getset_descriptor.__get__"))
 tk:takesIn K (.builtin "object.__class__")=some true
 hm:mroIn K C (.type "object")=some true
def GN(x C:Addr)(h:Heap):Prop:=∃d e,InstAt h x d C e
theorem wm {K:Frag}(G:Bf K C):KitX K (.ref x) (.ref C) (GN x C) where
 ty:=λ_ _ _ ⟨_,_,I⟩=>I.type
 it:=λ_ _ X _=>by
  obtain⟨o,d,-⟩:=any_some G.hd;unfold clsIn at d
  split at d
  .rename_i u t m e l
   intro H B D y k q;unfold isType loadHead;exact cB (RZ (k _ _ (X _ _ l)) (vv q))
  .cases d
 ne:=λh tp z p n v X g=>by
  obtain⟨o,d,-⟩:=any_some G.hd;refine Bool.eq_false_iff.mpr λq=>?_;obtain rfl:C=tp:=Value.ref.inj (beq_iff_eq.mp q);unfold clsIn at d
  split at d
  .rename_i u t m e l
   cases(X _ _ l).symm.trans g
  .cases d
 ca:=λ{prog w A E Q s} X ⟨ox,od,I⟩ go=>by
  have r:findObj K C od "__class__"=some (.bind (.builtin "getset_descriptor.__get__") (.builtin "object.__class__")):=by
   obtain⟨o,d,-⟩:=any_some G.hd;unfold findObj;rw[d,Pp,G.ha,Pp];dsimp only;rw[G.hn,Pp];dsimp only;rw[G.tk,Pp]
  exact Be X I G.hg r G.hm go
theorem uZ :∀{ds:List Addr}{us:List eF},Vals (ds.map V.ref) us->us=ds.map Value.ref
 | [],us,r=>by cases r;rfl
 |d::ds,us,r=>by
  cases r with
  |cons a b =>
   have z:=uZ b;subst z;exact congrArg (·::_) a
structure Ih(K:Frag) (C:Addr) (n:Str):Prop where
 hg:zf K C
 hd:P5 K C=true
 no:∃attr,Od K (.ref C) n=some attr/\noGet K attr=true
end L2
namespace L2
open PySem PySem.Spec PyProof.Rows
theorem Bg (o:Obj)(g):(o.mapFields g).dict=o.dict:=by
 have(c,d,e,l):=o
 cases e<;>rfl
structure Fl(H:Hp) (h:Heap) (n:Nat) (x C:Addr) (od:Option Addr) (fl:eF):Prop where
 ob:∃oe vs,h.get? x=some oe/\oe.cls=.ref C/\oe.dict=od/\oe.data=.fields vs/\1<vs.size /\
  ((vs[1]?=some .none/\fl=.none)\/∃T oT ts,vs[1]?=some (.ref T)/\T≠x/\n<=T/\H T=none/\h.get? T=some oT/\oT.data=.fields ts/\ts[3]?=some fl)
 nx:n<=x
 hx:H x=none
structure Rest(fs ch:List Addr) (h h':Heap):Prop where
 keep:∀b o,b∉ch->b∉fs->h.get? b=some o->h'.get? b=some o
 slot:∀b o,b∉ch->h.get? b=some o->∃sl,h'.get? b=some {o with slots:=sl}
 sz:h.objs.size<=h'.objs.size
theorem Rest.trans (a:Rest fs ch h m)(b:Rest fs ch m l):Rest fs ch h l :=
 #[λc o d g e=>b.keep c o d g (a.keep c o d g e),λc o d e=>by
  have(t,r):=a.slot c o d e;have(p,q):=b.slot c _ d r;exact#[p,q],Nu a.sz b.sz]
theorem tH :Rest fs [a] h (h.update a g):=by
 have k:∀b o,b∉([a]:List Addr)->h.get? b=some o->(h.update a g).get? b=some o:=λb o n e=>by
  rw[Ov _ _ (λz=>n (by rw[z];exact IF.mpr rfl))];exact e
 refine#[λb o n _ e=>k b o n e,λb o n e=>#[o.slots,k b o n e],?_];rw[Heap.size_update];exact i5 _
theorem u7 {A:Nq}(hfr:A.frames=some (d::outer))(hl:s.heap.FunFrames base (d::outer))(hf:d.frame=some L)(hxf:x∉frs (d::outer))(he:s.heap.get? x=some r)(hd:r.data=.fields vs)(hsz:1<vs.size)(go:∀(h':Heap) (T:Addr) (m g:Obj) (p:Array eF),Rest (frs (d::outer)) [x] s.heap h'->s.heap.objs.size<=T->h'.get? x=some m->m.cls=r.cls->m.dict=r.dict->m.data=.fields (vs.setIfInBounds 1 (.ref T)) ->
   h'.get? T=some g->g.data=.fields p->p[3]?=some (Qd L)->Q Unit.unit {s with heap:=h'}):
  Na M A (do let a ←frameOf d;let pl ←entryPlaceOf L C;let b ←TZ head a .none (Qd L) .none pl;setField (.ref x) 1 b) Q E s:=by
 refine cB (wpAny_frameOf_fun hfr hl hf λl u=>?_);refine cB (wpAny_entryPlaceOf λpl z=>?_);unfold TZ newFields;refine cB (NL ?_ (z.sizeOk5 _ _ _ _ _));generalize hO:({cls:=.type "traceback",dict:=none,data:=.fields ([head,.ref L,.none,Qd L,.none]++(if pl.isEmpty then Nb 6 Value.none else pl)).toArray}:Obj)=g
 have G:∃p,g.data=.fields p/\p[3]?=some (Qd L):=by
  subst hO;exact#[_,rfl,by simp]
 have D:g.isFreed=false:=by subst hO;rfl
 have(p,B,y):=G;have t:l.get? x=some r:=(u.2.1 x hxf).trans he;have KS:(l.push g).get? x=some r:=tF g t;refine Q8 KS hd hsz ?_;have v:l.objs.size≠x:=QU (L0 t);have H:=QI hd (·.setIfInBounds 1 (Value.ref l.objs.size));have S:=ON (PX (·.setIfInBounds 1 (Value.ref l.objs.size))) KS (Rj H)
 have R:((l.push g).update x (PX (·.setIfInBounds 1 (Value.ref l.objs.size)))).get? l.objs.size=some g:=by
  rw[Ov _ _ (PK v)];exact Nc l D
 have J:Rest (frs (d::outer)) [x] s.heap (l.push g):=by
  refine#[λb o _ O e=>tF g ((u.2.1 b O).trans e),λb o _ e=>?_,?_]
  .have(I,q):=u.2.2 b o e;exact#[I,tF g q]
  .rw[Oc,u.1];exact Ot _
 exact go _ _ _ _ p (J.trans tH) (Up u.1.symm) S (Uw _ _) (Bg _ _) H R B y
theorem Inv.rest (I:Inv X pins σ H s)(r:Rest (frs X.stack) ch s.heap h')(g:∀b∈ch,H b=none/\X.s₀.heap.objs.size<=b/\b≠X.env.locals/\(∀x c,X.env.cells.lookup x=some c->c≠b)/\∀p∈X.pn++pins,p.1≠b):Inv X pins σ H {s with heap:=h'}:=by
 have l:∀b u,H b=some u->b∉ch/\b∉frs X.stack:=λb u e=>#[λz=>by(rw[(g b z).1]at e;cases e),λz=>by(rw[I.vG b z]at e;cases e)]
 have u:Un (frs X.stack) ch H H s.heap h':={
  keep:=λb o e _ y d=>r.keep b o d y e
  slot:=λb o e _ _ d=>r.slot b o d e
  free:=λ_ _ _ n _=>n
  there:=λb o e d=>(r.slot b o d e).elim λ_ q=>#[_,q]
  tups:=λ_ _ e=>e
  frzs:=λ_ _ _ e=>e
  tbls:=λ_ C e=>#[#[],by rw[e];simp]}
 have t:mQ X.prog X.w H h':=λb u e=>by
  refine(I.hok b u e).stay (λc v B q=>?_) (λ_ q=>q) λ_ _ q=>q;rcases B with z|z
  .rw[z]at q|-;exact r.keep _ _ (l b u e).1 (l b u e).2 q
  .exact r.keep _ _ (l c _ z).1 (l c _ z).2 q
 exact I.call (g':=s.gens) (t':=s.toks) (d':=s.drawn) (ch:=ch) u t I.bare λb m=>#[.inr (g b m).2.1,(g b m).2.2.1,(g b m).2.2.2.1,(g b m).2.2.2.2]
theorem Inv.wo (I:Inv X pins σ H s)(e:s.heap.get? a=some o)(d:o.data=.fields vs):a≠X.env.locals/\(∀x c,X.env.cells.lookup x=some c->c≠a)/\a∉frs X.stack:=by
 refine#[λz=>?_,λx c q z=>?_,λz=>?_]
 .have(m,(l,r,t,g,hd,_),_):=I.loc;rw[<-z,e]at g
  cases g
  rw[d]at hd
  cases hd
 .have(v,l,g,hd):=I.cell x c q;rw[z,e]at g
  cases g
  rw[d]at hd
  cases hd
 .have(_,l,g,p):=I.stack.mem z;rw[e]at g
  cases g
  exact p vs d
theorem wq (I:Inv X [] σ H s)(V:X.pn=[])(e:X.stack=X.env::X.outer)(Y:X.env.frame=some X.env.locals)(F:Fl H s.heap X.s₀.heap.objs.size x C od fl)(go:∀s',s'.os=s.os->Inv X [] σ H s'->Fl H s'.heap X.s₀.heap.objs.size x C od (Qd X.env.locals)->Q Unit.unit s'):Na (Nf X.prog X.w) X.A (TU (.ref x) X.env) Q E s:=by
 have((B,vs,v,L,J,hd,l,hh),S,U):=F;have G:X.A.frames=some (X.env::X.outer):=by rw[<-e];exact I.ok.frames
 have D:∀(a:Addr),∀p∈X.pn++[],p.1≠a:=λa p hp=>by rw[V]at hp;cases hp
 have(n1,n2,n3):=I.wo v hd
 have aa:∀b∈[x],H b=none/\X.s₀.heap.objs.size<=b/\b≠X.env.locals/\(∀y c,X.env.cells.lookup y=some c->c≠b)/\∀p∈X.pn++[],p.1≠b:=λb Z=>by
  rw[IF.mp Z];exact#[U,S,n1,n2,D x]
 have fin:∀(u:fy),u.os=s.os->Inv X [] σ H u->∀(m:Heap) (T:Addr) (d q:Obj) (o:Array eF),Rest (frs (X.env::X.outer)) [x] u.heap m->u.heap.objs.size<=T->m.get? x=some d->d.cls=B.cls->d.dict=B.dict->d.data=.fields (vs.setIfInBounds 1 (.ref T)) ->
   u.heap.get? x=some B->m.get? T=some q->q.data=.fields o->o[3]?=some (Qd X.env.locals)->Q Unit.unit {u with heap:=m}:=λu W z m T d q o r t e1 e2 e3 e4 ex e5 e6 e7=>by
  rw[<-e]at r;refine go _ W (z.rest r aa) #[#[d,_,e1,e2.trans L,e3.trans J,e4,?_,.inr #[T,q,o,?_,?_,?_,z.hok.fresh t,e5,e6,e7]],S,U]
  .rw[Array.size_setIfInBounds];exact l
  .rw[Qi l]
  .exact QU (Nd (L0 ex) t)
  .exact Nu z.sz t
 unfold TU;simp only[Y];rcases hh with⟨h1,rfl⟩|⟨T,q,o,h1,hTx,hTn,hTH,t,hdT,h3⟩
 .refine cB (NU v hd h1 ?_);rw[if_neg (by decide)];exact u7 G (by rw[<-e];exact I.stack) Y (by rw[<-e];exact n3) v hd l λm T d q o r a1 a2 a3 a4 a5 a6 a7 a8=>fin s rfl I m T d q o r a1 a2 a3 a4 a5 v a6 a7 a8
 .refine cB (NU v hd h1 ?_);rw[if_pos (show(Value.ref T != Value.none)=true from by simp)];refine cB (NU t hdT h3 ?_);have(t1,t2,t3):=I.wo t hdT
  by_cases c:(fl == Qd X.env.locals)=true
  .rw[if_pos c];have ef:fl=Qd X.env.locals:=Pn c;subst ef;exact vv (go s rfl I #[#[B,vs,v,L,J,hd,l,.inr #[T,q,o,h1,hTx,hTn,hTH,t,hdT,h3]],S,U])
  .rw[if_neg c];refine cB (Q8 t hdT (Sb.mp h3).1 ?_)
   have z:=I.rest (tH (fs:=frs X.stack) (a:=T) (g:=PX (·.setIfInBounds 3 Value.none))) λb Z=>by
    rw[IF.mp Z];exact#[hTH,hTn,t1,t2,D T]
   have M:(s.heap.update T (PX (·.setIfInBounds 3 Value.none))).get? x=some B:=by rw[Ov _ _ hTx];exact v
   exact u7 G (by rw[<-e];exact z.stack) Y (by rw[<-e];exact n3) M hd l λm T2 d R O r a1 a2 a3 a4 a5 a6 a7 a8=>fin {s with heap:=s.heap.update T (PX (·.setIfInBounds 3 Value.none))} rfl z m T2 d R O r a1 a2 a3 a4 a5 M a6 a7 a8
theorem nV (I:Inv X [] σ H s)(q:X.pn=[])(F:Fl H s.heap X.s₀.heap.objs.size x C od J)(go:∀s' r,s'.os=s.os->Inv X [] σ H s'->Fl H s'.heap X.s₀.heap.objs.size x C od r->Q Unit.unit s'):Na (Nf X.prog X.w) X.A (setFlight (.ref x) fr) Q E s:=by
 have((o,u,m,l,e,hd,d,D),v,y):=F;unfold setFlight;rcases D with⟨h1,rfl⟩|⟨T,oT,ts,h1,hTx,hTn,hTH,hT,hdT,h3⟩
 .refine cB (NU m hd h1 ?_);rw[if_neg (by decide)];exact vv (go s .none rfl I #[#[o,u,m,l,e,hd,d,.inl #[h1,rfl]],v,y])
 .refine cB (NU m hd h1 ?_);rw[if_pos (show(Value.ref T != Value.none)=true from by simp)];have(t1,t2,t3):=I.wo hT hdT;have l3:=(Sb.mp h3).1;refine Q8 hT hdT l3 ?_;generalize fr.elim Value.none (λf=>Qd f)=w
  have M:=I.rest (tH (fs:=frs X.stack) (a:=T) (g:=PX (·.setIfInBounds 3 w))) λb G=>by
   rw[IF.mp G];exact#[hTH,hTn,t1,t2,λp z=>by(rw[q]at z;cases z)]
  have B:=QI hdT (·.setIfInBounds 3 w);have t:(s.heap.update T (PX (·.setIfInBounds 3 w))).get? x=some o:=by rw[Ov _ _ hTx];exact m
  have L:=ON (PX (·.setIfInBounds 3 w)) hT (Rj B);exact go _ w rfl M #[#[o,u,t,l,e,hd,d,.inr #[T,_,_,h1,hTx,hTn,hTH,L,B,by rw[Qi l3]]],v,y]
def xS(P:I0)(w:Ni):wX:=λouter H s E e d=>∃(x C:Addr) (l:Option Addr) (m:eF) (g:Hp),e=.ref x/\d.os=s.os/\RP d.gens/\Un (frs outer) [] H g s.heap d.heap/\mQ P w g d.heap/\Fl g d.heap s.heap.objs.size x C l m/\E (.ref C) l g
def GO(X:Cx)(E:XK):eF->fy->Prop:=λe g=>∃(x C:Addr) (l:Option Addr) (o:eF) (m:St) (d:Hp),e=.ref x/\Inv X [] m d g/\Fl d g.heap X.s₀.heap.objs.size x C l o/\E (.ref C) l d
theorem Fl.young (f:Fl H h n x C od o)(l:m<=n):Fl H h m x C od o:=by
 have((q,p,v,g,e,hd,d,u),r,t):=f;refine#[#[q,p,v,g,e,hd,d,?_],Nu l r,t];rcases u with h|⟨T,oT,ts,h1,h2,h3,h4⟩
 .exact .inl h
 .exact .inr #[T,oT,ts,h1,h2,Nu l h3,h4]
theorem qT.Ii {X:Cx}{st:List Stmt}(k:∀e s,W e s->o e s)(h:qT (X.ju W) st t):qT (X.ju o) st t:=λm s p H D I y =>
 Nz (h m s p H D (I.fF.ju _) y) (λf z q=>by
  cases f with
  |next=>have(d,l,g,q):=q;exact#[d,l,g.fF.ju _,q]
  |brk=>have(d,l,g,q):=q;exact#[d,l,g.fF.ju _,q]
  |cont=>have(d,l,g,q):=q;exact#[d,l,g.fF.ju _,q]
  |ret u=>have(v,d,l,g,r,q):=q;exact#[v,d,l,g.fF.ju _,r,q]) k
theorem jz {X:Cx}:Passes (xS X.prog X.w) (X.ju (GO X E)) E:=by
 intro u r H s e y I h;have(x,C,D,L,M,rfl,B,l,un,o,F,q):=h;have v:Inv X [] r H s:=I.fF.fu λp G=>nomatch G
 have(J,g,d,t,m):=y;obtain rfl:m=s.os:=B;exact#[x,C,D,L,r,M,rfl,v.call (h':=J) (g':=g) (d':=d) (t':=t) (ch:=[]) un o l (λb z=>nomatch z),F.young v.sz,q]
theorem i9 (d:X.pn=[])(g:X.stack=X.env::X.outer)(u:X.env.frame=some X.env.locals):PassesOwn (Nf X.prog X.w) X.A X.env (GO X E):=by
 intro e Q h;have(x,C,p,V,o,H,rfl,I,F,q):=h;show Na _ _ (TU _ _) _ _ _;refine wq I d g u F λO U G m=>?_;show Na _ _ _ _ _ _;have(R,L,v,B,y,hd,r,t):=id m.ob;rcases t with⟨h1,z⟩|⟨T,oT,ts,h1,_⟩
 .exact absurd z (by unfold Qd;intro z;cases z)
 .refine cB (NU v hd h1 ?_);rw[if_neg (by simp)];exact nV G d m λM l S D J=>#[x,C,p,l,o,H,rfl,D,J,q]
theorem Ij {K:bN}(h:GO (vJ (xS P w) P w K mg base N d scope f m A outer s H E) E e s'):(vJ (xS P w) P w K mg base N d scope f m A outer s H E).xe e s':=by
 have(x,C,o,G,v,r,rfl,I,F,q):=h;show Na _ _ (leaving _ _) _ _ _;unfold leaving;refine cB (wq I rfl rfl rfl F λz D p u=>?_);refine nV p rfl u λy l B g t=>?_;exact#[x,C,o,l,r,rfl,g.os,g.bare,g.base,g.hok,t,q]
end L2
namespace L2
open PySem PySem.Spec PyProof.Rows PySem.W
noncomputable def BX(x:Addr)(H:Hp):Hp:=λb=>if b=x then none else H b
theorem xT :BX x H x=none:=by unfold BX;rw[if_pos rfl]
theorem nA (n:b≠x):BX x H b=H b:=by unfold BX;rw[if_neg n]
theorem qd (e:H b=none):BX x H b=none:=by
 unfold BX
 split
 .rfl
 .exact e
theorem Inv.BX (I:Inv X pins σ H s)(v:H x=some (.ext φ))(hn:X.s₀.heap.objs.size<=x):Inv X pins σ (L2.BX x H) s:=by
 have d:∀b u,H b=some u->(∀l,u≠.ext l)->b≠x:=λb u e n z=>by
  rw[z,v]at e
  cases e
  exact n φ rfl
 have t:∀b o,X.s₀.heap.get? b=some o->b≠x:=λb o e z=>N7 _ (Nd (L0 e) (by rw[z];exact hn));refine#[I.ok,I.os,I.bare,#[I.base.keep,I.base.slot,λb o e n C=>?_,I.base.there,λb g e=>?_,λb o u e=>?_,λb r e=>?_],I.loc,I.cell,qd I.free,λy c h=>qd (I.freeC y c h),λp B=>?_,λb u e=>?_,I.len]
 .exact qd (I.base.free b o e n C)
 .have q:=I.base.tups b g e;rw[nA (d b _ q (λ_ z=>nomatch z))]
  exact q
 .have q:=I.base.frzs b o u e;rw[nA (d b _ q (λ_ z=>nomatch z))]
  exact q
 .have(m,q):=I.base.tbls b r e;exact#[m,by rw[nA (d b _ q (λ_ z=>nomatch z))];exact q]
 .have(L,J,G):=I.pin p B;exact#[L,qd J,G]
 .have D:b≠x:=λz=>by(rw[z,xT]at e;cases e)
  rw[nA D]at e;exact(I.hok b u e).stay (λ_ _ _ q=>q) (λc q=>by rw[nA (d c _ q (λ_ z=>nomatch z))];exact q) λc g q=>by rw[nA (d c _ q (λ_ z=>nomatch z))];exact q
structure zg(K:Frag) (C:Addr):Prop where
 cls:∀h,K.In h->∃nm q N bs bm hdct sn sub ab col dd k0 k1 k2 k3 k5 nw,h.get? C=some (Qn nm q C N bs bm hdct sn sub ab col dd k0 k1 k2 k3 k5 nw)/\bm.contains (.type "BaseException")=true
theorem Bh (L:A.handled=none)(go:Na M A y (λv e=>∃x C ta od r q N bs l d o sub J g I k0 D B u t p,v=.ref x/\e.heap.get? C=some (Qn r q C N bs l d o sub J g I k0 D B u t p)/\l.contains (.type "BaseException")=true/\e.heap.get? x=some (tG C ta od)/\E (.ref x) e) E s):
  Na M A (raiseStmt m (some y) none) Q E s:=by
 unfold raiseStmt;refine cB (Nz go (λv e q1=>?_) λ_ _ z=>z);have(x,C,ta,od,r,q,N,bs,l,d,o,sub,J,g,I,k0,D,B,u,t,p,rfl,H,O,G,R):=q1;have S:(Value.ref C::l).contains (.type "BaseException")=true:=by rw[Pz,O,RS]
 have(V,W,Y,T,U):=e;unfold tG at G
 repeat (first|(with_reducible refine O8 G ?_)|(with_reducible refine O8 H ?_)|(with_reducible refine Qx H ?_;rw[S])|wp_step)
 exact wpAny_raiseNew_none L R
def Ik(K:Frag)(n:Nat)(l:TE)(E:XK):TS:=λ_ g H=>l g H λv e=>∃x C d,v=.ref x/\n<=x/\e x=some (.ext (iq x C d))/\zg K C/\E (.ref C) d (BX x e)
theorem gX {X:Cx}{E:XK}{l:Expr}{J:TE}{r:Pos}(hc:X.calm=true)(he:PE (X.ju (GO X E)) l J):PS (X.ju (GO X E)) (.Raise (some l) none r) (Ik X.K X.s₀.heap.objs.size J E):=by
 intro d s o H D I h;have hh:(X.ju (GO X E)).A.handled=none:=I.ok.hd hc;rw[arm_exec_Raise];refine cB (OG (Bh hh ?_));refine cB (Nz (he d s o H _ I h) (λv M q=>cB (OG (vv ?_))) λ_ _ z=>z);have(u,G,I1,S,x,C,m,rfl,Q,O,t,q):=q
 cases S
 have B:Inv X [] o G M:=I1.fF.fu λp hp=>nomatch hp
 have(V,T,N,bs,bm,g,R,sub,ab,y,dd,k0,k1,Z,Y,W,U,hC,hb):=t.cls _ B.sy;have((L,e),_):=(show eM X.prog X.w G M.heap x (.ext (iq x C m))from B.hok x _ O);exact#[x,C,L,m,V,T,N,bs,bm,g,R,sub,ab,y,dd,k0,k1,Z,Y,W,U,rfl,hC,hb,e,#[x,C,m,.none,o,L2.BX x G,rfl,B.BX O Q,#[#[tG C L m,_,e,rfl,rfl,rfl,(by show 1<6;decide),.inl #[rfl,rfl]],Q,xT],q]]
def JZ(n:Nat)(C:Addr)(sp:Sp)(d:List V)(E:XK)(t:TA):TE:=λl H Q=>t l H λe g=>e.length<=1000/\∀x,n<=x->g x=none ->
 sp (.ref x::(e++d)) (upd g x (.ext (iq x C none))) (λv m=>v=.eN/\Q (.ref x) m) E
theorem CJ {sp:Sp}(M:E5 X.K C f)(F:cA X.prog X.w X.K X.mg X.base CX k f fd ps sp)(hr:dj (k+1) X.A)(hb:Binds X.K fd ps ds)(hd:Vals dvs ds)(hx:Passes CX X E)(I:Inv X y B H s)(r:Vals vs us)(hl:vs.length<=1000)(go:∀x,X.s₀.heap.objs.size<=x->H x=none->sp (.ref x::(vs++dvs)) (upd H x (.ext (iq x C none))) (λv H2=>v=.eN/\Q (.ref x) H2) E):
  Na (Nf X.prog X.w) X.A (call (.ref C) us) (EP X y B Q) X.xe s:=by
 have(nm,q,N,bs,bm,Z,sn,sub,ab,aa,dd,k0,k1,k2,k3,k5,mN,oI,hC,hn,hi,T,W,U):=M.cls _ I.sy;have R:us.length<=mH:=by rw[<-r.length];exact Ol (bq hl)
 have S:=I.sz;have(hh,g,d,Y,os):=s;refine zd PySem.F.excBase_ValueError T hC hn hi W U (λh' x made O=>?_) R;obtain⟨kp,-,tup,ex,-,-⟩:=made;have D:Inv X y B (upd H x (.ext (iq x C none))) #[h',g,d,Y,os]:=I.laid (a:=x) (o:=.ext (iq x C none)) (t':=Y) kp O (CH #[tup,ex]);have q1:=go x (Nu S O) (I.hok.fresh O);have r2:Vals (V.ref x::(vs++dvs)) (Value.ref x::(us++ds)):=.cons rfl (r.append hd)
 have L:(Value.ref x::us++ds).length=ps.length:=by
  have z:=r2.length;rw[F.len _ _ _ _ q1]at z;exact z.symm
 have G:=F.run _ X.stack _ _ #[Value.ref x::us,[]] (Value.ref x::(us++ds)) _ _ E (hr.make C us []) (D.HH.make C us []) (hb _ (Value.ref x::us) D.sy L) r2 q1;refine R0 (Qo G λJ s' l=>?_)
 match J,l with
 |.error e,l=>exact hx y B _ _ e s' D l
 |.ok (.ret u),l =>
  have(v,H',I3,rv,rfl,q3):=D.after l;exact#[rv,#[V.ref x,H',I3,rfl,q3]]
 |.ok .next,l=>exact OA l
 |.ok .brk,l=>exact OA l
 |.ok .cont,l=>exact OA l
theorem ja {CX:wX}{k:Nat}{f C:Addr}{fd:M5}{ps:List Str}{sp:Sp}{dvs:List V}{ds:List eF}{E:XK}{x:Str}{p pos:Pos}{e:Expr}{es:List Expr}{t:TA}(M:E5 X.K C f)(F:cA X.prog X.w X.K X.mg X.base CX k f fd ps sp)(hr:dj (k+1) X.A)(z:Gl X x)(v:X.mg x=some (.ref C))(B:Binds X.K fd ps ds)(hd:Vals dvs ds)(u:Passes CX X E)(ha:PA X (e::es) t)(hdb:(x == ("__debug__":Str))=false:=by decide)(he:N8 (e::es) X.env=(false,eval e X.env)::N8 es X.env:=by rfl)(hpl:(RT pos (N8 es X.env)).any (·.1)=false:=by rfl):
  PE X (.Call (.Name x p) (e::es) [] pos) (JZ X.s₀.heap.objs.size C sp dvs E t):=by
 intro d s l H Q I h;refine O2 (pB I z v ?_ hdb);exact callWith_K (h₀:=X.base) I.ok.mod.kin M.kp (cR (ha pos d s l H _ I h) λG J ⟨D,L,g,r,y,q⟩=>#[g.sy,CJ M F hr B hd u g r y q]) he hpl
theorem Inv.names (I:Inv X pins σ H s)(hs:PL X.env.locals s.heap h')(r:h'.Ns X.env.locals m')(L:σ'.length=σ.length)(k:∀(i:Nat) (x:Str) (v:V),X.N[i]?=some x->σ'[i]?=some (some v)->Jt X.env.scope x->∃u,RelV v u/\Look X.env h' m' x u):Inv X pins σ' H {s with heap:=h',toks:=t'}:=by
 have young:∀b o,X.s₀.heap.get? b=some o->b≠X.env.locals:=λb o e=>Nt (Nd (L0 e) I.ok.above)
 have Ei:∀x c,X.env.cells.lookup x=some c->c≠X.env.locals:=λx c M z=>by
  have(m,(S,T,U,J,hd,_),_):=I.loc;have(v,B,g,l):=I.cell x c M;rw[z,J]at g
  cases g
  rw[hd]at l
  cases l
 refine#[I.ok,I.os,I.bare,#[λb o e n t d=>?_,λb o e n t d=>?_,I.base.free,λb o e d=>?_,I.base.tups,I.base.frzs,I.base.tbls],#[m',r,k],λy c e=>?_,I.free,I.freeC,λp G=>?_,λb u e=>?_,L.trans I.len]
 .rw[hs.2 b (young b o e)];exact I.base.keep b o e n t d
 .rw[hs.2 b (young b o e)];exact I.base.slot b o e n t d
 .rw[hs.2 b (young b o e)];exact I.base.there b o e d
 .have(v,B,g,l):=I.cell y c e;exact#[v,B,(hs.2 c (Ei y c e)).trans g,l]
 .have(R,Q,C,O):=I.pin p G;exact#[(hs.2 _ C).trans R,Q,C,O]
 .refine(I.hok b u e).stay (λc v D q=>(hs.2 c ?_).trans q) (λ_ q=>q) λ_ _ q=>q;rintro rfl;rcases D with z|z
  .rw[<-z,I.free]at e
   cases e
  .rw[I.free]at z
   cases z
theorem E6 (I:Inv X pins σ H s)(J:X.N.Nodup)(hi:X.N[i]?=some n)(l:X.env.scope.names.lookup n=some .local)(go:∀s',Inv X pins (σ.set i none) H s'->Q Unit.unit s'):Na M A (do Tn X.env n .none;RB X.env n p) Q E s:=by
 have T:(X.env.scope.kind == .class||(X.env.scope.kind == .module&&X.env.locals != X.env.globals))=false:=by rw[I.ok.kind];rfl
 have g:X.env.kindOf n=some .local:=l;refine cB (To (kO I J hi (.inl l) (show RelV .eN Value.none from rfl) (λR D=>?_) (.inr l)));have(m,V,G):=id D.loc;unfold RB;refine Ru ?_;unfold unbindName;refine cB (wpAny_point (cB ?_));unfold deleteName;simp only[g,T];rw[if_neg (by decide)];refine cB (wpAny_nsDel_keeps V λh2 O t e=>?_)
 have W:(m n).isSome=true:=by
  have(u,r,q):=G i n .eN hi (by rw[P4 (by rw[I.len];exact(bH.mp hi).1)]) (.inl l);rcases q with⟨_,q⟩|⟨q,_⟩
  .rw[q];rfl
  .rw[g]at q;rcases q with q|q<;>cases q
 simp only[W,Bool.not_true,Px,if_false];refine vv (wpAny_point (go _ ?_));refine D.names (σ':=σ.set i none) (t':=R.toks) e t (by simp) λj y v L o Y=>?_
 have B:j≠i:=λz=>by
  subst z;rw[P4 (by rw[I.len];exact(bH.mp hi).1)]at o
  cases o
 rw[Qj (PK B)]at o;have(u,r,q):=G j y v L (by rw[Qj (PK B)];exact o) Y;refine#[u,r,?_];rcases q with⟨q1,q2⟩|⟨q1,c,q2,q3⟩
 .refine .inl #[q1,?_];have:y≠n:=λz=>B (sA J (by rw[L,z]) hi);show(if y=n then O else m y)=some u;rw[if_neg this];exact q2
 .have(S,d,C):=q3;refine .inr #[q1,c,q2,S,(e.2 c ?_).trans d,C];intro z;have(m',(Z,es,ep,U,hd,_),_):=D.loc;rw[z,U]at d
  cases d
  rw[hd]at C
  cases C
def uz(x C:Addr)(od:Option Addr):Heap->Prop:=λh=>∃d e,h.get? x=some d/\d.cls=.ref C/\d.dict=od/\d.data=.fields e
theorem E7 (e:uz x C od h):eM P w H h x (.ext (uz x C od)) :=
 #[e,e.elim λ_ q=>q.elim λ_ q=>#[_,q.1],λ_ _ ⟨g,d,q,r⟩ k=>#[g,d,k _ q,r]]
structure wu(K:Frag) (C G:Addr):Prop where
 cls:∀h,K.In h->∃nm q N bs bm hdct sn sub ab col dd k0 k1 k2 k3 k5 nw,h.get? C=some (Qn nm q C N bs bm hdct sn sub ab col dd k0 k1 k2 k3 k5 nw)/\(Value.ref C::bm).contains (.ref G)=true
 top:zg K G
theorem Bj {K:Frag}(r:K.In s.heap)(S:wu K C G)(L:s.heap.get? x=some o)(g:o.cls=.ref C)(go:Q true s):Na M A (excMatches (.ref x) (.ref G)) Q E s:=by
 have(nm,q,N,bs,bm,p,sn,sub,ab,V,dd,k0,k1,k2,k3,k5,nw,R,d):=S.cls _ r;have(z,q',N',W,l,e,v,m,Y,u,U,J,I,H,D,B,y,t,O):=S.top.cls _ r;have T:(Value.ref G::l).contains (.type "BaseException")=true:=by rw[Pz,O,RS]
 have f:=tc_notTuple;have(h9,g9,d9,Z,o9):=s;unfold excMatches
 repeat (first|(with_reducible refine O8 L ?_;rw[g])|(with_reducible refine O8 t ?_)|(with_reducible refine Qx t ?_;rw[T])|(with_reducible refine Qx R ?_;rw[d])|wp_step)
 exact go
noncomputable def Cx.Bk(X:Cx)(x:Addr):Cx:={X with A:=X.A.mark (some (.ref x)),calm:=false,xe:=λ_ _=>False}
theorem Inv.Bk (I:Inv X pins σ H s)(x:Addr):Inv (X.Bk x) pins σ H s :=
 #[#[I.ok.mod,I.ok.kind,I.ok.glob,I.ok.blt,I.ok.above,I.ok.inj,I.ok.has,I.ok.cab,nofun,I.ok.frames,I.ok.stk,I.ok.exf,I.ok.bs,I.ok.bsz,I.ok.noex,I.ok.exfs,I.ok.qB,I.ok.frf],I.os,I.bare,I.base,I.loc,I.cell,I.free,I.freeC,I.pin,I.hok,I.len]
theorem Inv.Ly (I:Inv (X.Bk x) pins σ H s)(ok:X.Ok):Inv X pins σ H s:=#[ok,I.os,I.bare,I.base,I.loc,I.cell,I.free,I.freeC,I.pin,I.hok,I.len]
theorem Inv.J0 {V:eF}(I:Inv X [] σ H s)(l:X.pn=[])(F:Fl H s.heap X.s₀.heap.objs.size x C od V):Inv X [] σ (upd H x (.ext (uz x C od))) s:=by
 have((M,J,D,t,r,hd,T,Y),O,S):=F;have(R,Q,W):=I.wo D hd;have d:∀b u,H b=some u->b≠x:=λb u e z=>by(rw[z,S]at e;cases e)
 have g:∀b o,X.s₀.heap.get? b=some o->b≠x:=λb o e z=>N7 _ (Nd (L0 e) (by rw[z];exact O));refine#[I.ok,I.os,I.bare,#[I.base.keep,I.base.slot,λb o e n U=>?_,I.base.there,λb v e=>?_,λb o u e=>?_,λb L e=>?_],I.loc,I.cell,?_,λy c h=>?_,λp B=>?_,λb u e=>?_,I.len]
 .rw[au (g b o e)];exact I.base.free b o e n U
 .have q:=I.base.tups b v e;rw[au (d b _ q)];exact q
 .have q:=I.base.frzs b o u e;rw[au (d b _ q)];exact q
 .have(m,q):=I.base.tbls b L e;exact#[m,by rw[au (d b _ q)];exact q]
 .rw[au (PK R)];exact I.free
 .rw[au (Q y c h)];exact I.freeC y c h
 .rw[l]at B
  cases B
 .by_cases G:b=x
  .subst G;rw[af]at e
   cases e
   exact E7 #[M,J,D,t,r,hd]
  .rw[au G]at e;exact(I.hok b u e).stay (λ_ _ _ q=>q) (λc q=>by rw[au (d c _ q)];exact q) λc v q=>by rw[au (d c _ q)];exact q
def Lz(X:Cx)(st:Stmt)(t:TS):Prop :=
 ∀(s:fy) (d:St) (H:Hp) (D:Ends),Inv X [] d H s->t D d H->Na (Nf X.prog X.w) X.A (exec st X.env) (SP X [] D) X.xe s
def xU(X:Cx)(st:List Stmt)(t:TS):Prop :=
 ∀(s:fy) (d:St) (H:Hp) (D:Ends),Inv X [] d H s->t D d H->Na (Nf X.prog X.w) X.A (execs st X.env) (SP X [] D) X.xe s
theorem qT.top {st:List Stmt}(h:qT X st t):xU X st t:=λs d H D I q=>h [] s d H D I q
theorem PS.top {st:Stmt}(h:PS X st t):Lz X st t:=λs d H D I q=>h [] s d H D I q
noncomputable def behind(i:Nat)(D:Ends):Ends:={nx:=λd H=>D.nx (d.set i none) H,rt:=D.rt,bk:=λd H=>D.bk (d.set i none) H,ct:=λd H=>D.ct (d.set i none) H}
def LA(K:Frag)(G:Addr)(p i:Nat)(E':XK)(o:TS)(m:TS):TS:=λD l H=>o D l H/\∀d g e,E' d g e->∃C,d=.ref C/\wu K C G/\∀x,e x=none->m (behind i D) ((Nb p none).set i (some (.ref x))) (upd e x (.ext (uz x C g)))
theorem Il {T:TS}(p:X.pn=[])(O:X.stack=X.env::X.outer)(hf:X.env.frame=some X.env.locals)(hb:qT (X.ju (GO X E')) y U)(hg:Gl X g)(hm:X.mg g=some (.ref G))(hN:X.N.Nodup)(hi:X.N[i]?=some n)(hk:X.env.scope.names.lookup n=some .local)(hs:∀x,qT (X.Bk x) (Y::l) T)(hdb:(g == ("__debug__":Str))=false:=by decide):
  Lz X (.Try y [.ExceptHandler (some (.Name g gp)) (some n) (Y::l) W] [] [] M) (LA X.K G X.N.length i E' U T):=by
 intro s σ H D I h;have(h1,h2):=h;refine wpAny_Try_except (Nz (hb [] s σ H D (I.ju _) h1) (λf s1 q=>?_) λe s1 q=>?_)
 .cases f with
  |next=>exact vv q.fF
  |brk=>exact q.fF
  |cont=>exact q.fF
  |ret u=>exact q.fF
 .have(x,C,od,fl,aa,H1,rfl,I1,F1,q1):=q;have(C',ec,S,q2):=h2 _ _ _ q1
  cases ec
  have q3:=q2 x F1.hx;refine wq I1 p O hf F1 λs2 o2 I2 F2=>?_;refine nV I2 p F2 λs3 ac o3 I3 F3=>?_;refine wpAny_handleBy_cons (codeAny_handlers_test ?_) (by intro z;cases z);have R:=I3.Bk x;refine pB R hg hm ?_ hdb;have(oe,vs,he,Q,_):=F3.ob;refine Bj R.sy S he Q ?_;refine codeAny_handlers_suite_as ?_;refine nV (X:=X.Bk x) R p F3 λs4 ab o4 J4 F4=>?_;have Z:=Inv.J0 J4 p F4
  have J6:Inv (X.Bk x) [] (Nb X.N.length none) (upd H1 x (.ext (uz x C od))) s4:=Z.weak (by rw[OM];exact Z.len.symm) λj v e=>by
   rw[PY]at e
   split at e<;>cases e
  refine kO (X:=X.Bk x) J6 hN hi (.inl hk) (show RelV (.ref x) (Value.ref x)from rfl) (λs5 J7=>?_) (.inr hk);refine Nz (hs x [] s5 _ _ _ J7 q3) (λf V B=>?_) λ_ _ z=>z.elim
  have fin:∀{d:St}{m:Hp}{L:Flow->fy->Prop},Inv (X.Bk x) [] d m V->(∀o,Inv X [] (d.set i none) m o->L f o)->Na (Nf X.prog X.w) X.A (do Tn X.env n .none;RB X.env n W) (λ_ o=>L f o) X.xe V:=λ{d m L} J go =>
   E6 (J.Ly I.ok) hN hi hk λo t=>go o t
  cases f with
  |next =>
   have(d,m,J,q):=B;exact fin J λo t=>#[_,m,t,q]
  |brk =>
   have(d,m,J,q):=B;exact fin J λo t=>#[_,m,t,q]
  |cont =>
   have(d,m,J,q):=B;exact fin J λo t=>#[_,m,t,q]
  |ret u =>
   have(v,d,m,J,r,q):=B;exact fin J λo t=>#[v,_,m,t,r,q]
def kJ(H:Hp)(x C:Addr)(fs:List (Str×V)):Prop:=(fs=[]/\H x=some (.ext (uz x C none)))\/∃d,H x=some (.ext (uz x C (some d)))/\H d=some (.xd fs)
theorem kJ.Bk (e:kJ H x C fs)(ok:mQ P w H h):GN x C h:=by
 rcases e with⟨-,e⟩|⟨dx,e,ed⟩
 .obtain⟨⟨l,q,p,m,g,d⟩,-,-⟩:=ok x _ e;exact#[l,none,p,m,by(unfold notCls;rw[d]),by(rw[g];trivial)]
 .obtain⟨⟨l,q,p,m,g,d⟩,-,-⟩:=ok x _ e;obtain⟨t,⟨o,u,v,r,-⟩,-⟩:=ok dx _ ed;exact#[l,some o,p,m,by(unfold notCls;rw[d]),by(rw[g];exact r)]
theorem nB :iQ X (.builtin "isinstance") (λxs H Q=>∃x C fs D r,xs=[.ref x,.ref D]/\kJ H x C fs/\Bf X.K C/\RJ X.K (.ref C) (.ref D)=some r/\Q (.bl r) H):=by
 intro d s m H xs o Q I r h;have(x,C,fs,D,b,rfl,e,G,k,q):=h;have(u,g,rfl,l,r2):=vals2 r;obtain rfl:u=Value.ref x:=l;obtain rfl:g=Value.ref D:=r2;exact kia_one (wm G) I.sy (e.Bk I.hok) k nofun λp=>#[.bl b,H,I.tok _,rfl,q]
theorem wz :iQ X (.builtin "isinstance") (λxs H Q=>∃x C fs T r,xs=[.ref x,.ty T]/\kJ H x C fs/\Bf X.K C/\RJ X.K (.ref C) (.type T)=some r/\Q (.bl r) H):=by
 intro d s m H xs o Q I r h;have(x,C,fs,T,b,rfl,e,G,k,q):=h;have(u,g,rfl,l,r2):=vals2 r;obtain rfl:u=Value.ref x:=l;obtain rfl:g=Value.type T:=r2;exact kia_one (wm G) I.sy (e.Bk I.hok) k nofun λp=>#[.bl b,H,I.tok _,rfl,q]
theorem wA :iQ X (.builtin "isinstance") (λxs H Q=>∃x C fs d,∃ds:List Addr,∃r,xs=[.ref x,.ref d]/\kJ H x C fs/\Bf X.K C/\cH X.K H d (ds.map V.ref)/\U0 X.K (.ref C) (ds.map Value.ref)=some r/\Q (.bl r) H):=by
 intro g s L H xs M Q I r h;have(x,C,fs,d,ds,b,rfl,e,G,m,k,q):=h;have(u,l,rfl,p,r2):=vals2 r;obtain rfl:u=Value.ref x:=p;obtain rfl:l=Value.ref d:=r2;obtain⟨B,o,D,-⟩:=I.tuple m;have z:=uZ o;subst z;have((R,v,y,t),J,rfl,n,rfl):=D;exact kia_tup (wm G) I.sy (e.Bk I.hok) J k nofun λO=>#[.bl b,H,I.tok _,rfl,q]
def Im(K:Frag)(ta:TE)(n:Str):TE:=λe H Q=>ta e H λx d=>∃a C fs v,x=.ref a/\kJ d a C fs/\Ih K C n/\fs.lookup n=some v/\Q v d
theorem CK (Y:PE X e ta)(Z:Qz e n X.env (eval e X.env)=eval e X.env:=by rfl):PE X (.Attribute e n p) (Im X.K ta n):=by
 intro d s J H Q I h;refine zM Z (cR (Y d s J H _ I h) λu s1 ⟨x,H1,g,L,a,C,fs,v,ex,B,R,l,q⟩=>?_);subst ex;obtain rfl:u=Value.ref a:=L;rcases B with⟨rfl,-⟩|⟨dx,B,ed⟩
 .cases l
 obtain⟨⟨O,vs,e1,ec,y,r⟩,-,-⟩:=g.hok a _ B;have(U,(o,es,ep,eo,t,sk,uk,T),m):=g.hok dx _ ed;have(u,W,D):=lC.some_of (v:=v) (o:=U n) (by rw[<-l];exact m n);have(G,fa,S):=R.no
 have V:Su n o=some (some u):=by
  have z:=T n;rw[W]at z;unfold UC findBy at z;have(en,q1,M):=xn.mp z;unfold Su;rw[t];dsimp only;rw[<-Uc]at q1;rw[q1];exact congrArg (λz=>some (some z)) M
 exact Bd (ox:=O) (od:=some o) g.sy #[e1,ec,by(unfold notCls;rw[r]),by(rw[y];exact eo)] R.hg (findObj_own R.hd fa S V) (uK D) #[v,H1,g.tok _,D,q]
theorem qN {st:Stmt}(m:Lz X st t)(l:xU X rest u):xU X (st::rest) (aY t u):=by
 intro s e H D I h;refine SG (cR (m s e H {D with nx:=u D} I h) λf g q=>?_)
 cases f with
 |next =>
  have(d,p,o,q):=q;exact l g d p D o q
 |ret v=>exact q
 |brk=>exact q
 |cont=>exact q
theorem jr.E8 {P:I0}{w:Ni}{K:bN}{mg:Str->Option eF}{base:Heap}{x d:Str}{st:Stmt}{f:Addr}{o:M5}{N ps:List Str}{k:Nat}{sp:Sp}(F:jr K x d st f o)(S:aZ N ps (ak st))(g:∀vs H Q E,sp vs H Q E->vs.length=ps.length)(hbody:∀(cdv:eF) (A:Nq) (outer:List Env) (s:fy) (H:Hp) (vs:List V) (Q:VK) (E:XK),dj k (A.deeper (Nj d (ak st) s.heap.objs.size f cdv))->sp vs H Q E ->
   ∃t,qT ((Zj (xS P w) N d (ak st) H).ju (GO (Zj (xS P w) N d (ak st) H) E)) (bg st) t/\t {nx:=λ_ v=>Q .eN v,rt:=Q} (start N vs) H):cA P w K mg base (xS P w) (k+1) f o ps sp:=by
 have(D,C,kV,u,B,I,cdv,G,p,rfl,r,m):=F.ex;refine GD r m S g λA outer s H vs Q E hr l=>?_;have(t,h,q):=hbody cdv A outer s H vs Q E hr l;exact#[t,qT.Ii (λe y z=>Ij z) h,q]
end L2
namespace L2
open PySem PySem.Spec PyProof.Rows
theorem xU.nR {st:List Stmt}(h:xU X.nR st t):xU X st t:=λs d H D I e =>
 Nz (h s d H D (I.ju _) e) (λ_ _ q=>q.fF) λ_ _ z=>OA z
theorem Io {CX:wX}{P:I0}{w:Ni}{K:bN}{mg:Str->Option eF}{base:Heap}{k:Nat}{f:Addr}{name d:Str}{g:Arguments}{l:List Stmt}{scope:OI}{U kV G T cdv ct oc:eF}{Z od:Option Addr}{osl:Array (Option eF)}{N ps:List Str}{sp:Sp}(lk:K.lookup f=some #[oc,od,.func (QZ name d g l scope U kV G T Z cdv ct),osl])(hcd:Sv K cdv d=true)(S:aZ N ps scope)(len:∀vs H Q E,sp vs H Q E->vs.length=ps.length)(hbody:∀(A:Nq) (outer:List Env) (s:fy) (H:Hp) (vs:List V) (Q:VK) (E:XK),dj k (A.deeper (Nj d scope s.heap.objs.size f cdv))->sp vs H Q E ->
   ∃t,xU (Zj CX N d scope H) l t/\t {nx:=λ_ p=>Q .eN p,rt:=Q} (start N vs) H):
  cA P w K mg base CX (k+1) f (QZ name d g l scope U kV G T Z cdv ct) ps sp:=by
 refine#[len,λA outer s H Y us vs Q E hr D hb r C=>?_];have hl:=len _ _ _ _ C;have KX:K.In s.heap:=D.mod.kin.keeps λb o e=>(D.bs b o e).1;have O:s.heap.NoLimit:=D.mod.nolimit.keeps λb o e=>(D.bs b o e).1
 have z:∀y∈ps.zip us,scope.names.lookup y.1=some .local\/(scope.names.lookup y.1=some .cell/\((UE (s.heap.objs.size+1) scope.names []).lookup y.1).isSome=true):=λ⟨n,v⟩ hy=>by
  rcases S.par n (Pc hy).1 with q|q
  .exact .inl q
  .exact .inr #[q,QY _ _ _ (.inl q)]
 refine Th hr.depth (KX _ _ lk) rfl S.co S.gen rfl (Ue KX hcd) (hb _ _ _ _ ?_);refine R1 S.kind z λaa he R x=>?_;subst he;refine#[O.keeps x.toInCall.keep,codeAny_func ?_];have(t,ht,hq):=hbody A outer s H vs Q E (hr.deeper _) C;have I:Inv (Zj CX N d scope H) [] (start N vs) H R:=uP S hr.hd D hl r x;refine Nz (ht R (start N vs) H _ I hq) (λfl L B=>?_) λe L B=>B
 have fin:∀{m:St}{p:Hp}{v:V}{u:eF},Inv (Zj CX N d scope H) [] m p L->RelV v u->Q v p->CE outer P w H s Q u L :=
  λ{m p v u} J M q=>#[v,p,J.os,J.bare,J.base,J.hok,M,q]
 cases fl with
 |ret u =>
  have(v,m,p,J,M,q):=B;exact fin J M q
 |next =>
  have(m,p,J,q):=B;exact fin (v:=V.eN) (u:=Value.none) J rfl q
 |brk =>
  have(_,_,_,q):=B;exact OA q
 |cont =>
  have(_,_,_,q):=B;exact OA q
theorem jr.MM {P:I0}{w:Ni}{K:bN}{mg:Str->Option eF}{base:Heap}{x d:Str}{st:Stmt}{f:Addr}{m:M5}{N ps:List Str}{k:Nat}{sp:Sp}(F:jr K x d st f m)(S:aZ N ps (ak st))(e:∀vs H Q E,sp vs H Q E->vs.length=ps.length)(hbody:∀(cdv:eF) (A:Nq) (outer:List Env) (s:fy) (H:Hp) (vs:List V) (Q:VK) (E:XK),dj k (A.deeper (Nj d (ak st) s.heap.objs.size f cdv))->sp vs H Q E ->
   ∃t,xU (Zj gy N d (ak st) H).nR (bg st) t/\t {nx:=λ_ u=>Q .eN u,rt:=Q} (start N vs) H):cA P w K mg base gy (k+1) f m ps sp:=by
 have(z,y,kV,r,v,C,cdv,B,o,rfl,p,l):=F.ex;refine Io p l S e λA outer s H vs Q E hr g=>?_;have(t,h,q):=hbody cdv A outer s H vs Q E hr g;exact#[t,h.nR,q]
end L2
namespace L2
open PySem PySem.Spec PyProof.Rows PySem.W
def xV(C:Addr)(n:Str):Sp:=λe H Q _=>∃(x:Addr) (y:V),e=[.ref x,y]/\H x=some (.ext (iq x C none))/\∀d,H d=none->d≠x->Q .eN (upd (upd H d (.xd [(n,y)])) x (.ext (iq x C (some d))))
structure ou(P:I0) (w:Ni) (K:Frag) (mg:Str->Option eF) (base:Heap) (x:Str) (k:Nat) (ps:List Str) (sp:Sp) (f:Addr) (fd:M5):Prop where
 ok:cA P w K mg base (xS P w) k f fd ps sp
 at':mg x=some (.ref f)
 kp:Pb K (.ref f)=true
 bd:Binds K fd ps []
structure BY(P:I0) (w:Ni) (K:Frag) (mg:Str->Option eF) (base:Heap) (x:Str) (n:Str) (C f:Addr) (fd:M5):Prop where
 k:E5 K C f
 ok:cA P w K mg base gy 1 f fd ["self",n] (xV C n)
 m:mg x=some (.ref C)
 bd:Binds K fd ["self",n] []
 c:zg K C
def Told(E:XK)(H:Hp)(C:Addr)(n:Str)(y:V):Prop:=∀(d:Addr) (e:Hp),aT H e->H d=none->e d=some (.xd [(n,y)])->E (.ref C) (some d) e
theorem Told.same (t:Told E H C n y)(s:aT H d):Told E d C n y:=λm o e l g=>t m o (s.trans e) (s.free l) g
theorem gc {K:Frag}(c:zg K C)(h:Told E H C n y):∀x,m<=x->H x=none->xV C n (.ref x::([y]++[])) (upd H x (.ext (iq x C none))) (λv p=>v=.eN/\∃d o od,V.ref x=.ref d/\m<=d/\p d=some (.ext (iq d o od))/\zg K o/\E (.ref o) od (BX d p)) E0:=by
 intro x B t;refine#[x,y,rfl,af,λl hd g=>#[rfl,x,C,some l,rfl,B,af,c,h l _ (λb u q=>?_) ?_ ?_]]
 .have e:b≠x:=ay q t
  have r:b≠l:=by
   intro z;subst z;rw[au e]at hd;rw[hd]at q
   cases q
  rw[nA e,au e,au r,au e];exact q
 .rw[au g]at hd;exact hd
 .rw[nA g,au g];exact af
end L2
namespace L2
open PySem
theorem tI (k:Nat):∀{fs:List (Str×V)},fs.length+(k+1)<n->(aX f v fs).length+k<n
 | [],h=>by show 1+k<n;simp at h;omega
 |(g,x)::r,h=>by
  unfold aX
  split
  .rw[Np]at h|-;omega
  .rw[Np]at h|-;have:=tI (f:=f) (v:=v) (n:=n) (k+1) (fs:=r) ();omega
theorem CL (h:fs.length+1<n):(aX f v fs).length<n:=tI 0 h
theorem bj {g:wX}{P:I0}{w:Ni}{K:bN}{mg:Str->Option eF}{base:Heap}{N:List Str}{e:Str}{d:OI}{f:Addr}{cdv:eF}{A:Nq}{outer:List OE}{s:fy}{H:Hp}{E:XK}:(Zj g N e d H).nR.K=K:=rfl
def Cut(b:TS)(D:Ends)(N:St->Hp->Prop):Prop:=∀d H,b D d H->N d H
theorem Cut.go (h:Cut b D N)(g:b D d H):N d H:=h d H g
theorem lS (h:∀N:St->Hp->Prop,Cut b D N->a (D.wn N) d H):aY a b D d H:=h (b D) (λ_ _ x=>x)
theorem E9 (h:D.nx d H):Gz D d H:=h
theorem Fb (h:D.nx (d.set i (some v)) H):vI (tC v) (iF i) D d H:=h
theorem j4 (h:∀l g:St->Hp->Prop,Cut t1 (D.wn g) l->Cut t2 D g->e (D.wn l) d H):aY e (aY t1 t2) D d H:=h (aY t1 t2 D) (t2 D) (λ_ _ x=>x) (λ_ _ x=>x)
theorem tJ (h:∀m l g:St->Hp->Prop,Cut t1 (D.wn l) m->Cut t2 (D.wn g) l->Cut t3 D g->e (D.wn m) d H):aY e (aY t1 (aY t2 t3)) D d H:=h (aY t1 (aY t2 t3) D) (aY t2 t3 D) (t3 D) (λ_ _ x=>x) (λ_ _ x=>x) (λ_ _ x=>x)
theorem xW (h:∀o m l g:St->Hp->Prop,Cut t1 (D.wn m) o->Cut t2 (D.wn l) m->Cut t3 (D.wn g) l->Cut t4 D g->e (D.wn o) d H):aY e (aY t1 (aY t2 (aY t3 t4))) D d H:=h (aY t1 (aY t2 (aY t3 t4)) D) (aY t2 (aY t3 t4) D) (aY t3 t4 D) (t4 D) (λ_ _ x=>x) (λ_ _ x=>x) (λ_ _ x=>x) (λ_ _ x=>x)
theorem tK (h:∀p o m l g:St->Hp->Prop,Cut t1 (D.wn o) p->Cut t2 (D.wn m) o->Cut t3 (D.wn l) m->Cut t4 (D.wn g) l->Cut t5 D g->e (D.wn p) d H):aY e (aY t1 (aY t2 (aY t3 (aY t4 t5)))) D d H:=h (aY t1 (aY t2 (aY t3 (aY t4 t5))) D) (aY t2 (aY t3 (aY t4 t5)) D) (aY t3 (aY t4 t5) D) (aY t4 t5 D) (t5 D) (λ_ _ x=>x) (λ_ _ x=>x) (λ_ _ x=>x) (λ_ _ x=>x) (λ_ _ x=>x)
theorem xX (h:∀r q p o m l:St->Hp->Prop,Cut t1 (D.wn q) r->Cut t2 (D.wn p) q->Cut t3 (D.wn o) p->Cut t4 (D.wn m) o->Cut t5 (D.wn l) m->Cut d D l->g (D.wn r) e H):aY g (aY t1 (aY t2 (aY t3 (aY t4 (aY t5 d))))) D e H:=h (aY t1 (aY t2 (aY t3 (aY t4 (aY t5 d)))) D) (aY t2 (aY t3 (aY t4 (aY t5 d))) D) (aY t3 (aY t4 (aY t5 d)) D) (aY t4 (aY t5 d) D) (aY t5 d D) (d D) (λ_ _ x=>x) (λ_ _ x=>x) (λ_ _ x=>x) (λ_ _ x=>x) (λ_ _ x=>x) (λ_ _ x=>x)
theorem J1 (h:∀u t r q p o m:St->Hp->Prop,Cut t1 (D.wn t) u->Cut t2 (D.wn r) t->Cut t3 (D.wn q) r->Cut t4 (D.wn p) q->Cut t5 (D.wn o) p->Cut e (D.wn m) o->Cut d D m->l (D.wn u) g H):aY l (aY t1 (aY t2 (aY t3 (aY t4 (aY t5 (aY e d)))))) D g H:=h (aY t1 (aY t2 (aY t3 (aY t4 (aY t5 (aY e d))))) D) (aY t2 (aY t3 (aY t4 (aY t5 (aY e d)))) D) (aY t3 (aY t4 (aY t5 (aY e d))) D) (aY t4 (aY t5 (aY e d)) D) (aY t5 (aY e d) D) (aY e d D) (d D) (λ_ _ x=>x) (λ_ _ x=>x) (λ_ _ x=>x) (λ_ _ x=>x) (λ_ _ x=>x) (λ_ _ x=>x) (λ_ _ x=>x)
theorem CM (h:∀y v u t r q p o:St->Hp->Prop,Cut t1 (D.wn v) y->Cut t2 (D.wn u) v->Cut t3 (D.wn t) u->Cut t4 (D.wn r) t->Cut t5 (D.wn q) r->Cut g (D.wn p) q->Cut e (D.wn o) p->Cut d D o->m (D.wn y) l H):aY m (aY t1 (aY t2 (aY t3 (aY t4 (aY t5 (aY g (aY e d))))))) D l H:=h (aY t1 (aY t2 (aY t3 (aY t4 (aY t5 (aY g (aY e d)))))) D) (aY t2 (aY t3 (aY t4 (aY t5 (aY g (aY e d))))) D) (aY t3 (aY t4 (aY t5 (aY g (aY e d)))) D) (aY t4 (aY t5 (aY g (aY e d))) D) (aY t5 (aY g (aY e d)) D) (aY g (aY e d) D) (aY e d D) (d D) (λ_ _ x=>x) (λ_ _ x=>x) (λ_ _ x=>x) (λ_ _ x=>x) (λ_ _ x=>x) (λ_ _ x=>x) (λ_ _ x=>x) (λ_ _ x=>x)
theorem KS {e d:Type}{p:e->d->Prop}(a:e)(b:d)(h:p a b):∃a b,p a b:=#[a,b,h]
theorem MN {g e d:Type}{p:g->e->d->Prop}(a:g)(b:e)(c:d)(h:p a b c):∃a b c,p a b c:=#[a,b,c,h]
theorem MO {m l g e:Type}{p:m->l->g->e->Prop}(a:m)(b:l)(c:g)(d:e)(h:p a b c d):∃a b c d,p a b c d:=#[a,b,c,d,h]
theorem MP {q o m l ε g:Type}{p:q->o->m->l->ε->g->Prop}(a:q)(b:o)(c:m)(d:l)(e:ε)(f:g)(h:p a b c d e f):∃a b c d e f,p a b c d e f:=#[a,b,c,d,e,f,h]
theorem MQ {v u t r ε q o m l:Type}{p:v->u->t->r->ε->q->o->m->l->Prop}(a:v)(b:u)(c:t)(d:r)(e:ε)(f:q)(g:o)(i:m)(j:l)(h:p a b c d e f g i j):∃a b c d e f g i j,p a b c d e f g i j:=#[a,b,c,d,e,f,g,i,j,h]
theorem MR :T.mZ []<=d:=by rw[T.mZ];exact Nn _
theorem MS (h:x.dep<=d)(r:T.mZ xs<=d):T.mZ (x::xs)<=d:=by rw[T.mZ];exact Nat.max_le.mpr #[h,r]
theorem MT (h:T.mZ xs<=d):T.dep (.t xs)<=d+1:=by rw[T.dep];exact Pq h
theorem LU :T.dep (.s x)<=d:=by simp[T.dep]
theorem MU :T.dep (.i x)<=d:=by simp[T.dep]
end L2
open L2 in
local macro_rules | `(tactic| fail "Z") => `(tactic| first | exact bQ.of (by first | assumption | exact af) | exact cH.of (by first | assumption | exact af) | omega | (dsimp only [List.length_cons, List.length_nil]; decide) | decide | exact Nat.zero_le _ | (refine CL ?_; (repeat with_reducible refine tI _ ?_); decide))
open L2 in
local macro_rules | `(tactic| fail "S") => `(tactic| first
  | ((with_reducible change @Eq _ _ _); (first | exact rfl | assumption | exact af | (rw [au (by assumption)]; first | exact af | assumption | (rw [au (by assumption)]; first | exact af | assumption)) | omega))
  | ((with_reducible first | change @LT.lt _ _ _ _ | change @LE.le _ _ _ _); (first | omega | with_reducible assumption | fail "Z"))
  | assumption
  | ((with_reducible refine And.intro ?_ ?_) <;> fail "S")
  | ((with_reducible refine Or.inl ?_); fail "S")
  | ((with_reducible refine Or.inr ?_); fail "S")
  | ((with_reducible apply Exists.intro); fail "S")
  | ((with_reducible first | change KJ _ _ _ _ | change HE _ _ _ _ | change JC _ _ | change Em _ _ | change JD _ _); first | ((first | refine (?_ : @Eq _ _ _) | refine (?_ : And _ _) | refine (?_ : Or _ _) | refine (?_ : Exists _)); fail "S") | exact True.intro)
  | fail "Z")
open L2 in
local macro_rules | `(tactic| fail "T") => `(tactic| first
  | ((with_reducible first | refine CM ?_ | refine xX ?_ | refine tK ?_ | refine xW ?_ | refine tJ ?_ | refine j4 ?_ | refine lS ?_); intros)
  | (refine (?_ : Exists _); first
     | with_reducible first | apply @Exists.intro Hp | apply @Exists.intro Sp
     | ((fail_if_success (with_reducible apply @Exists.intro (_ -> _))); (with_reducible first | apply MQ | apply MP | apply MO | apply MN | apply KS | apply Exists.intro)))
  | (refine And.intro ?_ ?_; fail "S")
  | ((try with_reducible first | refine E9 ?_ | refine Fb ?_); refine (by with_reducible assumption : Cut _ _ _) _ _ ?_))
local macro_rules | `(tactic| ext) => `(tactic| first | (fail "T"; ext) | refine And.intro ?_ ?_ | refine (?_ : @ite _ _ _ _ _) | skip)
local macro_rules | `(tactic| fail "F") => `(tactic| first | ((with_reducible apply Exists.intro); fail "F") | ((with_reducible refine And.intro ?_ ?_); fail "S"))
local macro_rules | `(tactic| fail "O") => `(tactic| first | (fail "T"; fail "O") | refine And.intro ?_ ?_ | ((first | (refine Or.inl ?_; fail "F") | (refine Or.inr ?_; fail "F")); fail "O") | refine (?_ : @ite _ _ _ _ _) | skip)
open L2 in
local macro_rules | `(tactic| fail "D") => `(tactic| repeat' first | exact MR | exact LU | exact MU | assumption | exact Nat.le_trans (by assumption) (by decide) | refine MT ?_ | refine MS ?_ ?_)
namespace L2
open PySem
@[irreducible] def jb (X:Cx) (st:List Stmt):TS:=λD σ H=>∃u,qT X st u/\u D σ H
theorem cO :qT X st (jb X st):=λd s e H D I h=>by
 unfold jb at h;have(u,g,q):=h;exact g d s e H D I q
theorem d7 (h:qT X st u)(q:u D d H):jb X st D d H:=by
 unfold jb;exact#[u,h,q]
noncomputable def forA:List Stmt->List Stmt
 |.For _ _ a _ _::_=>a
 |_=>[]
noncomputable def isStar:Expr->Bool
 |.Starred _ _=>true
 |_=>false
theorem CN (h:isStar e=false):N8 (e::g) d=(false,eval e d)::N8 g d:=by
 cases e<;>first|rfl|cases h
theorem dc {e:Expr}{g:List Expr}{d:TE}{t:TA}(l:PE X e d)(hr:PA X g t)(hs:isStar e=false:=by rfl):PA X (e::g) (oB d t):=bI l hr (CN hs)
end L2
namespace L2
open PySem PySem.Spec PyProof.Rows
open PySem.AutoSeq1 (wpAny_loadPart')
theorem CO (t:A.handled=none)(it l:Addr)(p:l≠it)(items:Array eF):
  Draws prog w A it [it,l] items.size (λi v=>items[i]?=some v) (λi h=>qz b h it l i/\qZ b h l items) where
 live:=λ_ _ d=>d.1.got
 frame:=λ_ _ _ d q=>#[d.1.at λo e=>q it (by simp) o e,d.2.at λo e=>q l (by simp) o e]
 item:=λi s Q E r d u=>by
  refine qc d.1 d.2 (x:=items[i]) (by simp[r]) λz m g=>?_;exact u _ z s.toks (by simp[r]) #[m,d.2.extBut g.extBut p] g
 done:=λs Q E d y=>vZ t d.1 d.2 (by simp) y
set_option maxRecDepth 100000 in
theorem Fc (b:Bool)(l:Addr)(items:Array eF):
  Meets (QW.«enumerate.__new__» #[[.type "enumerate",.ref l],[]]) (λ_ R s=>qZ b s.heap l items /\
   R (.ok (.ret (.ref (s.heap.push (ny b l)).objs.size)))
    {s with heap:=(s.heap.push (ny b l)).push {cls:=.type "enumerate",data:=.fields #[.none,.bool false,.ref s.heap.objs.size,Qd 0,.none,.none,]}}) :=
 .of_wp λq w A R s h=>by
  have(z,g,d,t,v):=s;have(e,h):=h;have r:=sub_enumerate;have p:qZ b (UO #[z,g,d,t,v]) l items:=e;have(o,m):=e.got;have(D,C,y,u):=o
  wp_walk using RK m
  refine wpAny_stack_any λB=>vv ?_
  split
  .rename_i c _ _ _ _ _
   cases(c == Value.type "enumerate")
   .wp_walk using RK m,xP p
    exact#[_,rfl,h]
   .wp_walk using RK m,xP p
    exact#[_,rfl,h]
  .wp_walk using RK m,xP p
   exact#[_,rfl,h]
end L2
namespace L2
open PySem PySem.Spec PyProof.Rows
theorem CP (m:qZ b s.heap l items)(h:∀h',IsEnum h' (s.heap.objs.size+1) s.heap.objs.size 0 .none->qz b h' s.heap.objs.size l 0->h'.objs.size=s.heap.objs.size+2 ->
   (∀b o,s.heap.get? b=some o->h'.get? b=some o)->Q (.ref (s.heap.objs.size+1)) {s with heap:=h'}):
  Na (Nf prog w) A (call (.type "enumerate") [.ref l]) Q E s:=by
 refine callType_new PySem.F.called_enumerate (by decide) (PySem.F.typeCall_enumerate_1 _) (PySem.F.newCall_enumerate_1 _) (λd=>PySem.F.args_object_init_2 d _) PySem.F.entry_enumerate_new (Fc b l items) #[m,?_];have g:(s.heap.push (ny b l)).objs.size=s.heap.objs.size+1:=Oc ..;have e:=Nc (s.heap.push (ny b l)) (o:={cls:=.type "enumerate",data:=.fields #[.none,.bool false,.ref s.heap.objs.size,Qd 0,.none,.none,]}) rfl;show _/\_;rw[g]at e|-;exact#[#[_,e,rfl],h _ e (CF (tF _ (Nc _ rfl))) (by rw[Oc,g]) λb o x=>tF _ (tF _ x)]
noncomputable def Ka (K : bN) (b : Bool) (l : Addr) : It :=
  #[λi H => ∃ d x, nU K b H l d ∧ d[i]? = some x,
   λi H v e => ∃ p x, H p = none ∧ v = .ref p ∧ e = upd H p (.tup [.int i, x]) ∧ ∀ d, nU K b H l d -> d[i]? = some x,
   λi H => ∃ d, nU K b H l d ∧ d.length = i]
theorem Bl {K:bN}{T:Pos}(e it l:Addr)(d1:e≠it)(d2:l≠it)(d3:l≠e):Turn P w K (.Tuple M x1 T) (Ka K b l) [e,it] e
  (λi h=>(∃m,IsEnum h e it i m)/\qz b h it l i) where
 mem:=by simp
 obj:=λi h B c g=>by
  have((m,r),t):=B;simp only[M8,Nv,or_false]at g;rcases g with rfl|rfl
  .exact#[_,r,λv z=>by cases z]
  .cases b with
   |false=>have(o,e,_,d):=(show h.IsListIter _ l i from t);exact#[o,e,λv z=>by rw[d]at z;cases z]
   |true=>have(o,e,_,d):=(show h.IsTupleIter _ l i from t);exact#[o,e,λv z=>by rw[d]at z;cases z]
 keep:=λi h h' B k=>by
  have((m,r),t):=B;exact#[#[m,k e (by simp) _ r],t.at λo q=>k it (by simp) o q]
 item:=by
  intro X hP Z hK g i D s σ H E I R B hg;subst hP Z hK;have(xs,x,Q,hx):=hg;have((m,r),t):=B;have(p,S,U,_):=lR I Q;have(u,hu,ru):=S.get hx
  have ab:i<p.toArray.size:=by
   have:=(bH.mp hu).1
   simpa using this
  refine wpAny_pyNext_enum_itemD (CO (A:=X.A.in1) (b:=b) (I.ok.hd g) it l d2 p.toArray) r #[t,U] ab d1 (by simp[d1,PK d3]) λy h' O hy ho aa hT ad hk=>?_
  have Y:y=u:=by
   have G:p[i]?=some y:=by simpa using hy
   rw[hu]at G;exact(Ng G).symm
  subst Y;refine#[.ref s.heap.objs.size,rfl,wpAny_letOwnedTupleGo_enum (s:={s with heap:=h',toks:=O+1}) ho λL ac C=>?_]
  have ne:∀c∈[e,it],c≠s.heap.objs.size:=λc g z=>by
   obtain⟨o,e2⟩:∃o,s.heap.get? c=some o:=by
    simp only[M8,Nv,or_false]at g;rcases g with rfl|rfl
    .exact#[_,r]
    .exact t.got
   have:=L0 e2;rw[z]at this;exact N7 _ this
  have kk:∀c o,c∉[e,it]->s.heap.get? c=some o->L.get? c=some o:=λc o g q=>by
   simp only[M8,Nv,or_false,not_or]at g;exact(C.2 c g.1).trans (hk c o g.1 g.2 q)
  have J:L.get? s.heap.objs.size=some {cls:=.type "tuple",data:=.seq #[.int i O,y,]}:=(C.2 _ (ne e (by simp)).symm).trans hT
  refine#[.ref s.heap.objs.size,upd H s.heap.objs.size (.tup [.int i,x]),I.wg (t':=O+1) R kk (i5 _) #[(by show 2<=mH;decide),_,.cons #[O,rfl] (.cons ru .nil),#[_,J,rfl,_,rfl],_,J,rfl],rfl,
   #[_,x,I.hok.fresh (i5 _),rfl,rfl,λzs V=>by rw[nU.inj I V Q];exact hx],?_,λc g=>?_]
  .exact#[#[_,by simpa using ac],aa.1.at λo q=>(C.2 it (PK d1)).trans q]
  .rw[au (ne c g)];exact(R c g).1
 done:=by
  intro X hP Z hK g i D s σ H E I R B hg;subst hP Z hK;have(xs,Q,hl):=hg;have((m,r),t):=B;have(p,S,U,_):=lR I Q;have e1:=S.length;have ei:i=p.toArray.size:=by simp;omega
  rw[ei]at t;refine wpAny_pyNext_enum_endD (CO (A:=X.A.in1) (b:=b) (I.ok.hd g) it l d2 p.toArray) r #[t,U] λh' hk=>#[rfl,I.wc (t':=s.toks) R λc o g q=>?_];simp only[M8,Nv,or_false,not_or]at g;exact hk c o g.2 q
 self:=λ_ _ _ _ _ B h=>let⟨_,r⟩:=B.1;wpAny_pyIter_enum r h
def Kc(K:bN)(t:TA):TI:=λe H R=>t e H λl d=>∃b p g,l=[.ref p]/\nU K b d p g/\R (Ka K b p) d
theorem Fd (K:bN)(hK:X.K=K)(Y:Gl X "enumerate")(U:X.mg "enumerate"=none)(Z:PA X [a] t)(he:N8 [a] X.env=(false,eval a X.env)::N8 [] X.env:=by rfl)(hpl:(RT v (N8 [] X.env)).any (·.1)=false:=by rfl):PI X (.Tuple o D r) (.Call (.Name "enumerate" L) [a] [] v) (Kc K t):=by
 subst hK;intro l s C H R I h;refine O2 (qD I Y U (u:=.type "enumerate") (by decide) ?_ (by decide) (by decide));refine Ph ?_ he hpl;refine cR (Z v l s C H _ I h) λus d ⟨vs,H1,q,J,q1⟩=>?_;have(c,p,xs,rfl,Q,T):=q1;have(u,rfl,G):=vals1 J;obtain rfl:u=Value.ref p:=G;have(O,rv,y,_):=lR q Q;have M:@LT.lt Nat _ p d.heap.objs.size:=by have(_,e):=y.got;exact L0 e
 refine CP y λg z h1 S V=>?_;refine wpAny_pyIter_enum (s:={d with heap:=g}) z ?_;refine#[d.heap.objs.size+1,[d.heap.objs.size+1,d.heap.objs.size],_,_,H1,rfl,q.kept (t':=d.toks) V,Bl _ _ p (by show @Ne Nat _ _;omega) (by show @Ne Nat _ _;omega) (by show @Ne Nat _ _;omega),#[#[_,z],h1],λb B=>?_,T]
 have m:d.heap.objs.size<=b:=by
  simp only[M8,Nv,or_false]at B;rcases B with rfl|rfl
  .exact Po _ 1
  .exact i5 _
 exact q.AS m (q.hok.fresh m)
theorem CQ {K:bN}{g:TG}{u:TS}{D:Ends}(l:Nat->St->Hp->Prop)(J:l 0 d H)(G:∀i d H,i<=xs.length->l i d H->nU K b H a xs)(hs:∀i x d H p,xs[i]?=some x->l i d H->H p=none->g (.ref p) d (upd H p (.tup [.int i,x])) λo t=>u {D with nx:=l (i+1),ct:=l (i+1),bk:=D.nx} o t)(hd:∀d H,l xs.length d H->D.nx d H):
  ∃W:Nat->Nat->St->Hp->Prop,(∃m,W 0 m d H)/\∀i m d H,W i m d H ->
   ((Ka K b a).stop i H/\D.nx d H)\/((Ka K b a).go i H/\∃N:St->Hp->Prop,(∀σ' q,N σ' q->∃m',m' < m/\W (i+1) m' σ' q)/\∀x q,(Ka K b a).yld i H x q->g x d q λo t=>u {D with nx:=N,ct:=N,bk:=D.nx} o t):=by
 refine#[λi m d H=>m=xs.length-i/\i<=xs.length/\l i d H,#[xs.length,by simp,Nn _,J],?_];rintro i m d H ⟨rfl,I,p⟩;have q1:=G i d H I p
 by_cases r:i<xs.length
 .refine .inr #[#[xs,xs[i],q1,by simp[r]],l (i+1),λσ' q B=>#[xs.length - (i+1),(),rfl,r,B],λx q y=>?_];have(z,v,C,rfl,rfl,L):=y;exact hs i v d H z (L xs q1) p C
 .have e:i=xs.length:=()
  subst e;exact .inl #[#[xs,q1,rfl],hd d H p]
noncomputable def sp(c:Nat):List Nat->List (List Nat)
 | []=>[[]]
 |a::l=>if a=c then []::sp c l else match sp c l with
  |p::r=>(a::p)::r
  | []=>[[a]]
end L2
namespace G14
open PySem L2
theorem qe {W:eF->fy->Prop}{CX:wX}{P:I0}{w:Ni}{K:bN}{mg:Str->Option eF}{base:Heap}{N:List Str}{e:Str}{d:OI}{f:Addr}{cdv:eF}{A:Nq}{outer:List Env}{s:fy}{H:Hp}{E:XK}:((Zj CX N e d H).ju W).K=K:=rfl
theorem qf {CX:wX}{P:I0}{w:Ni}{K:bN}{mg:Str->Option eF}{base:Heap}{N:List Str}{e:Str}{d:OI}{f:Addr}{cdv:eF}{A:Nq}{outer:List Env}{s:fy}{H:Hp}{E:XK}:(Zj CX N e d H).K=K:=rfl
def CS(g:Addr):Sp:=λe H Q E=>∃(n:Int) (l:Addr) (d:List Int),e=[.int n,.ref l]/\H l=some (.lst (d.map V.int))/\d.length<=900/\(n∈d->Told E H g "name" (.str "?"))/\(n∉d->Q .eN (upd H l (.lst ((d++[n]).map V.int))))
def qO(K:bN)(l:Addr):Sp:=λg H Q E=>∃(a:Addr) (b:Bool) (d:List Str),g=[.ref a]/\nU K b H a (d.map V.str)/\d.length<=500/\(∀x,cJ [] d=some x->Told E H l "name" (.str x))/\(cJ [] d=none->∀e,aT H e->Q .eN e)
theorem kh :Nm V5 (ak lQ):=by decide
theorem xY :aZ V5 V5 (ak lQ):=#[rfl,rfl,rfl,by decide,rfl,by decide,by decide]
theorem Ip (F:jr K "look_gap" "look_gap" lQ f o)(d:BY P w K mg base "Twice" "name" cT fT dT):cA P w K mg base (xS P w) 3 f o V5 (CS cT):=by
 refine F.E8 xY (λq H Q E h=>?_) (λcdv A outer s H q Q E hr h=>?_)
 .have(_,_,_,rfl,_):=h;rfl
 have(n,l,ns,rfl,t,B,u,k):=h;refine#[_,(Z5 (Zb (nS gq (va kh 0) (va kh 1) (by with_unfolding_all rfl)) (Ze (@gX _ _ _ _ _ rfl (ja d.k d.ok (hr.mono ()) (by left) d.m d.bd .nil kT (Zd aH))))) (Ze (Zo (Z6 (va kh 1) (Zd (va kh 0)))))),?_]
 right
 try dsimp only[qe,qf]
 have C:=qM ns;have v:bQ K H l (ns.map V.int):=bQ.of t;have g:=sZ (n:=n) (ns:=ns);have y:(ns.map V.int).length<mH:=bq (by rw[bM];omega);ext;refine cg (λc=>?_) (λc=>?_)
 .have e:n∈ns:=by
   have p:oj (.int n) (ns.map V.int)=true:=c;rw[g]at p;exact of_decide_eq_true p
  have r:=u e;ext;exact gc d.c r
 .have e:n∉ns:=λz=>c (by show oj (.int n) (ns.map V.int)=true;rw[g];exact decide_eq_true z);ext;have:=k e;rw[lj]at this;exact this
theorem jc :Nm ["names","at","name"] (ak jx):=by decide
theorem qg :Lm ["names","at","name"] (ak jx):=by decide
theorem lT :aZ ["names","at","name"] Wd (ak jx):=#[rfl,rfl,rfl,by decide,rfl,by decide,by decide]
theorem Fe (F:jr K "look_once" "look_once" jx f W)(d:BY P w K mg base "Twice" "name" cT fT dT)(e:mg "enumerate"=none):cA P w K mg base (xS P w) 3 f W Wd (qO K cT):=by
 refine F.E8 lT (λZ H Q E h=>?_) (λcdv A outer s H Z Q E hr h=>?_)
 .have(_,_,_,rfl,_):=h;rfl
 have(a,b,xs,rfl,O,hn,U,k):=h;refine#[_,(Ze (Zh (i9 rfl rfl rfl) (Fd K rfl (by left) e (Zd (va jc 0))) (Z9 (2) (Zf (ga lT.nd qg 1) (Zt (ga lT.nd qg 2)))) (Ze (Zb (Zi gq (va jc 2) (@dY _ _ _ _ _ _ _ _ _ _ (BW.or rR vK) (va jc 0) eZ (dm (va jc 1))) (by with_unfolding_all rfl)) (Ze (@gX _ _ _ _ _ rfl (@ja _ _ _ _ _ _ _ _ _ _ _ _ _ _ _ _ _ d.k d.ok (hr.mono ()) (by left) d.m d.bd .nil kT (Zd (va jc 2)) (by decide) (by rfl) (by rfl)))))))),?_]
 right
 try dsimp only[qe,qf]
 have S:(xs.map V.str).length=xs.length:=bM _;ext;refine CQ (K:=K) (b:=b) (xs:=xs.map V.str) (λi I u=>(∃y z,I=[some (.ref a),y,z])/\aT H u/\cJ [] xs=cJ (xs.take i) (xs.drop i)) #[#[_,_,rfl],aT.refl _,rfl] ?_ ?_ ?_
 .rintro i I u hi ⟨_,D,_⟩;exact xR O D
 .rintro i v I u p3 hv ⟨⟨_,_,rfl⟩,D,g⟩ hp3;rw[EF]at hv;have(x,T,rfl):=xn.mp hv;have aa:=(bH.mp T).1;have R:=ae hp3 (.tup [.int i,.str x]);have h3:upd u p3 (.tup [.int i,.str x]) p3=some (.tup [.int i,.str x]):=af;generalize upd u p3 (.tup [.int i,.str x])=H3 at R h3|-;have p:=D.trans R;have B:=xR O p;rw[xQ T]at g;have Y:jv (xs.map V.str) none (some (i:Int))=(xs.take i).map V.str:=by rw[iL,Pk]
  have fl:=iM (xs.take i);have J:=j0 (x:=x) (xs:=xs.take i)
  cases b with
  |false =>
   have o:bQ K H3 a (xs.map V.str):=B;ext;refine .inl #[_,_,rfl,o,λq r=>?_];rw[Y];have C:=ae r (.lst ((xs.take i).map V.str));have M:bQ K (upd H3 q (.lst ((xs.take i).map V.str))) q ((xs.take i).map V.str):=bQ.of af;generalize upd H3 q (.lst ((xs.take i).map V.str))=H4 at C M|-;have l:=p.trans C;ext;refine cg (λc=>?_) (λc=>?_)
   .have t:x∈xs.take i:=by
     have G:oj (.str x) ((xs.take i).map V.str)=true:=c;rw[J]at G;exact of_decide_eq_true G
    rw[if_pos t]at g;have L:=(U x g).same l;ext;exact gc d.c L
   .have t:x∉xs.take i:=λz=>c (by show oj (.str x) ((xs.take i).map V.str)=true;rw[J];exact decide_eq_true z);rw[if_neg t]at g;exact#[#[_,_,rfl],l,g]
  |true =>
   have o:cH K H3 a (xs.map V.str):=B
   have nw:¬(HT.ir (xs.map V.str).length 0 none=0/\HT.ir (xs.map V.str).length (xs.map V.str).length (some (i:Int))=(xs.map V.str).length):=λz=>by
    have:=z.2;rw[HT.kg,S]at this;omega
   ext;refine .inr #[_,_,rfl,o,nw,λq r=>?_];rw[Y];have C:=ae r (.tup ((xs.take i).map V.str));have M:cH K (upd H3 q (.tup ((xs.take i).map V.str))) q ((xs.take i).map V.str):=cH.of af;generalize upd H3 q (.tup ((xs.take i).map V.str))=H4 at C M|-;have l:=p.trans C;ext;refine cg (λc=>?_) (λc=>?_)
   .have t:x∈xs.take i:=by
     have G:oj (.str x) ((xs.take i).map V.str)=true:=c;rw[J]at G;exact of_decide_eq_true G
    rw[if_pos t]at g;have L:=(U x g).same l;ext;exact gc d.c L
   .have t:x∉xs.take i:=λz=>c (by show oj (.str x) ((xs.take i).map V.str)=true;rw[J];exact decide_eq_true z);rw[if_neg t]at g;exact#[#[_,_,rfl],l,g]
 .rintro I u ⟨_,D,g⟩;rw[S,NH]at g;exact k g _ D
end G14
namespace L2
open PySem
theorem GP (p:Prop)(ht:∀C:Bool->Hp->Prop,(p->C true H)->(¬p->C false H)->e d H C)(a:p->ta D d H)(b:¬p->g D d H):Jw e ta g D d H:=ht _ a b
end L2
namespace L2
open PySem PySem.Spec PyProof.Rows
theorem mL {T:Expr}(I:Nat->fy->Prop)(turn:∀n s,I n s->Na (Nf prog w) A (Rn it) (λr p=>match r with
   |none=>R (.ok .next) p
   |some v=>Na (Nf prog w) A (OZ d it v) (λ_ o=>Na (Nf prog w) A (RV d g v) (λ_ z =>
     Na (Nf prog w) A (forIn H true λc r=>if r=true then do let ok ←isTrue c g (eval c g);pure (ForInStep.yield ok)else pure (ForInStep.yield r)) (λok l =>
      if ok=true then Na (Nf prog w) A (eval U g) (λx u=>Na (Nf prog w) A (eval T g) (λy t =>
       Na (Nf prog w) A (dictSet D x y) (λ_ q=>∃m,m<n/\I m q) E t) E u) E l
      else ∃m,m<n/\I m l) E z) E o) E p) E s)(hE:∀e s',E e s'->notedBy (Nf prog w) A g (λe s'=>R (.error e) s') e s')(n:Nat)(h:I n s):
  O5 (Nf prog w) A (.compLoop (.DictComp U T [#[d,B,H,0]] scope L) 0 it (.ref D) g) R s:=by
 refine S5 rfl I (λn s V=>?_) n h;show Na _ A ((Tt (.DictComp U T [#[d,B,H,0]] scope L) 0 it (.ref D) g).onRaise (λx=>do TU x g;theTreesLotGoes x)) _ _ s;refine Tu ?_;rw[compTurn_dict];refine cB (OG (cB (Nz (turn n s V) (λr p G=>?_) hE)))
 cases r with
 |none=>exact vv G
 |some v =>
  refine cB (Nz G (λ_ o J=>?_) hE);refine cB (Nz J (λ_ z S=>cB (Nz S (λok l C=>?_) hE)) hE)
  cases ok with
  |false=>exact vv #[rfl,C]
  |true =>
   exact cB (cB (Nz C (λx u Q=>cB (Oo (Nz Q (λy t O=>cB (OG (Oo (Nz O (λ_ q M=>vv #[rfl,M]) hE)))) hE))) hE))
theorem rB (I:Inv X pins σ H s)(y:∀b∈fp,oh X pins H b)(I':Inv (bL X scope S fp C s H) l σ' r s')(hC:s.heap.objs.size<=C)(hD:s.heap.objs.size<=D)(hDC:D≠C)(hDn:r D=none)(pl:s'.heap.DictOf (bx X.prog X.w) D G)(rv:KV kvs G)(hz:kvs.length<=mH)(hs:PL C s'.heap h''):
  Inv X pins σ (upd r D (.dK kvs)) {s' with heap:=h''}:=by
 have un:Un (frs X.stack) fp H r s.heap s'.heap:=I'.base;have t:r C=none:=I'.free;have at':∀b,b≠C->h''.get? b=s'.heap.get? b:=λb g=>hs.2 b g;have m:∀b o,s.heap.get? b=some o->b≠C:=λb o e=>Nt (Nd (L0 e) hC);have J:∀b o,s.heap.get? b=some o->b≠D:=λb o e=>Nt (Nd (L0 e) hD);have d:∀b u,H b=some u->b≠D:=λb u e=>Nt (Nd (I.hok.lt e) hD)
 have B:Un (frs X.stack) fp H (upd r D (.dK kvs)) s.heap h'':=by
  refine#[λb o e n M p=>?_,λb o e n M p=>?_,λb o e n p=>?_,λb o e p=>?_,λb O e=>?_,λb o u e=>?_,λb Q e=>?_]
  .rw[at' b (m b o e)];exact un.keep b o e n M p
  .rw[at' b (m b o e)];exact un.slot b o e n M p
  .rw[au (J b o e)];exact un.free b o e n p
  .rw[at' b (m b o e)];exact un.there b o e p
  .rw[au (d b _ e)];exact un.tups b O e
  .rw[au (d b _ e)];exact un.frzs b o u e
  .rw[au (d b _ e)];exact un.tbls b Q e
 have L:mQ X.prog X.w (upd r D (.dK kvs)) h'':=λb u e=>by
  by_cases g:b=D
  .subst g;rw[af]at e
   cases e
   exact#[hz,beq_eq_false_iff_ne.mpr (PK (Nt (Nd I.big hD))),G,rv,pl.at λo e=>by rw[at' b hDC];exact e]
  .rw[au g]at e;refine(I'.hok b u e).stay (λc v R q=>?_) (λc q=>?_) λc O q=>?_
   .rw[at' c ?_];exact q;rintro rfl;rcases R with z|z
    .rw[<-z,t]at e;cases e
    .rw[t]at z;cases z
   .rw[au (λz=>by rw[z,hDn]at q;cases q)];exact q
   .rw[au (λz=>by rw[z,hDn]at q;cases q)];exact q
 exact I.Gy (s':={s' with heap:=h''}) (ch:=fp) I'.os B L I'.bare λb g=>#[(y b g).2.2.2.1,(y b g).2.1,(y b g).2.2.2.2.1,(y b g).2.2.2.2.2]
def wB(J:It)(g:TG)(C:TT)(D B:TE)(Q:VK)(t:St)(M:Hp):Prop:=∃W:Nat->Nat->St->List (Key×V)->Hp->Prop,(∃m,W 0 m t [] M)/\∀i m l e H,W i m l e H ->
 (J.stop i H/\e.length<=mH/\∀p,H p=none->Q (.ref p) (upd H p (.dK e))) \/
 (J.go i H/\e.length<mH/\∃N:St->List (Key×V)->Hp->Prop,(∀d o r,N d o r->∃u,u < m/\W (i+1) u d o r)/\∀x z,J.yld i H x z->g x l z λd r=>C d r λok y =>
  if ok=true then D d y λG L=>B d L λv I=>∃q,G=kV q/\N d (putK e q v) I else N d e y)
def CT(own:Nat)(fr:List Nat)(e:TI)(g:TG)(m:TT)(o l:TE):TE:=λd H Q=>e d H λJ p=>wB J g m o l Q (iV own fr d) p
theorem CU {X:Cx}{kx vx O tg:Expr}{as:List Expr}{scope:OI}{az:Pos}{wi:TI}{g:TG}{tt:TT}{tk tv:TE}(own:List Str)(fr:List Nat)(hc:X.calm=true)(hkind:scope.kind=.function)(hcell:∀x∈scope.names,x.2≠.cell)(hnames:∀x∈scope.names,x.2=.local->scope.names.lookup x.1=some .local)(hfr:∀x∈scope.names,x.2=.free->X.env.scope.names.lookup x.1=some .cell\/X.env.scope.names.lookup x.1=some .free)(hin:∀j∈fr,scope.names.lookup (X.N.getD j NB)=some .free)(hi:PI X tg O wi)(hg:∀fp C s H,PG (Zc C s H) tg g)(ht:∀fp C s H,vR (Zc C s H) as tt)(hk:∀fp C s H,PE (Zc C s H) kx tk)(he:∀fp C s H,PE (Zc C s H) vx tv)(hs:∀x,NV O X.env x=pure x:=by intro _;rfl):PE X (.DictComp kx vx [#[tg,O,as,0]] scope az) (CT own.length fr wi g tt tk tv):=by
 intro ah s σ H Q I h;rw[arm_eval_DictComp];have ab:∀x∈scope.names,x.2=.free->∃c,X.env.cells.lookup x.1=some c:=λx hx e=>I.ok.has x.1 (hfr x hx e);refine QB (use:=none) rfl hs (kH ab) hkind hnames ?_;refine cR (hi ah s σ H _ I h) λv s1 h1=>cR h1 λbu l h2=>?_;have(it,fp,tn,J,G,e,I2,T,ay,f2,W,(m0,w0),ag):=h2;subst e;have a7:∀b∈fp,b<l.heap.objs.size:=λb B=>by have(o,e,_):=T.obj 0 _ ay b B;exact L0 e
 refine NL (Rz hcell (by intro y hy;simp at hy) (λD t m=>?_) hkind);dsimp only at t m|-;generalize hH2:l.heap.push {cls:=.type "dict",dict:=none,data:=.dict #[]}=G2 at t m|-;have hC:G2.objs.size=l.heap.objs.size+1:=by rw[<-hH2,Oc]
 have ae:l.heap.objs.size≠G2.objs.size:=by rw[hC];exact Nt (O1 _)
 have aj:l.heap.objs.size<=G2.objs.size:=by rw[hC];exact Ot _
 have a5:∀b o,l.heap.get? b=some o->D.get? b=some o:=λb o e=>m.extBut b o (by rw[hC];exact Nt (Q6 (L0 e))) (tF _ (hH2▸tF _ e));have a8:D.DictOf (bx X.prog X.w) l.heap.objs.size []:=(hH2▸Tc (knd:=bx X.prog X.w) l.heap:G2.DictOf (bx X.prog X.w) l.heap.objs.size []).at λo e=>m.extBut _ _ ae (tF _ e)
 have I3:Inv (Zc G2.objs.size l G) [] (iV own.length fr σ) G {l with heap:=D,toks:=l.toks+([]:List (Str×eF)).length} :=
  oX I2 hkind hcell hfr hin aj f2 a7 a5 t
 have Y:tn 0 D:=T.keep 0 _ _ ay λb _ o e=>a5 b o e;have ba:l.heap.objs.size∉fp:=λhm=>N7 _ (a7 _ hm);have a9:G l.heap.objs.size=none:=I2.hok.fresh (i5 _);have sub:∀y c,(cC X.env scope.names []).lookup y=some c->X.env.cells.lookup y=some c:=iU _ _ ab (by intro y c e;simp at e)
 have ax:∀y c,(cC X.env scope.names []).lookup y=some c->c≠l.heap.objs.size:=λy c e=>by
  have(_,o,ho,_):=I2.cell y c (sub y c e);exact Nt (L0 ho)
 have br:l.heap.objs.size∉frs X.stack:=λz=>by
  rcases M8.mp (I2.qC _ z)with e|e
  .exact absurd I2.lt (by rw[<-e];exact N7 _)
  .exact I2.B3 (i5 _) e
 -- the iterator's records,in the block's context
 have V:∀{U:Hp}{pl:List (Addr×Obj)},(∀b∈fp,U b=none)->(∀p∈pl,p.1=l.heap.objs.size)->∀b∈fp,oh (Zc G2.objs.size l G) pl U b:=λ{U pl} hn hp b B=>by
  refine#[hn b B,(I3.ok.exf b B).1,I3.ok.exfs b B,.inl B,(I3.ok.exf b B).2,λp bk z=>?_];have a6:p∈pl:=by simpa[bL]using bk
  exact ba (by rw[<-hp p a6,z];exact B)
 have a0:∀{R:St}{U:Hp}{s':fy}{o:Obj}{es:Array O7}{n:Nat},Inv (Zc G2.objs.size l G) [] R U s'->U l.heap.objs.size=none->s'.heap.get? l.heap.objs.size=some o->o.data=.dict es n ->
   Inv (Zc G2.objs.size l G) [(l.heap.objs.size,o)] R U s':=λ{R U s' o es n} J hn e ed=>J.fu λp hp=>by
  have e':p=(l.heap.objs.size,o):=by simpa using hp
  subst e';exact#[e,hn,ae,br,λv z=>by rw[ed]at z;cases z]
 have ai:O5 (Nf X.prog X.w) X.A (.compLoop (.DictComp kx vx [#[tg,O,as,0]] scope az) 0 (.ref it) (.ref l.heap.objs.size) (Uu scope (cC X.env scope.names []) G2.objs.size X.env))
   (compPost (Nf X.prog X.w) X.A X.xe none (EP X ah σ Q) (.ref l.heap.objs.size) G2.objs.size) {l with heap:=D,toks:=l.toks+([]:List (Str×eF)).length}:=by
  refine mL (E:=λ_ _=>False) (λn s'=>∃i R U S rs,Inv (Zc G2.objs.size l G) [] R U s'/\tn i s'.heap/\(∀b∈fp,U b=none)/\U l.heap.objs.size=none/\s'.heap.DictOf (bx X.prog X.w) l.heap.objs.size rs/\KV S rs/\W i n R S U)
   ?_ (λ_ _ z=>z.elim) m0 #[0,_,G,[],[],I3,Y,λb B=>(f2 b B).1,a9,a8,.nil,w0]
  rintro n s3 ⟨i,ac,H3,S,rs,J3,Y,bb,aw,bn,rv,w3⟩;have(Z,ap,aq,bg,ao,ad,an,al,am):=id bn;have bc:=a0 J3 aw bg ad
  have M:∀p∈[(l.heap.objs.size,Z)],p.1=l.heap.objs.size:=λp hp=>by
   have e':p=(l.heap.objs.size,Z):=by simpa using hp
   rw[e']
  rcases ag i n ac S H3 w3 with⟨stop,hz,q⟩|⟨go,hz,N,hN,step⟩
  .refine cR (T.done (Zc G2.objs.size l G) rfl rfl rfl hc i _ s3 ac H3 (λ_ _=>False) bc (V bb M) Y stop) λr s4 ⟨hr,J4⟩=>?_;subst hr;have(m4,bl,_):=id J4.loc;refine#[m4,bl,λh' bi=>?_];have e4:s4.heap.get? l.heap.objs.size=some Z:=(J4.pin (l.heap.objs.size,Z) (we _ (by simp))).1;exact#[.ref l.heap.objs.size,_,rB I2 f2 J4 aj (i5 _) ae aw #[Z,ap,aq,e4,ao,ad,an,al,am] rv hz bi,rfl,q _ aw]
  .refine cR (T.item (Zc G2.objs.size l G) rfl rfl rfl hc i _ s3 ac H3 (λ_ _=>False) bc (V bb M) Y go) λr s4 ⟨u,hr,h4⟩=>?_;subst hr;refine cR h4 λ_ s5 ⟨x,H5,J5,r5,y5,ak,bm⟩=>?_;have bp:=J5.pinned (V bm M) (T.obj _ _ ak);refine cR (hg fp _ l G _ s5 ac H5 x u _ bp r5 (step x H5 y5)) λ_ s6 ⟨L,H6,J6,q6⟩=>?_;refine cR (ht fp _ l G _ s6 L H6 _ J6 q6) λok s7 ⟨H7,J7,q7⟩=>?_
   -- what stood pinned through the ag
   have after:∀{s8:fy}{H8:Hp},Inv (Zc G2.objs.size l G) ([(l.heap.objs.size,Z)]++jU fp s5.heap) L H8 s8 ->
     tn (i+1) s8.heap/\(∀b∈fp,H8 b=none)/\H8 l.heap.objs.size=none/\s8.heap.get? l.heap.objs.size=some Z:=λ{s8 H8} J8=>by
    refine#[T.keep _ _ _ ak λb B o e=>(J8.pin (b,o) (we _ (we _ (fc B e)))).1,λb B=>?_,?_,?_]
    .have(o,e,d):=T.obj _ _ ak b B;exact(J8.pin (b,o) (we _ (we _ (fc B e)))).2.1
    .exact(J8.pin (l.heap.objs.size,Z) (we _ (NG _ (by simp)))).2.1
    .exact(J8.pin (l.heap.objs.size,Z) (we _ (NG _ (by simp)))).1
   cases ok with
   |false =>
    have(m',hm,w7):=hN _ _ _ q7;have(a1,a2,a3,a4):=after J7;exact#[m',hm,i+1,L,H7,S,rs,J7.fu (λp hp=>absurd hp (by simp)),a1,a2,a3,#[Z,ap,aq,a4,ao,ad,an,al,am],rv,w7]
   |true =>
    refine cR (hk fp _ l G _ s7 L H7 _ J7 q7) λx be ⟨bt,bq,bo,bf,bh⟩=>?_;refine cR (he fp _ l G _ be L bq _ bo bh) λy s8 ⟨v8,H8,J8,r8,n8⟩=>?_;have(ar,rfl,n8):=n8;have(m',hm,w8):=hN _ _ _ n8;have(a1,a2,a3,a4):=after J8;have J9:Inv (Zc G2.objs.size l G) [] L H8 s8:=J8.fu (λp hp=>absurd hp (by simp));have bj:rs.length<=mH:=by have:=KV.length rv;omega
    refine wpAny_dictSet_pairs (qX bf) (#[Z,ap,aq,a4,ao,ad,an,al,am]:s8.heap.DictOf (bx X.prog X.w) l.heap.objs.size rs) (λbs av aa=>?_) bj
    exact#[m',hm,i+1,L,H8,putK S ar v8,stored rs ar y,J9.turned (t':=s8.toks+1) (it:=l.heap.objs.size) (λb o B e=>by rw[aa.2 b B];exact e) a3 ae (.inr (i5 _)) ax (λp hp=>absurd (show p∈([]:List (Addr×Obj))from hp) (by simp)),
     T.keep _ _ _ a1 λb B o e=>(aa.2 b (λz=>ba (z▸B))).trans e,a2,a3,av,rv.put ar r8,w8]
 exact S8 ai (T.self X.A 0 _ _ _ Y ai)
theorem qP {I v d p:Expr}{m:List Expr}{scope:OI}{q:Pos}{u:TI}{g:TG}{B:TT}{D y:TE}(G:OI)(l own:List Str)(fr:List Nat)(O:X.calm=true)(t:X.env.scope=G)(Q:X.N=l)(ok:ni scope G l fr=true)(hi:PI X p d u)(hg:∀fp C s H,PG (bL X scope (own++fr.map λj=>l.getD j NB) fp C s H) p g)(ht:∀fp C s H,vR (bL X scope (own++fr.map λj=>l.getD j NB) fp C s H) m B)(hk:∀fp C s H,PE (bL X scope (own++fr.map λj=>l.getD j NB) fp C s H) I D)(he:∀fp C s H,PE (bL X scope (own++fr.map λj=>l.getD j NB) fp C s H) v y)(hs:∀x,NV d X.env x=pure x:=by intro _;rfl):PE X (.DictComp I v [#[p,d,m,0]] scope q) (CT own.length fr u g B D y):=by
 subst t Q;unfold ni at ok;simp only[NJ,NO,bne_iff_ne,beq_iff_eq,Qc]at ok;have((L,r),J):=ok;refine CU own fr O L (λx o=>(r x o).1.1) (λx o e=>?_) (λx o e=>?_) (λj M=>J j M) hi hg ht hk he hs
 .rcases(r x o).1.2 with z|z
  .exact absurd e z
  .exact z
 .rcases(r x o).2 with(z|z)|z
  .exact absurd e z
  .exact .inl z
  .exact .inr z
theorem xZ (n:Nat)(o:Nat->St->List (Key×V)->Hp->Prop)(O:o 0 σ0 [] H0)(u:∀i d kvs H,i<=n->o i d kvs H->kvs.length<=i)(hn:n<=mH)(C:∀i d kvs H,i<n->o i d kvs H->J.go i H)(B:∀d kvs H,o n d kvs H->J.stop n H)(hs:∀i d kvs H x z,i<n->o i d kvs H->J.yld i H x z->g x d z λl G=>tt l G λok D=>if ok=true then tk l D λL S=>tv l S λv R=>∃t,L=kV t/\o (i+1) l (putK kvs t v) R else o (i+1) l kvs D)(hd:∀d kvs H,o n d kvs H->∀p,H p=none->Q (.ref p) (upd H p (.dK kvs))):wB J g tt tk tv Q σ0 H0:=by
 refine#[λi m d kvs H=>m=n-i/\i<=n/\o i d kvs H,#[n,by simp,Nn _,O],?_];rintro i m d kvs H ⟨rfl,M,p⟩;have T:=u i d kvs H M p
 by_cases r:i<n
 .exact .inr #[C i d kvs H r p,(),o (i+1),λl I G q=>#[n - (i+1),(),rfl,r,q],λx z y=>hs i d kvs H x z r p y]
 .have e:i=n:=()
  subst e;exact .inl #[B d kvs H p,(),hd d kvs H p]
theorem Bm {K:bN}(l:Nat->St->List (Key×V)->Hp->Prop)(B:l 0 σ0 [] H0)(q:∀i d kvs H,i<=xs.length->l i d kvs H->kvs.length<=i)(hn:xs.length<=mH)(t:∀i d kvs H,i<=xs.length->l i d kvs H->cH K H a xs)(hs:∀i x d kvs H,xs[i]?=some x->l i d kvs H->g x d H λe G=>tt e G λok u=>if ok=true then tk e u λz D=>tv e D λv C=>∃o,z=kV o/\l (i+1) e (putK kvs o v) C else l (i+1) e kvs u)(hd:∀d kvs H,l xs.length d kvs H->∀p,H p=none->Q (.ref p) (upd H p (.dK kvs))):wB (zH K a) g tt tk tv Q σ0 H0:=by
 refine xZ xs.length l B q hn (λi d m H r p=>#[xs,xs[i],t i d m H (Ol r) p,by simp[r]]) (λd m H p=>#[xs,t _ d m H (i5 _) p,i5 _]) (λi d m H x I r p y=>?_) hd;have(rfl,y):=y;exact hs i x d m _ (y xs (t i d m _ (Ol r) p)) p
end L2
namespace L2
open PySem
theorem Rp.t1 (h:Rp K H (.t [x]) v):∃a u,v=.ref a/\cH K H a [u]/\Rp K H x u:=by
 have(a,e,rfl,d,r):=h.aS;have(u,q,rfl,g,r2):=r.inv;obtain rfl:=r2.jk;exact#[a,u,rfl,d,g]
theorem Rp.t2 (h:Rp K H (.t [x,y]) v):∃a e d,v=.ref a/\cH K H a [e,d]/\Rp K H x e/\Rp K H y d:=by
 have(a,o,rfl,l,r):=h.aS;have(u,q,rfl,g,r2):=r.inv;have(d,p,rfl,m,r3):=r2.inv;obtain rfl:=r3.jk;exact#[a,u,d,rfl,l,g,m]
theorem Rp.t3 (h:Rp K H (.t [x,y,z]) v):∃a l e d,v=.ref a/\cH K H a [l,e,d]/\Rp K H x l/\Rp K H y e/\Rp K H z d:=by
 have(a,B,rfl,m,r):=h.aS;have(u,q,rfl,g,r2):=r.inv;have(e,D,rfl,p,r3):=r2.inv;have(d,C,rfl,o,r4):=r3.inv;obtain rfl:=r4.jk;exact#[a,u,e,d,rfl,m,g,p,o]
theorem Rp.t4 (h:Rp K H (.t [x,y,z,m]) v):∃a o l e d,v=.ref a/\cH K H a [o,l,e,d]/\Rp K H x o/\Rp K H y l/\Rp K H z e/\Rp K H m d:=by
 have(a,I,rfl,p,r):=h.aS;have(u,q,rfl,g,r2):=r.inv;have(l,M,rfl,G,r3):=r2.inv;have(e,L,rfl,D,r4):=r3.inv;have(d,J,rfl,C,B):=r4.inv;obtain rfl:=B.jk;exact#[a,u,l,e,d,rfl,p,g,G,D,C]
theorem Rp.t5 (h:Rp K H (.t [x,y,z,p,o]) v):∃a B m l e d,v=.ref a/\cH K H a [B,m,l,e,d]/\Rp K H x B/\Rp K H y m/\Rp K H z l/\Rp K H p e/\Rp K H o d:=by
 have(a,O,rfl,C,r):=h.aS;have(u,q,rfl,g,r2):=r.inv;have(m,U,rfl,M,r3):=r2.inv;have(l,S,rfl,L,r4):=r3.inv;have(e,R,rfl,J,G):=r4.inv;have(d,Q,rfl,I,D):=G.inv;obtain rfl:=D.jk;exact#[a,u,m,l,e,d,rfl,C,g,M,L,J,I]
end L2
namespace L2
open PySem PySem.Spec PyProof.Rows
theorem zX (K:bN)(g:X.K=K)(e:PE X l tl):PI X d l (Hu K tl):=by subst g;exact cz e
end L2
namespace G14
open PySem L2
inductive Kk|num|kd (x:Str)|op (n:Int)|row (k:Kk)
noncomputable def jJ:Kk->T
 |.num=>.s "num"
 |.kd x=>.t [.s "kind",.s x]
 |.op n=>.t [.s "open",.i n]
 |.row k=>.t [.s "row",jJ k]
noncomputable def Kk.core:Kk->Kk
 |.row k=>k.core
 |k=>k
noncomputable def Kk.dep:Kk->Nat
 |.row k=>k.dep+1
 |_=>0
def Kk.ok(ns:List Str):Kk->Prop
 |.num=>True
 |.kd x=>x∈ns
 |.op _=>False
 |.row k=>k.ok ns
theorem Kk.rT :∀(k j:Kk),k.core≠.row j
 |.num,_=>nofun
 |.kd x,_=>nofun
 |.op n,_=>nofun
 |.row k,j=>rT k j
noncomputable def wC(p:Str×Kk):T:=.t [.s p.1,jJ p.2]
noncomputable def jm(d:Str×List (Str×Kk)×Tm):T:=.t [.s d.1,.t (d.2.1.map wC),enc d.2.2]
noncomputable def cw:Kk->Str
 |.num=>"n"
 |.kd _=>"kind"
 |.op _=>"open"
 |.row _=>"row"
theorem core0 (r:Rp K H (jJ c) v)(h:Q (.str (cw c)) H):GF K v (.int 0) H Q:=by
 cases c with
 |num =>
  obtain rfl:=(show Rp K H (.s "num") v from r).aJ;exact .inr (.inr #[_,0,110,rfl,rfl,(by decide),(by decide),h])
 |kd y =>
  have(e,m,l,rfl,d,g,o):=(show Rp K H (.t [.s "kind",.s y]) v from r).t2;obtain rfl:=g.aJ;exact .inr (.inl #[e,_,0,.str "kind",rfl,rfl,d,rfl,h])
 |op n =>
  have(e,m,l,rfl,d,g,o):=(show Rp K H (.t [.s "open",.i n]) v from r).t2;obtain rfl:=g.aJ;exact .inr (.inl #[e,_,0,.str "open",rfl,rfl,d,rfl,h])
 |row k =>
  have(e,m,l,rfl,d,g,o):=(show Rp K H (.t [.s "row",jJ k]) v from r).t2;obtain rfl:=g.aJ;exact .inr (.inl #[e,_,0,.str "row",rfl,rfl,d,rfl,h])
noncomputable def iC(ah:List Str)(k:Kk):Option Str:=match k.core with
 |.op _=>some "?"
 |.kd x=>if x∈ah then none else some x
 |_=>none
noncomputable def fR{d:Type}(f:d->Option Str):List d->Option Str
 | []=>none
 |x::r=>match f x with
  |some n=>some n
  |none=>fR f r
theorem tL {d:Type}{f:d->Option Str}{xs:List d}{i:Nat}{x:d}(h:xs[i]?=some x):fR f (xs.drop i)=match f x with
  |some n=>some n
  |none=>fR f (xs.drop (i+1)):=by
 have e:=(bH.mp h).1;have g:xs.drop i=x::xs.drop (i+1):=by rw[NF e,(bH.mp h).2]
 rw[g];rfl
def nC(K:bN):Sp:=λe H Q _=>∃(v:V) (k:Kk),e=[v]/\Rp K H (jJ k) v/\∀d,Rp K H (jJ k.core) d->Q d H
def GQ(K:bN)(m:Addr):Sp:=λg H Q E=>∃(a l:Addr) (e:List V) (ks:List Kk) (d:List Str),g=[.ref a,.ref l]/\cH K H a e/\bO K H (ks.map jJ) e/\H l=some (.lst (d.map V.str))/\ks.length<=100/\d.length<=100 /\
 (∀n,fR (iC d) ks=some n->Told E H m "name" (.str n))/\(fR (iC d) ks=none->Q .eN H)
theorem lU :Nm ["kind"] (ak jw):=by decide
theorem wD :Lm ["kind"] (ak jw):=by decide
theorem qh :aZ ["kind"] ["kind"] (ak jw):=#[rfl,rfl,rfl,by decide,rfl,by decide,by decide]
theorem wF (F:jr K "innermost" "innermost" jw f I):cA P w K mg base gy 1 f I ["kind"] (nC K):=by
 refine F.ok qh (λL H Q E h=>?_) (λcdv A outer s H L Q E hr h=>?_)
 .have(_,_,rfl,_):=h;rfl
 have(v,C,rfl,M,k):=h;refine#[_,(Z5 (@sE _ _ _ _ _ _ NC (Zi bV (Z8 mV (va lU 0)) aH (bG _)) (Ze (Z4 qh.nd wD 0 (Z8 mV (va lU 0))))) (Ze (cI (va lU 0)))),?_]
 right
 right
 refine#[λm G p=>p=H/\∃(v:V) (o:Kk),G=[some v]/\Rp K H (jJ o) v/\o.dep=m/\o.core=C.core,#[C.dep,rfl,v,C,rfl,M,rfl,rfl],?_];rintro m G p ⟨rfl,v,o,rfl,l,R,z⟩
 have g:∀(s:Str),s≠"row"->¬(decide (V.str s=V.str "row")=true):=λs O h=>by
  have e:=of_decide_eq_true h;injection e with e;exact O e
 cases o with
 |num =>
  obtain rfl:=(show Rp K p (.s "num") v from l).aJ;refine#[_,rfl,.inr (.inr #[_,0,110,rfl,rfl,(by decide),(by decide),rfl,_,rfl,cg (λc=>absurd c (g _ (by decide))) (λ_=>?_)])];ext;exact k _ (by rw[<-z];exact l)
 |kd x =>
  have(q,o,u,rfl,d,y,D):=(show Rp K p (.t [.s "kind",.s x]) v from l).t2;obtain rfl:=y.aJ;refine#[_,rfl,.inr (.inl #[q,_,0,.str "kind",rfl,rfl,d,rfl,rfl,_,rfl,cg (λc=>absurd c (g _ (by decide))) (λ_=>?_)])];ext;exact k _ (by rw[<-z];exact l)
 |op n =>
  have(q,o,u,rfl,d,y,D):=(show Rp K p (.t [.s "open",.i n]) v from l).t2;obtain rfl:=y.aJ;refine#[_,rfl,.inr (.inl #[q,_,0,.str "open",rfl,rfl,d,rfl,rfl,_,rfl,cg (λc=>absurd c (g _ (by decide))) (λ_=>?_)])];ext;exact k _ (by rw[<-z];exact l)
 |row u =>
  have(q,U,B,rfl,d,y,D):=(show Rp K p (.t [.s "row",jJ u]) v from l).t2;obtain rfl:=y.aJ;refine#[_,rfl,.inr (.inl #[q,_,0,.str "row",rfl,rfl,d,rfl,rfl,_,rfl,cg (λ_=>?_) (λc=>absurd (by decide) c)])];refine#[λr J=>J=p/\r=[some B],λr J ⟨T,S⟩=>#[u.dep,by rw[<-R];exact O1 _,T,B,u,S,D,rfl,z],?_];exact#[_,rfl,.inr (.inl #[q,_,1,B,rfl,rfl,d,rfl,rfl,rfl])]
theorem gY :Nm VY (ak jY):=by decide
theorem rC :Lm VY (ak jY):=by decide
theorem nF :aZ VY ["inner","ahead"] (ak jY):=#[rfl,rfl,rfl,by decide,rfl,by decide,by decide]
theorem Iq (F:jr K "look_tag" "look_tag" jY f Y)(IM:eL P w K mg base "innermost" 1 ["kind"] (nC K) gI ifd)(d:BY P w K mg base "NoName" "name" cN fN dN):cA P w K mg base (xS P w) 3 f Y ["inner","ahead"] (GQ K cN):=by
 refine F.E8 nF (λvs H Q E h=>?_) (λcdv A outer s H vs Q E hr h=>?_)
 .have(_,_,_,_,_,rfl,_):=h;rfl
 have(a,l,S,ks,g,rfl,sq,r,hl,hk,ha,W,k):=h;refine#[_,(Ze (Zh (i9 rfl rfl rfl) (cz (va gY 0)) (ga nF.nd rC 2) (Z5 (Z4 nF.nd rC 3 (Z0 IM (Zd (va gY 2)))) (Z5 (Zb (Zi bV (Z8 mV (va gY 3)) aH (bG _)) (Ze (@gX _ _ _ _ _ rfl (ja d.k d.ok (hr.mono ()) (by left) d.m d.bd .nil kT (Zd aH))))) (Ze (Zb (PW.pt (@gz _ _ _ _ _ _ _ (Zi bV (Z8 mV (va gY 3)) aH (bG _)) (@fz _ _ _ _ (Zi lJ (Z8 aP (va gY 3)) (va gY 1) (by with_unfolding_all rfl))))) (Ze (@gX _ _ _ _ _ rfl (@ja _ _ _ _ _ _ _ _ _ _ _ _ _ _ _ _ _ d.k d.ok (hr.mono ()) (by left) d.m d.bd .nil kT (Z1 (Z8 aP (va gY 3)) aA) (by decide) (by rfl) (by rfl)))))))))),?_]
 right
 try dsimp only[qe,qf]
 have L:=r.length;rw[bM]at L;ext;refine eY (K:=K) (xs:=S) (λi G B=>(∃y z,G=[some (.ref a),some (.ref l),y,z])/\B=H/\fR (iC g) ks=fR (iC g) (ks.drop i)) #[#[_,_,rfl],rfl,rfl] ?_ ?_ ?_
 .rintro i G B hi ⟨_,rfl,_⟩;exact sq
 .rintro i v G B hv ⟨⟨_,_,rfl⟩,rfl,o⟩;have(t,U,rv):=r.get' hv;rw[EF]at U;have(q,hq,rfl):=xn.mp U;rw[tL hq]at o;have ne:=q.rT;refine j4 ?_;intro N1 N2 c1 c2;have fl:=iM g;have aa:bQ K B l (g.map V.str):=bQ.of hl;ext;intro v' I;ext;refine core0 (K:=K) I ?_;ext;refine cg (λc=>?_) (λc=>?_)
  .have p:cw q.core="open":=by injection(of_decide_eq_true c)
   have u:iC g q=some "?":=by
    unfold iC
    cases e:q.core with
    |op n=>rfl
    |num=>rw[e]at p;exact absurd p (by decide)
    |kd y=>rw[e]at p;exact absurd p (by show("kind":Str)≠"open";decide)
    |row j=>rw[e]at p;exact absurd p (by show("row":Str)≠"open";decide)
   rw[u]at o;have J:=W _ o;ext;exact gc d.c J
  refine c2 _ _ ?_;clear c2;have C:∀n,q.core≠.op n:=λn e=>c (by rw[e];exact decide_eq_true rfl);ext;refine core0 (K:=K) I ?_;ext;refine cg (λR=>?_) (λR=>?_)
  .have p:cw q.core="kind":=by injection(of_decide_eq_true R)
   obtain⟨y,Z⟩:∃y,q.core=.kd y:=by
    cases e:q.core with
    |kd y=>exact#[y,rfl]
    |num=>rw[e]at p;exact absurd p (by decide)
    |op n=>exact absurd e (C n)
    |row j=>rw[e]at p;exact absurd p (by show("row":Str)≠"kind";decide)
   rw[Z]at I;have(ka,k1,k2,rfl,ab,g1,g2):=(show Rp K B (.t [.s "kind",.s y]) v' from I).t2;obtain rfl:=g1.aJ;obtain rfl:=g2.aJ;have a1:eK [V.str "kind",.str y] 1=some (.str y):=aG (j:=1) rfl;have T:=j0 (x:=y) (xs:=g);have u:iC g q=if y∈g then none else some y:=by unfold iC;rw[Z]
   ext;refine cg (λO=>?_) (λO=>?_)
   .have M:y∉g:=λz=>by
     have D:(!oj (.str y) (g.map V.str))=true:=O;rw[T,decide_eq_true z]at D
     cases D
    rw[u,if_neg M]at o;have J:=W _ o;ext;exact gc d.c J
   .have M:y∈g:=by
     by_cases z:y∈g
     .exact z
     .refine absurd ?_ O;show(!oj (.str y) (g.map V.str))=true;rw[T,decide_eq_false z];rfl
    rw[u,if_pos M]at o;exact#[#[_,_,rfl],rfl,o]
  .have u:iC g q=none:=by
    unfold iC
    cases e:q.core with
    |op n=>exact absurd e (C n)
    |num=>rfl
    |kd y=>exact absurd (by rw[e];exact decide_eq_true rfl) R
    |row j=>rfl
   rw[u]at o;exact#[#[_,_,rfl],rfl,o]
 .rintro G B ⟨_,rfl,o⟩;rw[show S.length=ks.length by omega,NH]at o;exact k o
inductive Er|tw|nn|wr
abbrev Flt:=Er×Str
abbrev Kl:=List (Str×List (Str×List Kk))
noncomputable def kK(t:Str×List Kk):T:=.t [.s t.1,.t (t.2.map jJ)]
noncomputable def gZ(k:Str×List (Str×List Kk)):T:=.t [.s k.1,.t (k.2.map kK)]
noncomputable def oz(d e cW:Addr):Er->Addr
 |.tw=>d
 |.nn=>e
 |.wr=>cW
def TF(d e cW:Addr)(E:XK)(H:Hp)(f:Flt):Prop:=Told E H (oz d e cW f.1) "name" (.str f.2)
theorem TF.same (t:TF d e cW E H f)(s:aT H g):TF d e cW E g f:=Told.same t s
noncomputable def gi(ah ta:List Str):List (Str×List Kk)->Option Flt
 | []=>none
 |t::r=>match cJ [] (ta++[t.1])with
  |some x=>some (.tw,x)
  |none=>match fR (iC ah) t.2 with
   |some n=>some (.nn,n)
   |none=>gi ah (ta++[t.1]) r
noncomputable def cQ(ah ta:List Str):Kl->Option Flt
 | []=>none
 |k::r=>match cJ [] (ah++[k.1])with
  |some x=>some (.tw,x)
  |none=>match gi ah ta k.2 with
   |some f=>some f
   |none=>cQ (ah++[k.1]) (ta++k.2.map (·.1)) r
def wY(kl:Kl):Prop:=kl.length<=10/\∀k∈kl,k.2.length<=10/\∀t∈k.2,t.2.length<=10
def zY(K:bN)(l m cW:Addr):Sp:=λg H Q E=>∃(v:V) (d:Kl),g=[v]/\Rp K H (.t (d.map gZ)) v/\wY d/\(∀f,cQ [] [] d=some f->TF l m cW E H f)/\(cQ [] [] d=none->∀e,aT H e->Q .eN e)
theorem u9 {ah ta:List Str}{d:List (Str×List Kk)}{i:Nat}{t:Str×List Kk}(h:d[i]?=some t):gi ah ta (d.drop i)=match cJ [] (ta++[t.1])with
  |some x=>some (.tw,x)
  |none=>match fR (iC ah) t.2 with
   |some n=>some (.nn,n)
   |none=>gi ah (ta++[t.1]) (d.drop (i+1)):=by
 have e:=(bH.mp h).1;have g:d.drop i=t::d.drop (i+1):=by rw[NF e,(bH.mp h).2]
 rw[g];rfl
theorem tM {ah ta:List Str}{kl:Kl}{i:Nat}{k:Str×List (Str×List Kk)}(h:kl[i]?=some k):cQ ah ta (kl.drop i)=match cJ [] (ah++[k.1])with
  |some x=>some (.tw,x)
  |none=>match gi ah ta k.2 with
   |some f=>some f
   |none=>cQ (ah++[k.1]) (ta++k.2.map (·.1)) (kl.drop (i+1)):=by
 have d:=(bH.mp h).1;have e:kl.drop i=k::kl.drop (i+1):=by rw[NF d,(bH.mp h).2]
 rw[e];rfl
noncomputable def je(kl:Kl):List Str:=kl.flatMap λk=>k.2.map (·.1)
theorem qi (h:wY kl):(je kl).length<=100:=by
 have:∀l:Kl,(∀k∈l,k.2.length<=10)->(je l).length<=l.length*10:=by
  intro l
  induction l with
  |nil=>intro _;exact Nn _
  |cons k r ih =>
   intro d;have o:=d k (.head _);have m:=ih λx e=>d x (.tail _ e);unfold je at m|-;rw[OT,i4,bM,Np,S4];omega
 have:=this kl λk g=>(h.2 k g).1;have:=h.1;omega
structure LB(H:Hp) (l1 l2:Addr) (ah ta:List Str) (H2:Hp):Prop where
 s:aT H H2
 h1:H2 l1=some (.lst (ah.map V.str))
 h2:H2 l2=some (.lst (ta.map V.str))
theorem cE :Nm VF (ak iW):=by decide
theorem gr :Lm VF (ak iW):=by decide
theorem fg :aZ VF ["kinds"] (ak iW):=#[rfl,rfl,rfl,by decide,rfl,by decide,by decide]
theorem CV (F:jr K "look_kinds" "look_kinds" iW f fd)(D:ou P w K mg base "look_once" 3 Wd (qO K cT) gO ofd)(C:ou P w K mg base "look_tag" 3 ["inner","ahead"] (GQ K cN) gG gfd):cA P w K mg base (xS P w) 4 f fd ["kinds"] (zY K cT cN cW):=by
 refine F.E8 fg (λvs H Q E h=>?_) (λcdv A outer s H vs Q E hr h=>?_)
 .have(_,_,rfl,_):=h;rfl
 have(v,l,rfl,r,hB,hE,k):=h;refine#[_,(Z5 (sa fg.nd gr 1 (dF aA)) (Z5 (sa fg.nd gr 2 (dF aA)) (Ze (Zh (i9 rfl rfl rfl) (cz (va cE 0)) (Z9 (2) (Zf (ga fg.nd gr 3) (Zt (ga fg.nd gr 4)))) (Z5 (Zo (@eJ _ _ _ _ _ _ _ _ _ _ _ _ _ _ _ _ D.ok (hr.mono ()) (by left) D.at' D.kp D.bd .nil jz (Z1 (Zn iT (va cE 1) (Zu (Zd (va cE 3)))) aA) (by decide) (by rfl) (by rfl))) (Z5 (Zh (i9 rfl rfl rfl) (cz (va cE 4)) (Z9 (2) (Zf (ga fg.nd gr 5) (Zt (ga fg.nd gr 6)))) (Z5 (Zo (Z6 (va cE 2) (Zd (va cE 5)))) (Z5 (Zo (@eJ _ _ _ _ _ _ _ _ _ _ _ _ _ _ _ _ D.ok (hr.mono ()) (by left) D.at' D.kp D.bd .nil jz (Zd (va cE 2)) (by decide) (by rfl) (by rfl))) (Ze (Zo (@eJ _ _ _ _ _ _ _ _ _ _ _ _ _ _ _ _ C.ok (hr.mono ()) (by left) C.at' C.kp C.bd .nil jz (Z1 (va cE 6) (Zd (va cE 1))) (by decide) (by rfl) (by rfl))))))) (Ze (Zo (Z6 (va cE 1) (Zd (va cE 3))))))))))),?_]
 right
 try dsimp only[qe,qf]
 have(a,us,rfl,sq,rs):=r.aS;have al:=rs.length;rw[bM]at al;have bm:=qi hB;have aw:=hB.1;ext;intro l1 ac;have s1:=ae ac (.lst []);have h1:upd H l1 (.lst []) l1=some (.lst []):=af;generalize upd H l1 (.lst [])=H1 at s1 h1|-;ext;intro l2 J;have s2:=ae J (.lst []);have W:l1≠l2:=ay h1 J;have ad:=s2 _ _ h1;have h2:upd H1 l2 (.lst []) l2=some (.lst []):=af;have ab:H l2=none:=s1.free J;generalize upd H1 l2 (.lst [])=H2 at s2 h2 ad|-;have bh:=sq.same (s1.trans s2);ext;refine eY (K:=K) (xs:=us) (λi u M=>(∃y4 y5 y6 y7,u=[some (.ref a),some (.ref l1),some (.ref l2),y4,y5,y6,y7])/\LB H l1 l2 ((l.take i).map (·.1)) (je (l.take i)) M/\cQ [] [] l=cQ ((l.take i).map (·.1)) (je (l.take i)) (l.drop i)) #[#[_,_,_,_,rfl],#[s1.trans s2,ad,h2],rfl] ?_ ?_ ?_
 .rintro i u M hi ⟨_,o,_⟩;exact sq.same o.s
 .rintro i xv u M hxv ⟨⟨_,_,_,_,rfl⟩,o,p⟩;have(t,ht,rx):=rs.get' hxv;rw[EF]at ht;have(kd,z,rfl):=xn.mp ht;have az:=(bH.mp z).1;have L:l.take (i+1)=l.take i++[kd]:=by rw[mu az,(bH.mp z).2]
  have(bv,a0):=hB.2 kd (M9 z);rw[tM z]at p;have(ka,k1,k2,rfl,an,g1,g2):=(show Rp K H (.t [.s kd.1,.t (kd.2.map kK)]) xv from rx).t2;obtain rfl:=g1.aJ;have bc:=an.same o.s;have(aj,G,rfl,O,R):=g2.aS;have am:=R.length;rw[bM]at am;generalize hah:(l.take i).map (·.1)=ah at o p;generalize hta:je (l.take i)=ta at o p;have br:ah.length<=10:=by rw[<-hah,bM,L1];omega
  have bn:ta.length+kd.2.length<=100:=by
   have e:je (l.take (i+1))=ta++kd.2.map (·.1):=by rw[L,<-hta];unfold je;rw[NQ];simp
   have hT:wY (l.take (i+1)):=#[Nu (Tz _ _) aw,λx hx=>hB.2 x (N9 hx)];have:=qi hT;rw[e,i4,bM]at this;exact this
  have a6:=o.h1;ext;intro p4 ar;have s4:=ae ar (.lst [.str kd.1]);have h4:upd M p4 (.lst [.str kd.1]) p4=some (.lst [.str kd.1]):=af;have a5:=s4 _ _ a6;generalize upd M p4 (.lst [.str kd.1])=H4 at s4 h4 a5|-;have lc:(ah.map V.str).length+([.str kd.1]:List V).length<=mH:=small (by rw[bM];show _+1<=_;omega);ext;intro p5 aq;have ea:ah.map V.str++[.str kd.1]=(ah++[kd.1]).map V.str:=by simp
  rw[ea];have s5:=ae aq (.lst ((ah++[kd.1]).map V.str));have h5:nU K false (upd H4 p5 (.lst ((ah++[kd.1]).map V.str))) p5 ((ah++[kd.1]).map V.str):=bQ.of af;generalize upd H4 p5 (.lst ((ah++[kd.1]).map V.str))=H5 at s5 h5|-;have T:=s4.trans s5;have ak:=o.s.trans T;have l5:(ah++[kd.1]).length<=500:=by rw[i4];show _+1<=_;omega
  have oE:∀x,cJ [] (ah++[kd.1])=some x->Told E H5 cT "name" (.str x):=λx hx=>by
   rw[hx]at p;exact(hE _ p).same ak
  ext;intro av H6 s6;rw[av]at p
  have g:cQ [] [] l=match gi ah ta kd.2 with
    |some f=>some f
    |none=>cQ (ah++[kd.1]) (ta++kd.2.map (·.1)) (l.drop (i+1)):=p
  have I:=T.trans s6;have i6:LB H l1 l2 ah ta H6:=#[o.s.trans I,I _ _ o.h1,I _ _ o.h2];have bb:=O.same i6.s;ext;refine eY (K:=K) (xs:=G) (λj u q=>(∃y6 y7,u=[some (.ref a),some (.ref l1),some (.ref l2),some (.str kd.1),some (.ref aj),y6,y7])/\LB H l1 l2 ah (ta++(kd.2.take j).map (·.1)) q/\gi ah ta kd.2=gi ah (ta++(kd.2.take j).map (·.1)) (kd.2.drop j)) #[#[_,_,rfl],by rw[PZ,OS,Ny];exact i6,by rw[PZ,OS,Ny];rfl] ?_ ?_ ?_
  .rintro j u q hj ⟨_,m,_⟩;exact O.same m.s
  .rintro j yv u q hyv ⟨⟨_,_,rfl⟩,m,B⟩;have(t,ht,ry):=R.get' hyv;rw[EF]at ht;have(d,y,rfl):=xn.mp ht;have ax:=(bH.mp y).1;have a9:kd.2.take (j+1)=kd.2.take j++[d]:=by rw[mu ax,(bH.mp y).2]
   have bu:=a0 d (M9 y);rw[u9 y]at B;rw[B]at g;have(ga,w1,w2,rfl,a7,q1,q2):=(show Rp K H (.t [.s d.1,.t (d.2.map jJ)]) yv from ry).t2;obtain rfl:=q1.aJ;have(ia,bt,rfl,ao,ap):=q2.aS;have bg:=a7.same m.s;generalize htj:ta++(kd.2.take j).map (·.1)=tj at m B g;have bl:tj.length<=99:=by rw[<-htj,i4,bM,L1];omega
   have a4:=m.h2;have ll:(tj.map V.str).length<mH:=bq (by rw[bM];omega);have et:tj.map V.str++[.str d.1]=(tj++[d.1]).map V.str:=by simp
   have s8:=m.s.oq ab (.lst (tj.map V.str++[.str d.1]));have h8:upd q l2 (.lst (tj.map V.str++[.str d.1])) l2=some (.lst ((tj++[d.1]).map V.str)):=by rw[af,et]
   have a3:upd q l2 (.lst (tj.map V.str++[.str d.1])) l1=some (.lst (ah.map V.str)):=by rw[au W];exact m.h1
   have k8:Kt q (upd q l2 (.lst (tj.map V.str++[.str d.1]))):=Kt.lst a4 _;have Y:=(ao.same m.s).kt k8;have Z:=(ap.same m.s).kt k8;have bw:nU K false (upd q l2 (.lst (tj.map V.str++[.str d.1]))) l2 ((tj++[d.1]).map V.str):=bQ.of h8;have l8:(tj++[d.1]).length<=500:=by rw[i4];show _+1<=_;omega
   have bk:∀x,cJ [] (tj++[d.1])=some x->Told E (upd q l2 (.lst (tj.map V.str++[.str d.1]))) cT "name" (.str x):=λx hx=>by
    rw[hx]at g;exact(hE _ g).same s8
   ext;intro aa H9 S;rw[aa]at g B;have U:=s8.trans S;have a2:=S _ _ a3;have a1:=S _ _ h8;have be:=Y.same S;have bf:=Z.same S;have bp:d.2.length<=100:=()
   have bs:ah.length<=100:=()
   have bi:∀n,fR (iC ah) d.2=some n->Told E H9 cN "name" (.str n):=λn hn=>by
    rw[hn]at g;exact(hE _ g).same U
   ext;intro as;rw[as]at B;have a8:ta++(kd.2.take (j+1)).map (·.1)=tj++[d.1]:=by rw[a9,lj,<-Oa,htj];rfl
   rw[a8];exact#[#[_,_,rfl],#[U,a2,a1],B]
  .rintro u q ⟨⟨_,_,rfl⟩,m,B⟩;rw[show G.length=kd.2.length by omega,Nl]at m;rw[show G.length=kd.2.length by omega,Nl,NH]at B;have ba:gi ah ta kd.2=none:=B;rw[ba]at g;have bx:=m.h1;have bo:(ah.map V.str).length<mH:=bq (by rw[bM];omega);have ai:(l.take (i+1)).map (·.1)=ah++[kd.1]:=by rw[L,lj,hah];rfl
   have ag:je (l.take (i+1))=ta++kd.2.map (·.1):=by rw[L,<-hta];unfold je;rw[NQ];simp
   ext
   .rw[ai,ag];exact#[m.s.oq ac _,by rw[af];simp,by rw[au (PK W)];exact m.h2]
   .rw[ai,ag];exact g
 .rintro u M ⟨_,o,p⟩;rw[show us.length=l.length by omega,NH]at p;exact k p _ o.s
end G14
namespace L2
open PySem PySem.Spec PyProof.Rows
theorem CW (o m t1 l t2 g:Expr)(scope:OI)(e:Pos)(it:eF)(D:Addr)(d:Env):Tt (.DictComp o m [#[t1,l,[],0],#[t2,g,[],0]] scope e) 0 it (.ref D) d=(do
  SS l.pos
  match←Rn it with
  |none=>pure (.done .next)
  |some v =>
   OZ t1 it v
   RV t1 d v
   let x ←eval g d
   SS g.pos
   let x ←NV g d x
   let _ ←runOwn (.compStart (.DictComp o m [#[t1,l,[],0],#[t2,g,[],0]] scope e) 1 (←Sh [x] (Tp x)) (.ref D) d) d
   again (.compLoop (.DictComp o m [#[t1,l,[],0],#[t2,g,[],0]] scope e) 0 it (.ref D) d)):=by
 rfl
theorem Ff (l e t1 q t2 o:Expr)(scope:OI)(g:Pos)(it:eF)(D:Addr)(d:Env):Tt (.DictComp l e [#[t1,q,[],0],#[t2,o,[],0]] scope g) 1 it (.ref D) d=(do
  SS o.pos
  match←Rn it with
  |none=>pure (.done .next)
  |some v =>
   OZ t2 it v
   RV t2 d v
   (do
    let m ←eval l d
    let p ←Sh [m] (eval e d)
    SS {l.pos with endLine:=e.pos.endLine,endCol:=e.pos.endCol}
    Sh [m,p] (dictSet D m p))
   again (.compLoop (.DictComp l e [#[t1,q,[],0],#[t2,o,[],0]] scope g) 1 it (.ref D) d)):=by
 rfl
abbrev E_:eF->fy->Prop:=λ_ _=>False
theorem Fg (I:Nat->fy->Prop)(turn:∀n s,I n s->Na (Nf prog w) A (Rn it) (λr l=>match r with
   |none=>R (.ok .next) l
   |some v=>Na (Nf prog w) A (OZ t2 it v) (λ_ C=>Na (Nf prog w) A (RV t2 d v) (λ_ B =>
     Na (Nf prog w) A (eval o d) (λx u=>Na (Nf prog w) A (eval g d) (λy t =>
      Na (Nf prog w) A (dictSet D x y) (λ_ p=>∃m,m<n/\I m p) E_ t) E_ u) E_ B) E_ C) E_ l) E_ s)(n:Nat)(h:I n s):O5 (Nf prog w) A (.compLoop (.DictComp o g [#[t1,H,[],0],#[t2,G,[],0]] scope e) 1 it (.ref D) d) R s:=by
 refine S5 rfl I (λn s q=>?_) n h;show Na _ A ((Tt (.DictComp o g [#[t1,H,[],0],#[t2,G,[],0]] scope e) 1 it (.ref D) d).onRaise _) _ _ s;refine Tu ?_;rw[Ff];refine cB (OG (cB (Nz (turn n s q) (λr l q1=>?_) λ_ _ z=>z.elim)))
 cases r with
 |none=>exact vv q1
 |some v =>
  refine cB (Nz q1 (λ_ C Q=>cB (Nz Q (λ_ B O=>?_) λ_ _ z=>z.elim)) λ_ _ z=>z.elim);exact cB (cB (Nz O (λx u M=>cB (Oo (Nz M (λy t L=>cB (OG (Oo (Nz L (λ_ p J=>vv #[rfl,J]) λ_ _ z=>z.elim)))) λ_ _ z=>z.elim))) λ_ _ z=>z.elim))
theorem CY (t:O5 (Nf prog w) A (.compLoop (.DictComp p o [#[t1,r,[],0],#[t2,m,[],0]] scope d) 1 it g e) R s)(h:Na (Nf prog w) A (Tp it) (λl s'=>O5 (Nf prog w) A (.compLoop (.DictComp p o [#[t1,r,[],0],#[t2,m,[],0]] scope d) 1 l g e) R s') E_ s):
  O5 (Nf prog w) A (.compStart (.DictComp p o [#[t1,r,[],0],#[t2,m,[],0]] scope d) 1 it g e) R s:=by
 refine codeAny_of_tree ?_;show Na _ A ((compStart (.DictComp p o [#[t1,r,[],0],#[t2,m,[],0]] scope d) 1 it g e).onRaise _) _ _ s;refine wpAny_notedAt ?_;unfold compStart;show Na _ A (ask>>=_) _ _ s;refine cB (wpAny_askSetting (wpAny_ite ?_))
 split
 .first
   |exact vv #[rfl,t]
   |exact cB (vv (vv #[rfl,t]))
 .refine cB (RX ?_);show Na _ _ (SS m.pos>>=_) _ _ s;exact cB (OG (cB (Nz h (λl s' q=>vv #[rfl,q]) λ_ _ z=>z.elim)))
theorem CZ (I:Nat->fy->Prop)(hs:∀x,NV o d x=pure x)(turn:∀n s,I n s->Na (Nf prog w) A (Rn it) (λr t=>match r with
   |none=>R (.ok .next) t
   |some v=>Na (Nf prog w) A (OZ t1 it v) (λ_ J=>Na (Nf prog w) A (RV t1 d v) (λ_ H =>
     Na (Nf prog w) A (eval o d) (λx G=>Na (Nf prog w) A (Tp x) (λl C =>
      O5 (Nf prog w) A (.compStart (.DictComp u p [#[t1,y,[],0],#[t2,o,[],0]] scope g) 1 l (.ref D) d) (λr B=>match r with|.ok _=>∃m,m<n/\I m B|.error _=>False) C) E_ G) E_ H) E_ J) E_ t) E_ s)(n:Nat)(h:I n s):O5 (Nf prog w) A (.compLoop (.DictComp u p [#[t1,y,[],0],#[t2,o,[],0]] scope g) 0 it (.ref D) d) R s:=by
 refine S5 rfl I (λn s q=>?_) n h;show Na _ A ((Tt (.DictComp u p [#[t1,y,[],0],#[t2,o,[],0]] scope g) 0 it (.ref D) d).onRaise _) _ _ s;refine Tu ?_;rw[CW];refine cB (OG (cB (Nz (turn n s q) (λr t q1=>?_) λ_ _ z=>z.elim)))
 cases r with
 |none=>exact vv q1
 |some v =>
  refine cB (Nz q1 (λ_ J S=>cB (Nz S (λ_ H Q=>?_) λ_ _ z=>z.elim)) λ_ _ z=>z.elim);refine cB (Nz Q (λx G O=>cB (OG ?_)) λ_ _ z=>z.elim);rw[hs x];refine cB (vv (cB (Oo (Nz O (λl C M=>?_) λ_ _ z=>z.elim))));refine cB (wpAny_runOwn (Qo M λr B L=>?_))
  cases r with
  |ok f=>exact vv #[rfl,L]
  |error e=>exact L.elim
def zZ(J:It)(g:TG)(M:TI)(g2:TG)(Y U:TE)(Q:VK)(L:St)(H0:Hp):Prop:=∃W:Nat->Nat->St->List (Key×V)->Hp->Prop,(∃m,W 0 m L [] H0)/\∀i m r o H,W i m r o H ->
 (J.stop i H/\o.length<=mH/\∀p,H p=none->Q (.ref p) (upd H p (.dK o))) \/
 (J.go i H/\∃N:St->List (Key×V)->Hp->Prop,(∀l u I,N l u I->∃z,z < m/\W (i+1) z l u I)/\∀x T,J.yld i H x T->g x r T λl I=>M l I λR H3 =>
  ∃O:Nat->Nat->St->List (Key×V)->Hp->Prop,(∃G,O 0 G l o H3)/\∀j G q d D,O j G q d D ->
   (R.stop j D/\N q d D) \/
   (R.go j D/\d.length<mH/\∃S:St->List (Key×V)->Hp->Prop,(∀e t C,S e t C->∃z,z < G/\O (j+1) z e t C)/\∀y C,R.yld j D y C->g2 y q C λe H6 =>
    Y e H6 λZ H7=>U e H7 λv H8=>∃B,Z=kV B/\S e (putK d B v) H8))
def Aa(own:Nat)(fr:List Nat)(l:TI)(g:TG)(d:TI)(p:TG)(o m:TE):TE:=λe H Q=>l e H λJ q=>zZ J g d p o m Q (iV own fr e) q
theorem Bo {X:Cx}{kx vx S tg M ac:Expr}{scope:OI}{a9:Pos}{wi bi:TI}{g g2:TG}{tk tv:TE}(own:List Str)(fr:List Nat)(hc:X.calm=true)(hkind:scope.kind=.function)(hcell:∀x∈scope.names,x.2≠.cell)(hnames:∀x∈scope.names,x.2=.local->scope.names.lookup x.1=some .local)(hfr:∀x∈scope.names,x.2=.free->X.env.scope.names.lookup x.1=some .cell\/X.env.scope.names.lookup x.1=some .free)(hin:∀j∈fr,scope.names.lookup (X.N.getD j NB)=some .free)(hi:PI X tg S wi)(hg:∀fp C s H,PG (Zc C s H) tg g)(hi2:∀fp C s H,PI (Zc C s H) ac M bi)(hg2:∀fp C s H,PG (Zc C s H) ac g2)(hk:∀fp C s H,PE (Zc C s H) kx tk)(he:∀fp C s H,PE (Zc C s H) vx tv)(hs:∀x,NV S X.env x=pure x:=by intro _;rfl)(hs2:∀cs x,NV M cs x=pure x:=by intro _ _;rfl):PE X (.DictComp kx vx [#[tg,S,[],0],#[ac,M,[],0]] scope a9) (Aa own.length fr wi g bi g2 tk tv):=by
 intro aq s σ H Q I h;rw[arm_eval_DictComp];have al:∀x∈scope.names,x.2=.free->∃c,X.env.cells.lookup x.1=some c:=λx hx e=>I.ok.has x.1 (hfr x hx e);refine QB (use:=none) rfl hs (kH al) hkind hnames ?_;refine cR (hi aq s σ H _ I h) λv s1 h1=>cR h1 λc2 l h2=>?_;have(it,fp,tn,J,O,e,I2,T,bn,f2,W,(m0,w0),bj):=h2;subst e;have bz:∀b∈fp,b<l.heap.objs.size:=λb t=>by have(o,e,_):=T.obj 0 _ bn b t;exact L0 e
 refine NL (Rz hcell (by intro y hy;simp at hy) (λU R G=>?_) hkind);dsimp only at R G|-;generalize hH2:l.heap.push {cls:=.type "dict",dict:=none,data:=.dict #[]}=G2 at R G|-;have hC:G2.objs.size=l.heap.objs.size+1:=by rw[<-hH2,Oc]
 have ap:l.heap.objs.size≠G2.objs.size:=by rw[hC];exact Nt (O1 _)
 have a4:l.heap.objs.size<=G2.objs.size:=by rw[hC];exact Ot _
 have br:∀b o,l.heap.get? b=some o->U.get? b=some o:=λb o e=>G.extBut b o (by rw[hC];exact Nt (Q6 (L0 e))) (tF _ (hH2▸tF _ e));have b0:U.DictOf (bx X.prog X.w) l.heap.objs.size []:=(hH2▸Tc (knd:=bx X.prog X.w) l.heap:G2.DictOf (bx X.prog X.w) l.heap.objs.size []).at λo e=>G.extBut _ _ ap (tF _ e)
 have I3:Inv (Zc G2.objs.size l O) [] (iV own.length fr σ) O {l with heap:=U,toks:=l.toks+([]:List (Str×eF)).length} :=
  oX I2 hkind hcell hfr hin a4 f2 bz br R
 have ae:tn 0 U:=T.keep 0 _ _ bn λb _ o e=>br b o e;have b2:l.heap.objs.size∉fp:=λhm=>N7 _ (bz _ hm);have b1:O l.heap.objs.size=none:=I2.hok.fresh (i5 _);have sub:∀y c,(cC X.env scope.names []).lookup y=some c->X.env.cells.lookup y=some c:=iU _ _ al (by intro y c e;simp at e)
 have bg:∀y c,(cC X.env scope.names []).lookup y=some c->c≠l.heap.objs.size:=λy c e=>by
  have(_,o,ho,_):=I2.cell y c (sub y c e);exact Nt (L0 ho)
 have cy:l.heap.objs.size∉frs X.stack:=λz=>by
  rcases M8.mp (I2.qC _ z)with e|e
  .exact absurd I2.lt (by rw[<-e];exact N7 _)
  .exact I2.B3 (i5 _) e
 -- the iterator's records,in the block's context
 have ad:∀{B:Hp}{pl:List (Addr×Obj)},(∀b∈fp,B b=none)->(∀p∈pl,p.1=l.heap.objs.size)->∀b∈fp,oh (Zc G2.objs.size l O) pl B b:=λ{B pl} hn hp b t=>by
  refine#[hn b t,(I3.ok.exf b t).1,I3.ok.exfs b t,.inl t,(I3.ok.exf b t).2,λp cm z=>?_];have bw:p∈pl:=by simpa[bL]using cm
  exact b2 (by rw[<-hp p bw,z];exact t)
 have ar:∀{D:St}{B:Hp}{Z:fy}{o:Obj}{es:Array O7}{n:Nat}{pl:List (Addr×Obj)},Inv (Zc G2.objs.size l O) pl D B Z->B l.heap.objs.size=none->Z.heap.get? l.heap.objs.size=some o->o.data=.dict es n ->
   Inv (Zc G2.objs.size l O) ([(l.heap.objs.size,o)]++pl) D B Z:=λ{D B Z o es n pl} J hn e ed=>J.fu λp hp=>by
  rcases M7.mp hp with hp|hp
  rotate_left
  .exact J.pin p (we _ hp)
  have e':p=(l.heap.objs.size,o):=by simpa using hp
  subst e';exact#[e,hn,ap,cy,λv z=>by rw[ed]at z;cases z]
 have a0:O5 (Nf X.prog X.w) X.A (.compLoop (.DictComp kx vx [#[tg,S,[],0],#[ac,M,[],0]] scope a9) 0 (.ref it) (.ref l.heap.objs.size) (Uu scope (cC X.env scope.names []) G2.objs.size X.env))
   (compPost (Nf X.prog X.w) X.A X.xe none (EP X aq σ Q) (.ref l.heap.objs.size) G2.objs.size) {l with heap:=U,toks:=l.toks+([]:List (Str×eF)).length}:=by
  refine CZ (λn Z=>∃i D B L rs,Inv (Zc G2.objs.size l O) [] D B Z/\tn i Z.heap/\(∀b∈fp,B b=none)/\B l.heap.objs.size=none/\Z.heap.DictOf (bx X.prog X.w) l.heap.objs.size rs/\KV L rs/\W i n D L B)
   (λx=>hs2 _ x) ?_ m0 #[0,_,O,[],[],I3,ae,λb t=>(f2 b t).1,b1,b0,.nil,w0]
  rintro n s3 ⟨i,ab,H3,L,rs,J3,ae,b6,bf,ct,rv,w3⟩;have(od,bu,bv,cg,bt,ba,bs,bp,bq):=id ct;have b9:Inv (Zc G2.objs.size l O) [(l.heap.objs.size,od)] ab H3 s3:=ar (pl:=[]) J3 bf cg ba
  have Y:∀p∈[(l.heap.objs.size,od)],p.1=l.heap.objs.size:=λp hp=>by
   have e':p=(l.heap.objs.size,od):=by simpa using hp
   rw[e']
  rcases bj i n ab L H3 w3 with⟨stop,hz,q⟩|⟨go,N,hN,step⟩
  .refine cR (T.done (Zc G2.objs.size l O) rfl rfl rfl hc i _ s3 ab H3 (λ_ _=>False) b9 (ad b6 Y) ae stop) λr s4 ⟨hr,J4⟩=>?_;subst hr;have(m4,co,_):=id J4.loc;refine#[m4,co,λh' ck=>?_];have e4:s4.heap.get? l.heap.objs.size=some od:=(J4.pin (l.heap.objs.size,od) (we _ (by simp))).1;exact#[.ref l.heap.objs.size,_,rB I2 f2 J4 a4 (i5 _) ap bf #[od,bu,bv,e4,bt,ba,bs,bp,bq] rv hz ck,rfl,q _ bf]
  .refine cR (T.item (Zc G2.objs.size l O) rfl rfl rfl hc i _ s3 ab H3 (λ_ _=>False) b9 (ad b6 Y) ae go) λr s4 ⟨u,hr,h4⟩=>?_;subst hr;refine cR h4 λ_ s5 ⟨x,H5,J5,r5,y5,a7,cr⟩=>?_;have cw:=J5.pinned (ad cr Y) (T.obj _ _ a7);refine cR (hg fp _ l O _ s5 ab H5 x u _ cw r5 (step x H5 y5)) λ_ s6 ⟨ca,H6,J6,q6⟩=>?_;refine cR (hi2 fp _ l O _ s6 ca H6 _ J6 q6) λv7 s7 h7=>cR h7 λcz s8 h8=>?_;have(cj,am,bl,J2,H8,e8,I8,T2,bm,f8,W2,(ci,cc),a5):=h8;subst e8
   have b3:H8 l.heap.objs.size=none/\s8.heap.get? l.heap.objs.size=some od:=by
    have z:=I8.pin (l.heap.objs.size,od) (we _ (NG _ (by simp)));exact#[z.2.1,z.1]
   have a3:l.heap.objs.size∉am:=λhm=>(f8 _ hm).2.2.2.2.2 (l.heap.objs.size,od) (we _ (NG _ (by simp))) rfl
   have bc:∀{s9:fy}{bh:St}{H9:Hp}{pl:List (Addr×Obj)},Inv (Zc G2.objs.size l O) (pl++jU fp s5.heap) bh H9 s9->tn (i+1) s9.heap/\(∀b∈fp,H9 b=none):=λ{s9 bh H9 pl} J9=>by
    refine#[T.keep _ _ _ a7 λb t o e=>(J9.pin (b,o) (we _ (we _ (fc t e)))).1,λb t=>?_];have(o,e,d):=T.obj _ _ a7 b t;exact(J9.pin (b,o) (we _ (we _ (fc t e)))).2.1
   have V:∀{B:Hp}{o':Obj},(∀b∈am,B b=none)->∀b∈am,oh (Zc G2.objs.size l O) ([(l.heap.objs.size,o')]++jU fp s5.heap) B b:=λ{B o'} hn b t=>by
    have(z0,z1,z2,z3,z4,z5):=f8 b t;refine#[hn b t,z1,z2,z3,z4,λp hp=>?_];rcases M7.mp hp with hp|hp
    .exact z5 p (NG _ hp)
    .rcases M7.mp hp with hp|hp
     .have e':p=(l.heap.objs.size,o'):=by simpa using hp
      rw[e'];exact λz=>a3 ((show l.heap.objs.size=b from z)▸t)
     .exact z5 p (we _ (we _ hp))
   have ai:O5 (Nf X.prog X.w) X.A (.compLoop (.DictComp kx vx [#[tg,S,[],0],#[ac,M,[],0]] scope a9) 1 (.ref cj) (.ref l.heap.objs.size) (Uu scope (cC X.env scope.names []) G2.objs.size X.env))
     (λr s6=>match r with|.ok _=>∃m,m<n/\∃i D B L rs,Inv (Zc G2.objs.size l O) [] D B s6/\tn i s6.heap/\(∀b∈fp,B b=none)/\B l.heap.objs.size=none/\s6.heap.DictOf (bx X.prog X.w) l.heap.objs.size rs/\KV L rs/\W i m D L B|.error _=>False) s8:=by
    refine Fg (λn Z=>∃j D B L rs,Inv (Zc G2.objs.size l O) (jU fp s5.heap) D B Z/\bl j Z.heap/\(∀b∈am,B b=none)/\B l.heap.objs.size=none/\Z.heap.DictOf (bx X.prog X.w) l.heap.objs.size rs/\KV L rs/\W2 j n D L B)
     ?_ ci #[0,_,H8,L,rs,I8.fu (λp hp=>I8.pin p (we _ (we _ hp))),bm,λb t=>(f8 b t).1,b3.1,#[od,bu,bv,b3.2,bt,ba,bs,bp,bq],rv,cc]
    rintro n2 t3 ⟨j,aa,G3,aj,ao,K3,bk,b4,b5,cq,a8,v3⟩;have(ah,ay,az,bo,ax,ag,aw,as,av):=id cq;have b8:=ar K3 b5 bo ag;rcases a5 j n2 aa aj G3 v3 with⟨stop2,q2⟩|⟨go2,hz2,N2,hN2,step2⟩
    .refine cR (T2.done (Zc G2.objs.size l O) rfl rfl rfl hc j _ t3 aa G3 (λ_ _=>False) b8 (V b4) bk stop2) λr t4 ⟨hr,K4⟩=>?_;subst hr;have(m',hm,w7):=hN _ _ _ q2;have(a1,a2):=bc K4;have e4:t4.heap.get? l.heap.objs.size=some ah:=(K4.pin (l.heap.objs.size,ah) (we _ (NG _ (by simp)))).1;exact#[m',hm,i+1,aa,G3,aj,ao,K4.fu (λp hp=>absurd hp (by simp)),a1,a2,b5,#[ah,ay,az,e4,ax,ag,aw,as,av],a8,w7]
    .refine cR (T2.item (Zc G2.objs.size l O) rfl rfl rfl hc j _ t3 aa G3 (λ_ _=>False) b8 (V b4) bk go2) λr t4 ⟨u2,hr,g4⟩=>?_;subst hr;refine cR g4 λ_ t5 ⟨y,G5,K5,ce,cb,a6,cp⟩=>?_;have cu:=K5.pinned (V cp) (T2.obj _ _ a6);refine cR (hg2 fp _ l O _ t5 aa G5 y u2 _ cu ce (step2 y G5 cb)) λ_ t6 ⟨an,G6,K6,p6⟩=>?_;refine cR (hk fp _ l O _ t6 an G6 _ K6 p6) λx cd ⟨c1,cx,cv,cf,ch⟩=>?_;refine cR (he fp _ l O _ cd an cx _ cv ch) λy s8 ⟨v8,H8,J8,r8,n8⟩=>?_;have(bb,rfl,n8):=n8;have(m',hm,w8):=hN2 _ _ _ n8;have pD:=J8.pin (l.heap.objs.size,ah) (we _ (NG _ (NG _ (by simp))))
     have pF:∀b∈am,H8 b=none:=λb t=>by
      have(o,e,d):=T2.obj _ _ a6 b t;exact(J8.pin (b,o) (we _ (we _ (fc t e)))).2.1
     have pT:bl (j+1) s8.heap:=T2.keep _ _ _ a6 λb t o e=>(J8.pin (b,o) (we _ (we _ (fc t e)))).1;have J9:Inv (Zc G2.objs.size l O) (jU fp s5.heap) an H8 s8:=J8.fu (λp hp=>J8.pin p (we _ (NG _ (we _ hp))));have cl:ao.length<=mH:=by have:=KV.length a8;omega
     refine wpAny_dictSet_pairs (qX cf) (#[ah,ay,az,pD.1,ax,ag,aw,as,av]:s8.heap.DictOf (bx X.prog X.w) l.heap.objs.size ao) (λc0 be ak=>?_) cl
     exact#[m',hm,j+1,an,H8,putK aj bb v8,stored ao bb y,J9.turned (t':=s8.toks+1) (it:=l.heap.objs.size) (λb o t e=>by rw[ak.2 b t];exact e) pD.2.1 ap (.inr (i5 _)) bg (λp hp z=>b2 (by
       have cn:p∈jU fp s5.heap:=by simpa[bL]using hp
       have:=(uJ cn).1;rw[z]at this;exact this)),
      T2.keep _ _ _ pT λb t o e=>(ak.2 b (λz=>a3 (z▸t))).trans e,pF,pD.2.1,be,a8.put bb r8,w8]
   exact CY ai (T2.self X.A 0 _ _ _ bm ai)
 exact S8 a0 (T.self X.A 0 _ _ _ ae a0)
theorem zh (J:OI)(o own:List Str)(fr:List Nat)(S:X.calm=true)(v:X.env.scope=J)(T:X.N=o)(ok:ni scope J o fr=true)(hi:PI X r l B)(hg:∀fp C s H,PG (bL X scope (own++fr.map λj=>o.getD j NB) fp C s H) r g)(hi2:∀fp C s H,PI (bL X scope (own++fr.map λj=>o.getD j NB) fp C s H) m d p)(hg2:∀fp C s H,PG (bL X scope (own++fr.map λj=>o.getD j NB) fp C s H) m M)(hk:∀fp C s H,PE (bL X scope (own++fr.map λj=>o.getD j NB) fp C s H) L I)(he:∀fp C s H,PE (bL X scope (own++fr.map λj=>o.getD j NB) fp C s H) D G)(hs:∀x,NV l X.env x=pure x:=by intro _;rfl)(hs2:∀y x,NV d y x=pure x:=by intro _ _;rfl):PE X (.DictComp L D [#[r,l,[],0],#[m,d,[],0]] scope t) (Aa own.length fr B g p M I G):=by
 subst v T;unfold ni at ok;simp only[NJ,NO,bne_iff_ne,beq_iff_eq,Qc]at ok;have((Q,u),O):=ok;refine Bo own fr S Q (λx q=>(u x q).1.1) (λx q e=>?_) (λx q e=>?_) (λj R=>O j R) hi hg hi2 hg2 hk he hs hs2
 .rcases(u x q).1.2 with z|z
  .exact absurd e z
  .exact z
 .rcases(u x q).2 with(z|z)|z
  .exact absurd e z
  .exact .inl z
  .exact .inr z
def LC(d:Obj)(e:Array O7)(ep:Nat)(h:Heap)(l:Addr):Prop:=h.get? l=some d/\d.ExactDict/\d.data=.dict e ep/\(l == OR)=false
def LD(d:Array O7)(ep:Nat)(h:Heap)(i l:Addr)(k:Nat):Prop:=h.IsKeyIter i l k d.size ep
theorem LC.at (x:LC ob es ep h l)(k:∀o,h.get? l=some o->h'.get? l=some o):LC ob es ep h' l:=#[k _ x.1,x.2]
theorem LD.at (x:LD es ep h i l n)(k:∀o,h.get? i=some o->h'.get? i=some o):LD es ep h' i l n:=by
 have(o,e,r):=x;exact#[o,k o e,r]
theorem Inv.nH (I:Inv X d r H s)(l:H p=some (.dK kvs))(B:s.heap.get? p=some v):Inv X d r (upd H p (.nH v (.dK kvs))) s:=by
 have g:∀{b u},H b=some u->u≠.dK kvs->b≠p:=λe n z=>by subst z;rw[l]at e;exact n (Ng e).symm
 refine I.step (g':=s.gens) (d':=s.drawn) (t':=s.toks) (h':=s.heap) (ch:=[]) (λ_ z=>nomatch z) (λb o _ _ _ e _=>e) (λb o _ _ _ e _=>#[o.slots,e]) (λb o _ _ n=>?_) (λb o _ e=>#[o,e]) (λb t e=>?_) (λb o u e=>?_) (λb C e=>#[#[],?_]) (λm h=>h) (λb u e=>?_) I.bare
 .rw[au (λz=>by subst z;rw[l]at n;cases n)];exact n
 .rw[au (g e nofun)];exact e
 .rw[au (g e nofun)];exact e
 .rw[au (g e nofun)];simpa using e
 .by_cases y:b=p
  .subst y;rw[af]at e
   cases e
   refine#[B,(I.hok b _ l).stay (λ_ _ _ q=>q) (λc q=>?_) λc t q=>?_]
   .rw[au (g q nofun)];exact q
   .rw[au (g q nofun)];exact q
  .rw[au y]at e;refine(I.hok b u e).stay (λ_ _ _ q=>q) (λc q=>?_) λc t q=>?_
   .rw[au (g q nofun)];exact q
   .rw[au (g q nofun)];exact q
theorem Ab (h:(bx P w).is k v=true):RelV (kV k) v:=by
 rcases er (show su k v=true from h)with⟨i,t,rfl,rfl⟩|⟨x,t,rfl,rfl⟩
 .exact#[t,rfl]
 .exact#[t,rfl]
theorem Bp :entryFor table "dict_itemiterator.__iter__"=some QW.«dict_keyiterator.__iter__» :=
 entryFor_alias (id':="dict_keyiterator.__iter__") (by kernel_rfl) rfl (by decide) (by kernel_rfl)
noncomputable def Itm (d : Obj) (kvs : List (Key × V)) (l : Addr) : It :=
  #[λi H => H l = some (.nH d (.dK kvs)) ∧ i < kvs.length,
   λi H v g => ∃ p e, H p = none ∧ v = .ref p ∧ g = upd H p (.tup [kV e.1, e.2]) ∧ kvs[i]? = some e,
   λi H => H l = some (.nH d (.dK kvs)) ∧ kvs.length ≤ i]
theorem KV.get (r:KV kvs vs):∀{i:Nat}{e:Key×V},kvs[i]?=some e->∃u,vs[i]?=some (e.1,u)/\RelV e.2 u:=by
 induction r with
 |nil=>intro i e h;simp at h
 |@cons a b l1 l2 q t ih =>
  intro i e h
  cases i with
  |zero =>
   simp only[QO,Q5]at h;subst h;refine#[b.2,?_,q.2];simp only[QO,Q5];exact Prod.ext q.1.symm rfl
  |succ n=>exact ih (by simpa using h)
theorem zj {K:bN}{T:Pos}(he:p.ExactDict)(hd:p.data=.dict Q ep)(G:KeysOf (bx P w) Q)(C:Pairs (bx P w) Q.toList vs)(D:(vs.map (·.1)).Nodup)(t:KV kvs vs)(it l:Addr)(ad:l≠it):
  Turn P w K (.Tuple R x1 T) (Itm p kvs l) [it] it (λi h=>∃ok m,IsItemIter h it l i vs.length ep ok m) where
 mem:=by simp
 obj:=λi h g c e=>by
  have(ok,m,d):=g;obtain rfl:c=it:=by simpa using e
  exact#[_,d,λv z=>by cases z]
 keep:=λi h h' g k=>by
  have(ok,m,d):=g;exact#[ok,m,k it (by simp) _ d]
 item:=by
  intro X hP Y hK e i y s σ H E I S g hg;subst hP Y hK;have(Z,hi):=hg;have(ok,m,d):=g;have r:s.heap.DictAt (bx X.prog X.w) l vs ep:=#[p,Q,(show eM X.prog X.w H s.heap l (.nH p (.dK kvs))from I.hok l _ Z).1,he,hd,G,C,D];have hx:kvs[i]?=some kvs[i]:=by simp[hi]
  have(u,hu,ru):=t.get hx;refine wpAny_pyNext_items_item d r hu λU h' hk ho M ac aa=>?_;refine#[.ref s.heap.objs.size,rfl,wpAny_letOwnedTupleGo_items (s:={s with heap:=h'}) ho λO ab B=>?_]
  have ne:it≠s.heap.objs.size:=λz=>by
   have:=L0 d;rw[z]at this;exact N7 _ this
  have kk:∀c o,c∉[it]->s.heap.get? c=some o->O.get? c=some o:=λc o e q=>by
   have J:c≠it:=by simpa using e
   exact(B.2 c J).trans (aa c o J q)
  have L:O.get? s.heap.objs.size=some {cls:=.type "tuple",data:=.seq #[U,u,]}:=(B.2 _ ne.symm).trans M
  refine#[.ref s.heap.objs.size,upd H s.heap.objs.size (.tup [kV kvs[i].1,kvs[i].2]),I.wg (t':=s.toks) S kk (i5 _) #[(by show 2<=mH;decide),_,.cons (Ab hk) (.cons ru .nil),#[_,L,rfl,_,rfl],_,L,rfl],rfl,
   #[_,kvs[i],I.hok.fresh (i5 _),rfl,rfl,hx],#[_,_,ab],λc e=>?_]
  obtain rfl:c=it:=by simpa using e
  rw[au ne];exact(S c e).1
 done:=by
  intro X hP Y hK e i y s σ H E I S g hg;subst hP Y hK;have(Z,hi):=hg;have(ok,m,d):=g;have r:s.heap.DictAt (bx X.prog X.w) l vs ep:=#[p,Q,(show eM X.prog X.w H s.heap l (.nH p (.dK kvs))from I.hok l _ Z).1,he,hd,G,C,D]
  have hn:vs[i]?=none:=by
   have:=t.length;simp;omega
  refine wpAny_pyNext_items_end (I.ok.hd e) d r hn λh' hk=>#[rfl,I.wc (t':=s.toks) S λc o e q=>hk c o (by simpa using e) q]
 self:=λ_ _ _ _ _ g h=>by
  have(ok,m,d):=g
  rename_i s0 _ _
  have M:s0.TypeIs (.ref it) "dict_itemiterator":=#[_,d,rfl];refine wpAny_pyIter_slot M RC (O3 RC M Bp ?_ (F.args_dict_itemiterator_iter_1 _));show Na _ _ (ret (.ref it)) _ _ s0;exact vv #[_,rfl,"dict_itemiterator",_,M,F.slot_dict_itemiterator_next.lookup,h]
def Ir(m:TE):TI:=λl H R=>m l H λv g=>∃p d,v=.ref p/\g p=some (.dK d)/\∀e,R (Itm e d p) (upd g p (.nH e (.dK d)))
theorem yb (C:PE X o Z)(hbase:Qz o "items" X.env (eval o X.env)=eval o X.env:=by rfl)(hline:(t.endLine == m.line)=true:=by rfl):PI X (.Tuple M x1 S) (.Call (.Attribute o "items" t) [] [] m) (Ir Z):=by
 intro r s Y H R I h;refine SJ hbase hline (cR (C r s Y H _ I h) λv g ⟨x,H1,I1,r1,p,kvs,e,hx,q1⟩=>?_);subst e;obtain rfl:v=Value.ref p:=r1;have(ab,U,D,Q,G,es,ep,C,l,B,z,u,y):=sL I1.hok (.inl hx);have O:g.heap.DictOf (bx X.prog X.w) p D:=#[G,es,ep,C,l,B,z,u,y];refine#["dict","dict.items",F.plainAttrs_dict,F.slot_dict_items,F.type_dict_items,O.typeIs,O.mapOf.noDict,?_];show Na _ _ (callWith m (.builtin "dict.items") [.ref p] [] []) _ _ g;refine method_meetsIn F.slot_dict_items F.entry_dict_items rfl (TV #[rfl,O.typeIs,F.args_dict_items_1 _,_,meets_dict_items (bx X.prog X.w) p U,#[D,O],?_]);have aa:@LT.lt Nat _ p g.heap.objs.size:=L0 C;have V:g.heap.DictAt (bx X.prog X.w) p D ep:=#[G,es,C,l,B,z,u,y];have T:(g.heap.push {cls:=.type "dict_items",data:=.fields #[.ref p]}).objs.size=g.heap.objs.size+1:=Oc ..;show Na _ _ (Tp (.ref g.heap.objs.size)) _ _ _;refine wpAny_pyIter_items (knd:=bx X.prog X.w) (d:=p) (kvs:=D) (ep:=ep) #[_,Nc _ rfl,rfl,rfl] (V.push _) ?_;have W:Inv X r Y (upd H1 p (.nH G (.dK kvs))) g:=I1.nH hx C;dsimp only;have J:=Nc (g.heap.push {cls:=.type "dict_items",data:=.fields #[.ref p]}) (o:={cls:=.type "dict_itemiterator",data:=.fields #[.none,.bool false,.ref p,.int 0 0,.int D.length 0,.int ep 0,.none,.none,]}) rfl;rw[T]at J|-;refine#[g.heap.objs.size+1,[g.heap.objs.size+1],_,_,upd H1 p (.nH G (.dK kvs)),rfl,W.kept (t':=g.toks) (λc o q=>tF _ (tF _ q)),zj l B z u y Q _ p (by show @Ne Nat _ _;omega),#[_,_,J],λb hb=>?_,q1 G]
 have L:g.heap.objs.size<=b:=by
  obtain rfl:b=g.heap.objs.size+1:=by simpa using hb
  exact Po _ 1
 exact W.AS L (W.hok.fresh L)
theorem rD (m:Nat->St->List (Key×V)->Hp->Prop)(J:m 0 σ0 [] H0)(r:∀i d kvs H,i<=xs.length->m i d kvs H->kvs.length<=i)(hn:xs.length<=mH)(z:∀i d kvs H,i<=xs.length->m i d kvs H->H a=some (.nH u (.dK xs)))(hs:∀i x d kvs H p,xs[i]?=some x->m i d kvs H->H p=none->g (.ref p) d (upd H p (.tup [kV x.1,x.2])) λl O=>tt l O λok B=>if ok=true then tk l B λD M=>tv l M λv L=>∃q,D=kV q/\m (i+1) l (putK kvs q v) L else m (i+1) l kvs B)(hd:∀d kvs H,m xs.length d kvs H->∀p,H p=none->Q (.ref p) (upd H p (.dK kvs))):wB (Itm u xs a) g tt tk tv Q σ0 H0:=by
 refine xZ xs.length m J r hn (λi d o H t p=>#[z i d o H (Ol t) p,t]) (λd o H p=>#[z _ d o H (i5 _) p,i5 _]) (λi d o H x R t p y=>?_) hd;have(C,e,I,rfl,rfl,G):=y;exact hs i e d o H C G p I
def LV(u:It)(H:TG)(D C:TE)(N:St->List (Key×V)->Hp->Prop)(r:St)(kvs:List (Key×V))(M:Hp):Prop :=
 ∃t:Nat->Nat->St->List (Key×V)->Hp->Prop,(∃q,t 0 q r kvs M)/\∀j q g d p,t j q g d p ->
   (u.stop j p/\N g d p) \/
   (u.go j p/\d.length<mH/\∃B:St->List (Key×V)->Hp->Prop,(∀e l o,B e l o->∃z,z < q/\t (j+1) z e l o)/\∀y o,u.yld j p y o->H y g o λe L =>
    D e L λG J=>C e J λv I=>∃m,G=kV m/\B e (putK d m v) I)
theorem zk {K:bN}(l:Nat->St->List (Key×V)->Hp->Prop)(B:l 0 σ0 [] H0)(v:∀i d kvs H,i<=xs.length->l i d kvs H->cH K H a xs)(hs:∀i x d kvs H,xs[i]?=some x->l i d kvs H->g x d H λo t=>wi2 o t λC D=>LV C g2 tk tv (l (i+1)) o kvs D)(hz:∀d kvs H,l xs.length d kvs H->kvs.length<=mH)(hd:∀d kvs H,l xs.length d kvs H->∀p,H p=none->Q (.ref p) (upd H p (.dK kvs))):zZ (zH K a) g wi2 g2 tk tv Q σ0 H0:=by
 refine#[λi m d kvs H=>m=xs.length-i/\i<=xs.length/\l i d kvs H,#[xs.length,by simp,Nn _,B],?_];rintro i m d kvs H ⟨rfl,z,p⟩;have q1:=v i d kvs H z p
 by_cases r:i<xs.length
 .refine .inr #[#[xs,xs[i],q1,by simp[r]],l (i+1),λo u t q=>#[xs.length - (i+1),(),rfl,r,q],λx G y=>?_];have(rfl,y):=y;exact hs i x d kvs _ (y xs q1) p
 .have e:i=xs.length:=()
  subst e;exact .inl #[#[xs,q1,i5 _],hz d kvs H p,hd d kvs H p]
theorem Fi {K:bN}(l:Nat->St->List (Key×V)->Hp->Prop)(G:l 0 σ0 kvs H0)(C:∀j d kvs H,j<=ys.length->l j d kvs H->cH K H b ys)(hn:∀j d kvs H,j<ys.length->l j d kvs H->kvs.length<mH)(hs:∀j y d kvs H,ys[j]?=some y->l j d kvs H->g2 y d H λo L=>tk o L λB J=>tv o J λv I=>∃t,B=kV t/\l (j+1) o (putK kvs t v) I)(hd:∀d kvs H,l ys.length d kvs H->N d kvs H):LV (zH K b) g2 tk tv N σ0 kvs H0:=by
 refine#[λj m d kvs H=>m=ys.length-j/\j<=ys.length/\l j d kvs H,#[ys.length,by simp,Nn _,G],?_];rintro j m d kvs H ⟨rfl,D,p⟩;have q1:=C j d kvs H D p
 by_cases r:j<ys.length
 .refine .inr #[#[ys,ys[j],q1,by simp[r]],hn j d kvs H r p,l (j+1),λu z M q=>#[ys.length - (j+1),(),rfl,r,q],λx O y=>?_];have(rfl,y):=y;exact hs j x d kvs _ (y ys q1) p
 .have e:j=ys.length:=()
  subst e;exact .inl #[#[ys,q1,i5 _],hd d kvs H p]
theorem Paired.yc {F:α->β->Prop}{l1:List α}{l2:List β}(r:Paired F l1 l2){a:α}{b:β}(h:F a b):Paired F (l1++[a]) (l2++[b]):=by
 induction r with
 |nil=>exact .cons h .nil
 |cons q t ih=>exact .cons q ih
theorem Paired.getL {F:α->β->Prop}{l1:List α}{l2:List β}(r:Paired F l1 l2):∀{i:Nat}{b:β},l2[i]?=some b->∃a,l1[i]?=some a/\F a b:=by
 induction r with
 |nil=>intro i b h;simp at h
 |@cons a b l1 l2 q t ih =>
  intro i c h
  cases i with
  |zero =>
   simp only[QO,Q5]at h;subst h;exact#[a,by simp,q]
  |succ n =>
   have(x,d,f):=ih (by simpa using h);exact#[x,by simpa using d,f]
theorem lV {d:List (Key×V)}(h:∀e∈d,e.1≠k):putK d k v=d++[(k,v)]:=by
 unfold putK
 have:(d.any λe=>decide (e.1=k))=false:=by
  rw[QX];intro e g
  simpa using h e g
 rw[this];rfl
end L2
namespace G14
open PySem L2
noncomputable def tl(kl:Kl):List (Str×Str×List Kk):=kl.flatMap λk=>k.2.map λt=>(t.1,k.1,t.2)
def Fj(K:bN)(H:Hp)(x:Str×Str×List Kk)(e:Key×V):Prop:=∃q d,e=(Sum.inr x.1,V.ref q)/\H q=some (.tup [.str x.2.1,d])/\Rp K H (.t (x.2.2.map jJ)) d
theorem Fj.same (t:Fj K H x e)(s:aT H d):Fj K d x e:=by
 have(q,g,e,h,r):=t;exact#[q,g,e,s _ _ h,r.same s]
theorem oZ (kl:Kl):(tl kl).map (·.1)=je kl:=by
 unfold tl je;rw[List.map_flatMap]
 congr 1
 funext k
 rw[NZ];rfl
theorem rV (l:Kl)(k:Str×List (Str×List Kk)):tl (l++[k])=tl l++k.2.map λt=>(t.1,k.1,t.2):=by
 unfold tl;rw[NQ];simp
def yd(K:bN):Sp:=λl H Q _=>∃(v:V) (e:Kl) (m:T),l=[v]/\Rp K H (.t [.t (e.map gZ),m]) v/\wY e/\(je e).Nodup /\
 ∀(p:Addr) (g:Hp) (d:List (Key×V)),aT H g->H p=none->g p=some (.dK d)->Paired (Fj K g) (tl e) d->Q (.ref p) g
structure LW(K:bN) (H:Hp) (xs:List (Str×Str×List Kk)) (H2:Hp) (kvs:List (Key×V)):Prop where
 s:aT H H2
 p:Paired (Fj K H2) xs kvs
theorem tN :Nm VT (ak jQ):=by decide
theorem tO :Lm VT (ak jQ):=by decide
theorem pe :aZ VT Wa (ak jQ):=#[rfl,rfl,rfl,by decide,rfl,by decide,by decide]
theorem zl (F:jr K "tags_of" "tags_of" jQ f fd):cA P w K mg base gy 1 f fd Wa (yd K):=by
 refine F.ok pe (λvs H Q E h=>?_) (λcdv A outer s H vs Q E hr h=>?_)
 .have(_,_,_,rfl,_):=h;rfl
 have(v,g,dt,rfl,r,hB,ai,k):=h;refine#[_,(Z5 (Zq (va tN 0) (Z9 (2) (Zf (ga pe.nd tO 1) (Zt (ga pe.nd tO 2))))) (Ze (Zv (zh (ak jQ) VT Vs [] rfl rfl rfl (by decide) (cz (va tN 1)) (λ_ _ _ _=>(Z9 (2) (Zf (Z3 (i:=0) (show(Vs:List Str).Nodup by decide)) (Zt (Z3 (i:=1) (show(Vs:List Str).Nodup by decide)))))) (λ_ _ _ _=>(zX K rfl (va (show Nm Vs _ by left) 1))) (λ_ _ _ _=>(Z9 (2) (Zf (Z3 (i:=2) (show(Vs:List Str).Nodup by decide)) (Zt (Z3 (i:=3) (show(Vs:List Str).Nodup by decide)))))) (λ_ _ _ _=>(va (show Nm Vs _ by left) 2)) (λ_ _ _ _=>(Zm (Z1 (va (show Nm Vs _ by left) 0) (Zd (va (show Nm Vs _ by left) 3))))))))),?_]
 right
 right
 have(pa,u1,u2,rfl,as,g1,g2):=r.t2;have(a,Y,rfl,sq,rs):=g1.aS;have aa:=rs.length;rw[bM]at aa;have ac:=qi hB;rw[<-oZ,bM]at ac;ext;refine zk (K:=K) (xs:=Y) (λi o d S=>(∃y1 y2 W V,o=[y1,y2,W,V])/\LW K H (tl (g.take i)) S d) #[#[_,_,_,_,rfl],aT.refl _,.nil] ?_ ?_ ?_ ?_
 .rintro i o d S hi ⟨_,l⟩;exact sq.same l.s
 .rintro i xv o d S hxv ⟨⟨_,_,_,_,rfl⟩,l⟩;have(t,L,rx):=rs.get' hxv;rw[EF]at L;have(kd,O,rfl):=xn.mp L;have am:=(bH.mp O).1;have y:g.take (i+1)=g.take i++[kd]:=by rw[mu am,(bH.mp O).2]
  have(ka,k1,k2,rfl,ad,q1,q2):=(show Rp K H (.t [.s kd.1,.t (kd.2.map kK)]) xv from rx).t2;obtain rfl:=q1.aJ;have aq:=ad.same l.s;have(Z,D,rfl,G,I):=q2.aS;have ab:=I.length;rw[bM]at ab;have ap:=G.same l.s;ext
  have M:∀j,j<=kd.2.length->((tl (g.take i)++(kd.2.take j).map λt=>(t.1,kd.1,t.2)).map (·.1)).Nodup:=λj hj=>by
   refine ai.sublist ?_;rw[<-oZ];refine Qs _ ?_;refine UA.trans (l₂:=tl (g.take (i+1))) ?_ ?_
   .rw[y,rV];exact UA.append (UA.refl _) (Qs _ (Qh _ _))
   .conv=>rhs;rw[<-Rk (i+1) g]
    unfold tl;rw[NQ];exact List.sublist_append_left _ _
  have ag:∀j,(tl (g.take i)++(kd.2.take j).map λt=>(t.1,kd.1,t.2)).length<=100:=λj=>by
   have e:(tl (g.take (i+1))).length<=(tl g).length:=by
    conv=>rhs;rw[<-Rk (i+1) g]
    unfold tl;rw[NQ,i4];omega
   rw[y,rV,i4,bM]at e;rw[i4,bM,L1];omega
  refine Fi (K:=K) (ys:=D) (λj o d B=>(∃W V,o=[some (.str kd.1),some (.ref Z),W,V])/\LW K H (tl (g.take i)++(kd.2.take j).map λt=>(t.1,kd.1,t.2)) B d) #[#[_,_,rfl],by rw[PZ,OS,Ny];exact l] ?_ ?_ ?_ ?_
  .rintro j o d B hj ⟨_,m⟩;exact G.same m.s
  .rintro j o d B hj ⟨_,m⟩;have e1:=m.p.length;have e2:=ag j;exact bq ()
  .rintro j yv o d B hyv ⟨⟨_,_,rfl⟩,m⟩;have(t,L,ry):=I.get' hyv;rw[EF]at L;have(u,J,rfl):=xn.mp L;have R:=(bH.mp J).1;have ao:kd.2.take (j+1)=kd.2.take j++[u]:=by rw[mu R,(bH.mp J).2]
   have(ga,w1,C,rfl,an,p1,p2):=(show Rp K H (.t [.s u.1,.t (u.2.map jJ)]) yv from ry).t2;obtain rfl:=p1.aJ;have ar:=an.same m.s;have r3:=p2.same m.s;have hn:=M (j+1) R;have en:(tl (g.take i)++(kd.2.take (j+1)).map λt=>(t.1,kd.1,t.2))=(tl (g.take i)++(kd.2.take j).map λt=>(t.1,kd.1,t.2))++[(u.1,kd.1,u.2)]:=by rw[ao,lj,Oa];rfl
   rw[en,lj]at hn
   have nw:∀kv∈d,kv.1≠Sum.inr u.1:=λkv al z=>by
    have(n,aj):=NR al;have(x,hx,q,iv,e,_):=Paired.getL m.p aj;rw[e]at z;have z':x.1=u.1:=Oq z;have:=(OC.mp hn).2.2 x.1 (NT (M9 hx)) u.1 (by simp);exact this z'
   ext;intro U ah;have T:=ae ah (.tup [.str kd.1,C]);have h4:upd B U (.tup [.str kd.1,C]) U=some (.tup [.str kd.1,C]):=af;generalize upd B U (.tup [.str kd.1,C])=H4 at T h4|-;refine#[Sum.inr u.1,rfl,#[_,_,rfl],?_];rw[lV nw,en];exact#[m.s.trans T,Paired.yc (Paired.imp' (λx e h=>Fj.same h T) m.p) #[U,C,rfl,h4,r3.same T]]
  .rintro o d B ⟨⟨_,_,rfl⟩,m⟩;rw[show D.length=kd.2.length by omega,Nl]at m;rw[y,rV];exact#[#[_,_,_,_,rfl],m]
 .rintro o d S ⟨_,l⟩;rw[show Y.length=g.length by omega,Nl]at l;have:=l.p.length;exact small ()
 .rintro o d S ⟨_,l⟩ p hp;rw[show Y.length=g.length by omega,Nl]at l;have s3:=ae hp (.dK d);ext;exact k p _ d (l.s.trans s3) (l.s.free hp) af (Paired.imp' (λx e h=>Fj.same h s3) l.p)
noncomputable def KU(s:Stmt)(i:Nat):Stmt:=match s with
 |.ClassDef _ _ _ b _ _ _ _ _ _ _=>b.getD i (.Pass #[0,0,0,0])
 |_=>.Pass #[0,0,0,0]
noncomputable abbrev fS:Stmt:=KU EW 0
structure qj where
 dx:Addr
 dK:Addr
 dT:Addr
 dM:Addr
 dD:Addr
 lG:Addr
 lO:Addr
 kv:List (Key×V)
noncomputable def GR(a:qj):List (Str×V):=[("kinds",.ref a.dK),("kind_of_tag",.ref a.dT),("many_of_tag",.ref a.dM),("many_of_def",.ref a.dD),("gaps",.ref a.lG),("opens",.ref a.lO)]
def So(o:Addr)(H d:Hp):Prop:=∀b u,b≠o->H b=some u->d b=some u
theorem So.refl (o:Addr)(H:Hp):So o H H:=λ_ _ _ e=>e
theorem So.same (a:So o H g)(s:aT g d):So o H d:=λb u n e=>s _ _ (a b u n e)
theorem So.upd (a:So o H d)(x:HO):So o H (L2.upd d o x):=λb u n e=>by rw[au n];exact a b u n e
theorem So.trans (a:So o H g)(b:So o g d):So o H d:=λc u n e=>b c u n (a c u n e)
theorem So.free (a:So o H d)(n:b≠o)(e:d b=none):H b=none:=by
 cases q:H b with
 |none=>rfl
 |some u=>rw[a b u n q]at e;cases e
theorem So.kt (a:So o H g)(e:H o=some (.ins C l fs)):Kt H g:=by
 intro b m d;rcases d with d|⟨z,d⟩
 .exact .inl (a b _ (λq=>by rw[q,e]at d;cases d) d)
 .exact .inr #[z,a b _ (λq=>by rw[q,e]at d;cases d) d]
def KW(a:qj)(H:Hp)(k:Str×List (Str×List Kk))(e:Key×V):Prop:=∃l,e=(Sum.inr k.1,V.ref l)/\H l=some (.lst (k.2.map λt=>.str t.1))/\l≠a.lG/\l≠a.lO
structure hU(C:Addr) (H0:Hp) (o:Addr) (a:qj) (kl:Kl) (ds:List (Str×Nat)) (gs os:List Int) (H:Hp):Prop where
 sm:aT H0 H
 d0:H0 a.dD=none
 g0:H0 a.lG=none
 o0:H0 a.lO=none
 go:a.lG≠a.lO
 kd:a.dK≠a.dD
 td:a.dT≠a.dD
 md:a.dM≠a.dD
 ins:H o=some (.ins C a.dx (GR a))
 kk:H a.dK=some (.dK a.kv)
 ke:Paired (KW a H) kl a.kv
 kt:H a.dT=some (.dK ((tl kl).map λx=>(Sum.inr x.1,.str x.2.1)))
 km:H a.dM=some (.dK ((tl kl).map λx=>(Sum.inr x.1,.int x.2.2.length)))
 dd:H a.dD=some (.dK (ds.map λd=>(Sum.inr d.1,.int d.2)))
 gg:H a.lG=some (.lst (gs.map V.int))
 oo:H a.lO=some (.lst (os.map V.int))
theorem hU.step {os:List Int}(h:hU C H0 o a kl ds gs os H)(s:∀b u,b≠a.dD->b≠a.lG->b≠a.lO->H b=some u->H' b=some u)(dd:H' a.dD=some (.dK (p.map λd=>(Sum.inr d.1,.int d.2))))(gg:H' a.lG=some (.lst (m.map V.int)))(oo:H' a.lO=some (.lst (g.map V.int))):hU C H0 o a kl p m g H':=by
 have B:=h.kk;have y:=h.ke;have dict:∀{b:Addr}{q:List (Key×V)},b≠a.dD->H b=some (.dK q)->H' b=some (.dK q):=λ{b q} n e=>s b _ n (λz=>by rw[z,h.gg]at e;cases e) (λz=>by rw[z,h.oo]at e;cases e) e;refine#[λb u e=>?_,h.d0,h.g0,h.o0,h.go,h.kd,h.td,h.md,?_,dict h.kd B,?_,dict h.td h.kt,dict h.md h.km,dd,gg,oo]
 .exact s b u (ay e h.d0) (ay e h.g0) (ay e h.o0) (h.sm b u e)
 .exact s o _ (λz=>by have:=h.ins;rw[z,h.dd]at this;cases this) (λz=>by have:=h.ins;rw[z,h.gg]at this;cases this) (λz=>by have:=h.ins;rw[z,h.oo]at this;cases this) h.ins
 .exact Paired.imp' (λk e ⟨l,D,r,v,t⟩=>#[l,D,s l _ (λz=>by rw[z,h.dd]at r;cases r) v t r,v,t]) y
def j5(a:qj)(H H':Hp):Prop:=∀b u,b≠a.dD->b≠a.lG->b≠a.lO->H b=some u->H' b=some u
theorem j5.refl (a:qj)(H:Hp):j5 a H H:=λ_ _ _ _ _ e=>e
theorem j5.same (x:j5 a H g)(s:aT g d):j5 a H d:=λb u p m l e=>s _ _ (x b u p m l e)
theorem j5.of (s:aT H d):j5 a H d:=λb u _ _ _ e=>s _ _ e
theorem j5.trans (x:j5 a H p)(y:j5 a p m):j5 a H m:=λb u l g d e=>y _ _ l g d (x b u l g d e)
theorem j5.CC (x:j5 a H d)(e:H b=none)(o:HO):j5 a H (upd d b o):=λc u m l g h=>by rw[au (ay h e)];exact x c u m l g h
theorem hU.uA {os:List Int}(h:hU C H0 o a kl ds gs os H)(x:j5 a H H'):Kt H H':=by
 intro b e d;rcases d with d|⟨z,d⟩
 .exact .inl (x b _ (λq=>by rw[q,h.dd]at d;cases d) (λq=>by rw[q,h.gg]at d;cases d) (λq=>by rw[q,h.oo]at d;cases d) d)
 .exact .inr #[z,x b _ (λq=>by rw[q,h.dd]at d;cases d) (λq=>by rw[q,h.gg]at d;cases d) (λq=>by rw[q,h.oo]at d;cases d) d]
theorem Paired.both {F G:e->d->Prop}:∀{l1:List e}{l2:List d},Paired F l1 l2->Paired G l1 l2->Paired (λx y=>F x y/\G x y) l1 l2
 |_,_,.nil,_=>.nil
 |_,_,.cons f t,.cons g u=>.cons #[f,g] (Paired.both t u)
theorem hU.other {os:List Int}(h:hU C H0 o a kl ds gs os H)(d:hU C H0 o a kl t m g v)(e:v b=none)(x:HO):hU C H0 o a kl ds gs os (upd H b x):=by
 have n:∀{c:Addr}{u:HO},v c=some u->c≠b:=λq=>ay q e;refine#[h.sm.oq (d.sm.free e) x,h.d0,h.g0,h.o0,h.go,h.kd,h.td,h.md,?_,?_,?_,?_,?_,?_,?_,?_]
 .rw[au (n d.ins)];exact h.ins
 .rw[au (n d.kk)];exact h.kk
 .refine Paired.imp' (λk y ⟨⟨l,I,G,B,z⟩,D,r,p,_,_⟩=>?_) (Paired.both h.ke d.ke);subst I;obtain rfl:l=D:=V.ref.inj (Sm r).2;exact#[l,rfl,by rw[au (n p)];exact G,B,z]
 .rw[au (n d.kt)];exact h.kt
 .rw[au (n d.km)];exact h.km
 .rw[au (n d.dd)];exact h.dd
 .rw[au (n d.gg)];exact h.gg
 .rw[au (n d.oo)];exact h.oo
theorem j5.setG (x:j5 a H e)(y:HO):j5 a H (upd e a.lG y):=λc u l d g h=>by rw[au d];exact x c u l d g h
theorem j5.C0 (x:j5 a H e)(y:HO):j5 a H (upd e a.lO y):=λc u l g d h=>by rw[au d];exact x c u l g d h
theorem hU.ext {os:List Int}(h:hU C H0 o a kl ds gs os H)(s:aT H H'):hU C H0 o a kl ds gs os H':=h.step (λb u _ _ _ e=>s b u e) (s _ _ h.dd) (s _ _ h.gg) (s _ _ h.oo)
theorem hU.dG {os:List Int}(h:hU C H0 o a kl ds gs os H):a.dD≠a.lG:=λz=>by have:=h.dd;rw[z,h.gg]at this;cases this
theorem hU.dO {os:List Int}(h:hU C H0 o a kl ds gs os H):a.dD≠a.lO:=λz=>by have:=h.dd;rw[z,h.oo]at this;cases this
theorem hU.setG {os:List Int}(h:hU C H0 o a kl ds gs os H)(d:List Int):hU C H0 o a kl ds d os (upd H a.lG (.lst (d.map V.int))) :=
 h.step (λb u _ n _ e=>by rw[au n];exact e) (by rw[au h.dG];exact h.dd) af (by rw[au h.go.symm];exact h.oo)
theorem hU.C0 {os:List Int}(h:hU C H0 o a kl ds gs os H)(d:List Int):hU C H0 o a kl ds gs d (upd H a.lO (.lst (d.map V.int))) :=
 h.step (λb u _ _ n e=>by rw[au n];exact e) (by rw[au h.dO];exact h.dd) (by rw[au h.go];exact h.gg) af
theorem hU.uB {os:List Int}(h:hU C H0 o a kl ds gs os H)(g:List (Str×Nat)):hU C H0 o a kl g gs os (upd H a.dD (.dK (g.map λd=>(Sum.inr d.1,.int d.2)))) :=
 h.step (λb u n _ _ e=>by rw[au n];exact e) af (by rw[au h.dG.symm];exact h.gg) (by rw[au h.dO.symm];exact h.oo)
theorem tP (a:qj):(GR a).lookup ("kinds":Str)=some (V.ref a.dK):=by kernel_rfl
theorem C1 (a:qj):(GR a).lookup ("kind_of_tag":Str)=some (V.ref a.dT):=by kernel_rfl
theorem vc (a:qj):(GR a).lookup ("many_of_tag":Str)=some (V.ref a.dM):=by kernel_rfl
theorem ye (a:qj):(GR a).lookup ("many_of_def":Str)=some (V.ref a.dD):=by kernel_rfl
theorem Bq (a:qj):(GR a).lookup ("gaps":Str)=some (V.ref a.lG):=by kernel_rfl
theorem zm (a:qj):(GR a).lookup ("opens":Str)=some (V.ref a.lO):=by kernel_rfl
structure Jo(K:bN) (C:Addr):Prop where
 c:GC K C
 kinds:jE K C "kinds"
 ktag:jE K C "kind_of_tag"
 mtag:jE K C "many_of_tag"
 mdef:jE K C "many_of_def"
 gaps:jE K C "gaps"
 opens:jE K C "opens"
theorem C2 (a:qj):aX "opens" (.ref a.lO) (aX "gaps" (.ref a.lG) (aX "many_of_def" (.ref a.dD) (aX "many_of_tag" (.ref a.dM) (aX "kind_of_tag" (.ref a.dT) (aX "kinds" (.ref a.dK) [])))))=GR a:=by kernel_rfl
def Ac(K:bN)(C:Addr):Sp:=λl H Q _=>∃(e:Hp) (o m:Addr) (v:V) (d:Kl) (p:T),l=[.ref o,v]/\aT e H/\e o=none/\H o=some (.ins C m [])/\Rp K H (.t [.t (d.map gZ),p]) v/\wY d/\(je d).Nodup/\(d.map (·.1)).Nodup /\
 ∀(g:Hp) (a:qj),hU C e o a d [] [] [] g->Q .eN g
theorem tQ :∀(l a:List Str) (x:Str),cJ a (l++[x])=match cJ a l with
  |some y=>some y
  |none=>if x∈a++l then some x else none
 | [],a,x=>by
  show(if x∈a then some x else cJ (a++[x]) [])=_;rw[Ny];rfl
 |y::r,a,x=>by
  show(if y∈a then some y else cJ (a++[y]) (r++[x]))=_;have d:=tQ r (a++[y]) x
  by_cases h:y∈a
  .have e:cJ a (y::r)=some y:=by show(if y∈a then some y else _)=_;rw[if_pos h]
   rw[if_pos h,e]
  .have e:cJ a (y::r)=cJ (a++[y]) r:=by show(if y∈a then some y else _)=_;rw[if_neg h]
   rw[if_neg h,e,d,Oa];rfl
theorem kZ (h:cJ [] l=none):cJ [] (l++[x])=if x∈l then some x else none:=by
 rw[tQ,h];rfl
theorem qQ :∀(l a:List Str),cJ a l=none->l.Nodup/\∀x∈l,x∉a
 | [],a,_=>#[TH,λ_ h=>nomatch h]
 |y::r,a,h=>by
  have d:(if y∈a then some y else cJ (a++[y]) r)=none:=h
  by_cases c:y∈a
  .rw[if_pos c]at d;cases d
  .rw[if_neg c]at d;have(g,e):=qQ r _ d;refine#[O0.mpr #[λz=>e y z (by simp),g],λx hx=>?_];rcases M8.mp hx with rfl|hx
   .exact c
   .exact λz=>e x hx (by simp[z])
theorem yf :∀(d:List (Str×List Kk)) (ta:List Str),gi ah ta d=none->cJ [] ta=none->cJ [] (ta++d.map (·.1))=none
 | [],ta,_,h=>by rw[OS,Ny];exact h
 |t::r,ta,h,hd=>by
  unfold gi at h
  cases e:cJ [] (ta++[t.1])with
  |some x=>rw[e]at h;cases h
  |none =>
   rw[e]at h
   cases e2:fR (iC ah) t.2 with
   |some n=>rw[e2]at h;cases h
   |none =>
    rw[e2]at h;have:=yf r _ h e
    rwa [Oa]at this
theorem vd :∀(kl:Kl) (ah ta:List Str),cQ ah ta kl=none->cJ [] ah=none->cJ [] ta=none->cJ [] (ah++kl.map (·.1))=none/\cJ [] (ta++je kl)=none
 | [],ah,ta,_,h1,h2=>by
  show cJ [] (ah++[])=none/\cJ [] (ta++[])=none;rw[Ny,Ny];exact#[h1,h2]
 |k::r,ah,ta,h,h1,h2=>by
  unfold cQ at h
  cases e:cJ [] (ah++[k.1])with
  |some x=>rw[e]at h;cases h
  |none =>
   rw[e]at h
   cases e2:gi ah ta k.2 with
   |some n=>rw[e2]at h;cases h
   |none =>
    rw[e2]at h;have(a,b):=vd r _ _ h e (yf _ _ e2 h2);rw[Oa]at a b;exact#[a,b]
theorem rE (h:cQ [] [] kl=none):(kl.map (·.1)).Nodup/\(je kl).Nodup:=by
 have(a,b):=vd kl [] [] h rfl rfl;exact#[(qQ _ _ a).1,(qQ _ _ b).1]
noncomputable def fM(e:List Str)(d:List Int)(k:Kk):Except Flt (List Int):=match k.core with
 |.kd x=>if x∈e then .ok d else .error (.nn,x)
 |.op n=>if n∈d then .error (.tw,"?")else .ok (d++[n])
 |_=>.ok d
noncomputable def cY(d:List Str):List Str->List Int->List (Str×Kk)->Except Flt (List Int)
 |_,os,[]=>.ok os
 |ah,os,p::r=>if p.1∈ah then .error (.tw,p.1)else match fM d os p.2 with
  |.error f=>.error f
  |.ok os'=>cY d (ah++[p.1]) os' r
theorem rF {d ah:List Str}{g:List Int}{ps:List (Str×Kk)}{i:Nat}{p:Str×Kk}(h:ps[i]?=some p):cY d ah g (ps.drop i)=if p.1∈ah then .error (.tw,p.1)else match fM d g p.2 with
  |.error f=>.error f
  |.ok os'=>cY d (ah++[p.1]) os' (ps.drop (i+1)):=by
 have e:=(bH.mp h).1;have l:ps.drop i=p::ps.drop (i+1):=by rw[NF e,(bH.mp h).2]
 rw[l];rfl
noncomputable def jK(kl:Kl)(t:Str):Option (Str×Str×List Kk):=(tl kl).find? λx=>decide (x.1=t)
noncomputable def Ad(kl:Kl)(n:Str):Option (Str×List (Str×List Kk)):=kl.find? λk=>decide (k.1=n)
theorem qk {e:Type}(d:e->Str)(f:e->V)(t:Str):∀l:List e,cX (l.map λx=>((Sum.inr (d x):Key),f x)) (Sum.inr t)=(l.find? λx=>decide (d x=t)).map f
 | []=>rfl
 |x::r=>by
  rw[Nr]
  by_cases h:d x=t
  .rw[fJ (show(Sum.inr (d x):Key)=Sum.inr t by rw[h]),List.find?_cons_of_pos (by simpa using h)];rfl
  .rw[fK (λz=>h (Oq z)),List.find?_cons_of_neg (by simpa using h)];exact qk d f t r
noncomputable def jA(kl:Kl)(a:Str×List Str):Option Flt:=match jK kl a.1 with
 |none=>some (.nn,a.1)
 |some y=>if a.2.length=y.2.2.length then(cJ [] a.2).map λx=>(.tw,x)else some (.wr,a.1)
noncomputable def gx(kl:Kl)(arms:List (Str×List Str)):Option Flt:=match arms with
 | []=>some (.nn,"match")
 |a::r=>match(a::r).find? (λb=>decide ((jK kl b.1).isSome=false))with
  |some b=>some (.nn,b.1)
  |none=>if((a::r).map (·.1)).isPerm ((((jK kl a.1).bind λy=>Ad kl y.2.1).map λk=>k.2.map (·.1)).getD [])=true then(a::r).findSome? (jA kl)else some (.wr,"match")
noncomputable def eO(kl:Kl)(ds:List (Str×Nat))(gs:List Int)(ns:List Str):Hd->Nat->Except Flt (List Int)
 |.name x,_=>if x∈ns then .ok gs else .error (.nn,x)
 |.tag t,n=>match jK kl t with
  |none=>.error (.nn,t)
  |some y=>if n=y.2.2.length then .ok gs else .error (.wr,t)
 |.call f,n=>match ds.find? (λd=>decide (d.1=f))with
  |none=>.error (.nn,f)
  |some d=>if n=d.2 then .ok gs else .error (.wr,f)
 |.mat arms,_=>match gx kl arms with
  |some f=>.error f
  |none=>.ok gs
 |.fold x y,_=>if x=y then .error (.tw,x)else .ok gs
 |.gap n,_=>if n∈gs then .error (.tw,"?")else .ok (gs++[n])
 |_,_=>.ok gs
noncomputable def iN(kl:Kl)(ds:List (Str×Nat)):List Int->List (List Str×Tm)->Except Flt (List Int)
 |gs,[]=>.ok gs
 |gs,p::r=>match eO kl ds gs p.1 p.2.hd p.2.ks.length with
  |.error f=>.error f
  |.ok gs'=>iN kl ds gs' r
structure mF where
 d:Addr
 dk:Addr
 dt:Addr
 lo:Addr
 lg:Addr
 dd:Addr
 kv:List (Key×V)
noncomputable def ky(x:Str):Key:=Sum.inr x
noncomputable def Ed(S:mF):List (Key×V):=[(ky "kinds",.ref S.dk),(ky "tags",.ref S.dt),(ky "opens",.ref S.lo),(ky "gaps",.ref S.lg),(ky "defs",.ref S.dd)]
def KY(S:mF)(H:Hp)(k:Str×List (Str×List Kk))(e:Key×V):Prop:=∃l,e=(Sum.inr k.1,V.ref l)/\H l=some (.lst (k.2.map λt=>.str t.1))/\l≠S.lg/\l≠S.lo
def Iu(H:Hp)(x:Str×Str×Nat)(e:Key×V):Prop:=∃q,e=(Sum.inr x.1,V.ref q)/\H q=some (.tup [.str x.2.1,.int x.2.2])
def KZ(H:Hp)(x:Str×Nat)(e:Key×V):Prop:=∃q,e=(Sum.inr x.1,V.ref q)/\H q=some (.tup [.str x.1,.int x.2])
structure LX(H0:Hp) (S:mF):Prop where
 d0:H0 S.d=none
 k0:H0 S.dk=none
 t0:H0 S.dt=none
 o0:H0 S.lo=none
 g0:H0 S.lg=none
 f0:H0 S.dd=none
 kt:S.dk≠S.dt
 kd:S.dk≠S.dd
 td:S.dt≠S.dd
 dk:S.d≠S.dk
 dt:S.d≠S.dt
 dd:S.d≠S.dd
 og:S.lo≠S.lg
structure eG(H0:Hp) (S:mF) (kn:Kl) (tg:List (Str×Str×Nat)) (ds:List (Str×Nat)) (gs os:List Int) (H:Hp):Prop where
 n:LX H0 S
 sm:aT H0 H
 sd:H S.d=some (.dK (Ed S))
 hk:H S.dk=some (.dK S.kv)
 ke:Paired (KY S H) kn S.kv
 ht:∃tv,H S.dt=some (.dK tv)/\Paired (Iu H) tg tv
 hd:∃dv,H S.dd=some (.dK dv)/\Paired (KZ H) ds dv
 hg:H S.lg=some (.lst (gs.map V.int))
 ho:H S.lo=some (.lst (os.map V.int))
structure rW(H0:Hp) (S:mF) (m:Nat) (H:Hp):Prop where
 n:LX H0 S
 sm:aT H0 H
 sd:H S.d=some (.dK (Ed S))
 hd:∃dv,H S.dd=some (.dK dv)/\dv.length<=m
def iA(S:mF)(H d:Hp):Prop:=∀b u,b≠S.dk->b≠S.dt->b≠S.dd->b≠S.lo->b≠S.lg->H b=some u->d b=some u
theorem iA.refl (S:mF)(H:Hp):iA S H H:=λ_ _ _ _ _ _ _ e=>e
theorem iA.of (s:aT H d):iA S H d:=λb u _ _ _ _ _ e=>s _ _ e
theorem iA.trans (x:iA S H q)(y:iA S q p):iA S H p:=λb u o m l g d e=>y _ _ o m l g d (x b u o m l g d e)
theorem iA.same (x:iA S H e)(y:aT e d):iA S H d:=x.trans (iA.of y)
theorem eG.w {os:List Int}(h:eG H0 S kn tg ds gs os H){n:Nat}(hn:ds.length<=n):rW H0 S n H:=by
 have(g,e,d):=h.hd;exact#[h.n,h.sm,h.sd,g,e,by rw[<-d.length];exact hn]
theorem eG.ext {os:List Int}(h:eG H0 S kn tg ds gs os H)(s:aT H H'):eG H0 S kn tg ds gs os H':=by
 have(m,t1,t2):=h.ht;have(o,q,p):=h.hd;exact#[h.n,h.sm.trans s,s _ _ h.sd,s _ _ h.hk,Paired.imp' (λk e ⟨l,g,d,n⟩=>#[l,g,s _ _ d,n]) h.ke,#[m,s _ _ t1,Paired.imp' (λk e ⟨l,g,d⟩=>#[l,g,s _ _ d]) t2],#[o,s _ _ q,Paired.imp' (λk e ⟨l,g,d⟩=>#[l,g,s _ _ d]) p],s _ _ h.hg,s _ _ h.ho]
theorem rW.ext {n:Nat}(h:rW H0 S n H)(s:aT H H'):rW H0 S n H':=by
 have(d,g,e):=h.hd;exact#[h.n,h.sm.trans s,s _ _ h.sd,d,s _ _ g,e]
theorem rW.le {n:Nat}(h:rW H0 S n H)(e:n<=m):rW H0 S m H:=by
 have(d,l,g):=h.hd;exact#[h.n,h.sm,h.sd,d,l,Nu g e]
theorem eG.uA {os:List Int}(h:eG H0 S kn tg ds gs os H)(x:iA S H H'):Kt H H':=by
 have(o,t1,_):=h.ht;have(p,r,_):=h.hd
 have d:∀b u,H b=some u->(∀k,u≠.dK k)->(∀k,u≠.lst k)->H' b=some u:=λb u e l m =>
  x b u (λq=>l S.kv (by rw[q,h.hk]at e;exact(Ng e).symm)) (λq=>l o (by rw[q,t1]at e;exact(Ng e).symm)) (λq=>l p (by rw[q,r]at e;exact(Ng e).symm))
   (λq=>m _ (by rw[q,h.ho]at e;exact(Ng e).symm)) (λq=>m _ (by rw[q,h.hg]at e;exact(Ng e).symm)) e
 intro b t g;rcases g with g|⟨z,g⟩
 .exact .inl (d b _ g (λ_ z=>nomatch z) (λ_ z=>nomatch z))
 .exact .inr #[z,d b _ g (λ_ z=>nomatch z) (λ_ z=>nomatch z)]
theorem eG.setG {os:List Int}(h:eG H0 S kn tg ds gs os H)(m:List Int):eG H0 S kn tg ds m os (upd H S.lg (.lst (m.map V.int))):=by
 have(t,t1,t2):=h.ht;have(y,r,B):=h.hd;have g:∀{b:Addr}{u:HO},H b=some u->(∀k,u≠.lst k)->b≠S.lg:=λ{b u} e n q=>n _ (by rw[q,h.hg]at e;exact(Ng e).symm);refine#[h.n,h.sm.oq h.n.g0 _,?_,?_,?_,#[t,?_,?_],#[y,?_,?_],af,?_]
 .rw[au (g h.sd (λ_ z=>nomatch z))];exact h.sd
 .rw[au (g h.hk (λ_ z=>nomatch z))];exact h.hk
 .exact Paired.imp' (λk e ⟨l,o,d,p,v⟩=>#[l,o,by rw[au p];exact d,p,v]) h.ke
 .rw[au (g t1 (λ_ z=>nomatch z))];exact t1
 .exact Paired.imp' (λk e ⟨l,o,d⟩=>#[l,o,by rw[au (g d (λ_ z=>nomatch z))];exact d]) t2
 .rw[au (g r (λ_ z=>nomatch z))];exact r
 .exact Paired.imp' (λk e ⟨l,o,d⟩=>#[l,o,by rw[au (g d (λ_ z=>nomatch z))];exact d]) B
 .rw[au h.n.og];exact h.ho
theorem eG.C0 {os:List Int}(h:eG H0 S kn tg ds gs os H)(m:List Int):eG H0 S kn tg ds gs m (upd H S.lo (.lst (m.map V.int))):=by
 have(t,t1,t2):=h.ht;have(y,r,B):=h.hd;have g:∀{b:Addr}{u:HO},H b=some u->(∀k,u≠.lst k)->b≠S.lo:=λ{b u} e n q=>n _ (by rw[q,h.ho]at e;exact(Ng e).symm);refine#[h.n,h.sm.oq h.n.o0 _,?_,?_,?_,#[t,?_,?_],#[y,?_,?_],?_,af]
 .rw[au (g h.sd (λ_ z=>nomatch z))];exact h.sd
 .rw[au (g h.hk (λ_ z=>nomatch z))];exact h.hk
 .exact Paired.imp' (λk e ⟨l,o,d,v,p⟩=>#[l,o,by rw[au p];exact d,v,p]) h.ke
 .rw[au (g t1 (λ_ z=>nomatch z))];exact t1
 .exact Paired.imp' (λk e ⟨l,o,d⟩=>#[l,o,by rw[au (g d (λ_ z=>nomatch z))];exact d]) t2
 .rw[au (g r (λ_ z=>nomatch z))];exact r
 .exact Paired.imp' (λk e ⟨l,o,d⟩=>#[l,o,by rw[au (g d (λ_ z=>nomatch z))];exact d]) B
 .rw[au h.n.og.symm];exact h.hg
theorem eG.LF {os:List Int}(h:eG H0 S kn tg ds gs os H)(t1:H S.dt=some (.dK o))(t2:Paired (Iu H) tg o)(p:H q=some (.tup [.str x.2.1,.int x.2.2])):eG H0 S kn (tg++[x]) ds gs os (upd H S.dt (.dK (o++[(Sum.inr x.1,.ref q)]))):=by
 have(v,B,y):=h.hd;have g:∀{b:Addr}{u:HO},H b=some u->(∀k,u≠.dK k)->b≠S.dt:=λ{b u} e n q=>n _ (by rw[q,t1]at e;exact(Ng e).symm);refine#[h.n,h.sm.oq h.n.t0 _,?_,?_,?_,#[_,af,?_],#[v,?_,?_],?_,?_]
 .rw[au h.n.dt];exact h.sd
 .rw[au h.n.kt];exact h.hk
 .exact Paired.imp' (λk e ⟨l,m,d,t,r⟩=>#[l,m,by rw[au (g d (λ_ z=>nomatch z))];exact d,t,r]) h.ke
 .exact Paired.yc (Paired.imp' (λk e ⟨l,m,d⟩=>#[l,m,by rw[au (g d (λ_ z=>nomatch z))];exact d]) t2) #[q,rfl,by rw[au (g p (λ_ z=>nomatch z))];exact p]
 .rw[au h.n.td.symm];exact B
 .exact Paired.imp' (λk e ⟨l,m,d⟩=>#[l,m,by rw[au (g d (λ_ z=>nomatch z))];exact d]) y
 .rw[au (g h.hg (λ_ z=>nomatch z))];exact h.hg
 .rw[au (g h.ho (λ_ z=>nomatch z))];exact h.ho
theorem eG.LG {os:List Int}(h:eG H0 S kn tg ds gs os H)(v:H l=some (.lst (k.2.map λt=>.str t.1)))(r:l≠S.lg)(p:l≠S.lo):eG H0 {S with kv:=S.kv++[(Sum.inr k.1,.ref l)]} (kn++[k]) tg ds gs os (upd H S.dk (.dK (S.kv++[(Sum.inr k.1,.ref l)]))):=by
 have(y,t1,t2):=h.ht;have(B,D,C):=h.hd;have m:∀{b:Addr}{u:HO},H b=some u->(∀k,u≠.dK k)->b≠S.dk:=λ{b u} e n q=>n _ (by rw[q,h.hk]at e;exact(Ng e).symm);refine#[#[h.n.d0,h.n.k0,h.n.t0,h.n.o0,h.n.g0,h.n.f0,h.n.kt,h.n.kd,h.n.td,h.n.dk,h.n.dt,h.n.dd,h.n.og],h.sm.oq h.n.k0 _,?_,af,?_,#[y,?_,?_],#[B,?_,?_],?_,?_]
 .show upd H S.dk _ S.d=_;rw[au h.n.dk];exact h.sd
 .exact Paired.yc (Paired.imp' (λk e ⟨l,o,g,r,p⟩=>#[l,o,by rw[au (m g (λ_ z=>nomatch z))];exact g,r,p]) h.ke) #[l,rfl,by rw[au (m v (λ_ z=>nomatch z))];exact v,r,p]
 .show upd H S.dk _ S.dt=_;rw[au h.n.kt.symm];exact t1
 .exact Paired.imp' (λk e ⟨l,o,g⟩=>#[l,o,by rw[au (m g (λ_ z=>nomatch z))];exact g]) t2
 .show upd H S.dk _ S.dd=_;rw[au h.n.kd.symm];exact D
 .exact Paired.imp' (λk e ⟨l,o,g⟩=>#[l,o,by rw[au (m g (λ_ z=>nomatch z))];exact g]) C
 .show upd H S.dk _ S.lg=_;rw[au (m h.hg (λ_ z=>nomatch z))];exact h.hg
 .show upd H S.dk _ S.lo=_;rw[au (m h.ho (λ_ z=>nomatch z))];exact h.ho
theorem eG.uB {os:List Int}(h:eG H0 S kn tg ds gs os H)(B:H S.dd=some (.dK o))(y:Paired (KZ H) ds o)(p:H q=some (.tup [.str x.1,.int x.2])):eG H0 S kn tg (ds++[x]) gs os (upd H S.dd (.dK (o++[(Sum.inr x.1,.ref q)]))):=by
 have(r,t1,t2):=h.ht;have g:∀{b:Addr}{u:HO},H b=some u->(∀k,u≠.dK k)->b≠S.dd:=λ{b u} e n q=>n _ (by rw[q,B]at e;exact(Ng e).symm);refine#[h.n,h.sm.oq h.n.f0 _,?_,?_,?_,#[r,?_,?_],#[_,af,?_],?_,?_]
 .rw[au h.n.dd];exact h.sd
 .rw[au h.n.kd];exact h.hk
 .exact Paired.imp' (λk e ⟨l,m,d,v,t⟩=>#[l,m,by rw[au (g d (λ_ z=>nomatch z))];exact d,v,t]) h.ke
 .rw[au h.n.td];exact t1
 .exact Paired.imp' (λk e ⟨l,m,d⟩=>#[l,m,by rw[au (g d (λ_ z=>nomatch z))];exact d]) t2
 .exact Paired.yc (Paired.imp' (λk e ⟨l,m,d⟩=>#[l,m,by rw[au (g d (λ_ z=>nomatch z))];exact d]) y) #[q,rfl,by rw[au (g p (λ_ z=>nomatch z))];exact p]
 .rw[au (g h.hg (λ_ z=>nomatch z))];exact h.hg
 .rw[au (g h.ho (λ_ z=>nomatch z))];exact h.ho
theorem rW.uB {n:Nat}(h:rW H0 S n H)(e:d.length<=n):rW H0 S n (upd H S.dd (.dK d)) :=
 #[h.n,h.sm.oq h.n.f0 _,by rw[au h.n.dd];exact h.sd,d,af,e]
theorem eG.other {os:List Int}(h:eG H0 S kn tg ds gs os H)(o:eG H0 S kn p C t r D)(e:D b=none)(O:H b=some (.lst xs))(ys:List V):eG H0 S kn tg ds gs os (upd H b (.lst ys)):=by
 have(I,t1,t2):=h.ht;have(Q,G,R):=h.hd;have n:∀{c:Addr}{u:HO},D c=some u->c≠b:=λq=>ay q e;have g:∀{c:Addr}{u:HO},H c=some u->(∀k,u≠.lst k)->c≠b:=λ{c u} q n z=>n _ (by rw[z,O]at q;exact(Ng q).symm);refine#[h.n,h.sm.oq (o.sm.free e) _,?_,?_,?_,#[I,?_,?_],#[Q,?_,?_],?_,?_]
 .rw[au (g h.sd (λ_ z=>nomatch z))];exact h.sd
 .rw[au (g h.hk (λ_ z=>nomatch z))];exact h.hk
 .refine Paired.imp' (λk y ⟨⟨l,m,d,L,J⟩,M,B,v,_,_⟩=>?_) (Paired.both h.ke o.ke);subst m;obtain rfl:l=M:=V.ref.inj (Sm B).2;exact#[l,rfl,by rw[au (n v)];exact d,L,J]
 .rw[au (g t1 (λ_ z=>nomatch z))];exact t1
 .exact Paired.imp' (λk e ⟨l,m,d⟩=>#[l,m,by rw[au (g d (λ_ z=>nomatch z))];exact d]) t2
 .rw[au (g G (λ_ z=>nomatch z))];exact G
 .exact Paired.imp' (λk e ⟨l,m,d⟩=>#[l,m,by rw[au (g d (λ_ z=>nomatch z))];exact d]) R
 .rw[au (n o.hg)];exact h.hg
 .rw[au (n o.ho)];exact h.ho
theorem fh (e:H S.d=some (.dK (Ed S)))(q:cX (Ed S) (ky y)=some v):cu H S.d (.str y) (some v):=by
 have:=cu.k (k:=ky y) e;rw[q]at this;exact this
theorem nI (S:mF):cX (Ed S) (ky "kinds")=some (.ref S.dk):=by kernel_rfl
theorem lW (S:mF):cX (Ed S) (ky "tags")=some (.ref S.dt):=by kernel_rfl
theorem C4 (S:mF):cX (Ed S) (ky "opens")=some (.ref S.lo):=by kernel_rfl
theorem Fo (S:mF):cX (Ed S) (ky "gaps")=some (.ref S.lg):=by kernel_rfl
theorem lX (S:mF):cX (Ed S) (ky "defs")=some (.ref S.dd):=by kernel_rfl
noncomputable def Iv:Er->Str
 |.tw=>"twice"
 |.nn=>"noname"
 |.wr=>"wrong"
def mO(H:Hp):Option Flt->V->Prop
 |none,v=>v=.eN
 |some f,v=>∃p,v=.ref p/\H p=some (.lst [.str (Iv f.1),.str f.2])
theorem mO.same (h:mO H f v)(s:aT H d):mO d f v:=by
 cases f with
 |none=>exact h
 |some f =>
  have(p,e,q):=h;exact#[p,e,s _ _ q]
end G14
namespace L2
open PySem PySem.Spec PyProof.Rows
theorem Ae :∀{xs:List V}{us:List eF},xs.length=us.length->(∀(i:Nat) (x:V) (u:eF),xs[i]?=some x->us[i]?=some u->RelV x u)->Vals xs us
 | [],[],_,_=>.nil
 |x::r,u::t,hl,h=>.cons (h 0 x u rfl rfl) (Ae (by simpa using hl) λi y v d e=>h (i+1) y v (by simpa using d) (by simpa using e))
theorem Iw {kvs:List (Key×V)}(r:KV kvs vs){i:Nat}(h:kvs[i]?=some e):∃u,vs[i]?=some (e.1,u)/\RelV e.2 u:=KV.get r h
theorem tR :iQ X (.builtin "sorted") (λxs H Q=>∃(p:Addr) (v:List Str),xs=[.ref p]/\bQ X.K H p (v.map V.str)/\v.length<64 /\
  ∀(d:List Str) (l:Addr),d.Perm v->sortedS d=true->H l=none->Q (.ref l) (upd H l (.lst (d.map V.str)))):=by
 intro G s U H xs W Q I r h;have(p,v,rfl,S,Z,q):=h;have(u,rfl,M):=vals1 r
 cases M
 have(y,D,O,Y):=I.list S;have m:=D.length;rw[bM]at m;refine sorted_strs O.isList (vU D) () λg d C B J=>?_;have(e,L):=sortedAll_at s.heap y g
 have R:Vals (d.map V.str) g.toList:=by
  generalize g.toList=l at C;clear B J L q
  induction C with
  |nil=>exact .nil
  |cons x t _ ih=>exact .cons #[t,rfl] ih
 have z:(d.map V.str).length<=mH:=by rw[bM,B.length_eq];have:=Qk;omega
 have T:H (s.heap.objs.size+1)=none:=I.hok.fresh (Ot _);exact#[.ref (s.heap.objs.size+1),_,I.laid (t':=s.toks) (a:=s.heap.objs.size+1) (o:=.lst (d.map V.str)) (λb o q=>sortedAll_old q) (Ot _) (show eM X.prog X.w _ _ _ (.lst (d.map V.str))from#[z,g.toList,e,R,L]),rfl,q d _ B J T]
theorem uC (K:bN)(d:X.K=K):iQ X (.type "list") (λxs H Q=>∃p ys,xs=[.ref p]/\(bQ K H p ys\/cH K H p ys)/\∀l,H l=none->Q (.ref l) (upd H l (.lst ys))):=by
 subst d;exact iS
theorem zo (hc:X.calm=true):iQ X (.type "list") (λxs H Q=>∃(p:Addr) (kvs:List (Key×V)),xs=[.ref p]/\H p=some (.dK kvs)/\∀l,H l=none->Q (.ref l) (upd H l (.lst (kvs.map λe=>kV e.1)))):=by
 intro S s σ H xs us Q I r h;have(p,kvs,rfl,hq,q):=h;have(u,rfl,Y):=vals1 r
 cases Y
 have(C,D,B,m,Z,es,ep,ho,v,O,L,G,J):=sL I.hok (.inl hq);have R:s.heap.DictAt (bx X.prog X.w) p B ep:=#[Z,es,ho,v,O,L,G,J];have hl:=m.length;refine PySem.W.kdl_call (PySem.W.kdl_dict (knd:=bx X.prog X.w) (kvs:=B) (ep:=ep) D) (I.ok.hd hc) R () λh' U d c' hk hD g=>?_
 have hv:Vals (kvs.map λe=>kV e.1) d.toList:=by
  have ha:d.toList.length=B.length:=(OY (xs:=d)).trans g.1;refine Ae (by rw[bM,ha,hl]) λi x u T hu=>?_;rw[EF]at T;have(e,he,rfl):=xn.mp T;have(k,y,t,M):=g.2 i u (by rw[<-Ti];exact hu);have(z,hz,_):=Iw m he;rw[hz]at t;have(rfl,rfl):=Sm (Ng t);exact Ab M
 exact#[.ref s.heap.objs.size,_,I.laid (t':=U) (a:=s.heap.objs.size) (o:=.lst (kvs.map λe=>kV e.1)) hk (i5 _) (show eM X.prog X.w _ _ _ (.lst (kvs.map λe=>kV e.1))from#[by rw[bM];exact C,d.toList,c',hv,hD]),rfl,q _ (I.hok.fresh (i5 _))]
theorem Br {a b c:Str}(l:ltCps b.cps.toList a.cps.toList=false)(g:ltCps c.cps.toList b.cps.toList=false):ltCps c.cps.toList a.cps.toList=false:=by
 rw[ltCps_eq]at *;have e:a.cps.toList<=b.cps.toList:=by simpa using l
 have d:b.cps.toList<=c.cps.toList:=by simpa using g
 have:=List.le_trans e d
 simpa using this
theorem tS :∀(l:List Str) (p:Str),risingS p l=true->(p::l).Pairwise λa b=>ltCps b.cps.toList a.cps.toList=false
 | [],p,_=>QN _ _
 |x::r,p,h=>by
  have d:(!ltCps x.cps.toList p.cps.toList&&risingS x r)=true:=h;rw[NJ]at d;have e:=tS r x d.2;have g:ltCps x.cps.toList p.cps.toList=false:=by simpa using d.1
  refine Uj.mpr #[λb hb=>?_,e];rcases M8.mp hb with rfl|hb
  .exact g
  .exact Br g ((Uj.mp e).1 b hb)
theorem tT :∀{l:List Str},sortedS l=true->l.Pairwise λa b=>ltCps b.cps.toList a.cps.toList=false
 | [],_=>List.Pairwise.nil
 |x::r,h=>tS r x h
theorem yg (p:a.Perm b)(q:sortedS a=true)(o:sortedS b=true):a=b:=by
 refine List.Perm.eq_of_pairwise ?_ (tT q) (tT o) p;intro x y _ _ m l;rw[ltCps_eq]at m l;have g:x.cps.toList<=y.cps.toList:=by simpa using m
 have d:y.cps.toList<=x.cps.toList:=by simpa using l
 have e:=List.le_antisymm g d
 cases x
 cases y
 simp only at e
 congr
 exact Array.toList_inj.mp e
theorem zp (m:X.A.units+1<Rf):mK X (Ox .In) (λy x H Q=>∃a o,x=.ref a/\cu H a y o/\Q (.bl o.isSome) H):=by
 intro d s r H y x v u Q I e l h;have(a,o,rfl,g,q):=h;obtain rfl:u=Value.ref a:=l;exact Ln m I g e λt p=>#[.bl o.isSome,H,p,rfl,q]
theorem jS (m:X.A.units+1<Rf):mK X (Ox .NotIn) (λy x H Q=>∃a o,x=.ref a/\cu H a y o/\Q (.bl (!o.isSome)) H):=by
 intro d s r H y x v u Q I e l h;have(a,o,rfl,g,q):=h;obtain rfl:u=Value.ref a:=l;exact EB m I g e λt p=>#[.bl (!o.isSome),H,p,rfl,q]
theorem Bs (K:bN)(B:X.K=K):iQ X (.builtin "isinstance") (λxs H Q=>∃x,xs=[x,.ty "tuple"]/\((∃p ys,x=.ref p/\cH K H p ys/\Q (.bl true) H)\/(∃z,x=.str z/\Q (.bl false) H)\/∃z,x=.int z/\Q (.bl false) H)):=by
 subst B;intro e s C H xs D Q I r h;have(x,rfl,h):=h;have(u,g,rfl,d,r2):=vals2 r;obtain rfl:g=Value.type "tuple":=r2;rcases h with⟨p,ys,rfl,hq,q⟩|⟨z,rfl,q⟩|⟨z,rfl,q⟩
 .obtain rfl:u=Value.ref p:=d;have(m,G,l,J):=I.tuple hq;have(o,v,y,n,hd):=l;exact IsiPair.tuple_tuple v y #[.bl true,H,I,rfl,q]
 .have(t,rfl):=d;exact IsiPair.str_tuple #[.bl false,H,I.tok _,rfl,q]
 .have(t,rfl):=d;exact IsiPair.int_tuple #[.bl false,H,I.tok _,rfl,q]
end L2
namespace G14
open PySem L2
def Af(K:bN):Sp:=λe H Q _=>∃(v:V) (k:Kk),e=[v]/\Rp K H (jJ k) v/\∀d,Rp K H (jJ k.core) d->Q d H
def ql(K:bN):Sp:=λz H Q _=>∃(y:Hp) (S:mF) (m:Kl) (r:List (Str×Str×Nat)) (u:List (Str×Nat)) (t o:List Int) (v:V) (k:Kk) (q:Bool) (d:Addr),z=[.ref d,v,.bl q]/\eG y S m r u t o H/\S.d=d/\Rp K H (jJ k) v/\o.length<=100 /\
 (q=true->∀g e,aT H e->mO e ((iC (m.map (·.1)) k).map λn=>(.nn,n)) g->Q g e) /\
 (q=false->(∀f,fM (m.map (·.1)) o k=.error f->∀g e,aT H e->mO e (some f) g->(∀p,g=.ref p->H p=none)->Q g e)/\(∀l,fM (m.map (·.1)) o k=.ok l->∀e,eG y S m r u t l e->iA S H e->Q .eN e))
theorem wG :∀{kl:Kl}{kvs:List (Key×V)},Paired (KY S H) kl kvs->(cX kvs (Sum.inr x)).isSome=decide (x∈kl.map (·.1))
 |_,_,.nil=>rfl
 |k::r,_,.cons ⟨l,e,_⟩ t=>by
  subst e
  by_cases h:k.1=x
  .rw[fJ (show(Sum.inr k.1:Key)=Sum.inr x by rw[h]),Nr,decide_eq_true (by rw[h];exact OF)];rfl
  .rw[fK (λz=>h (Oq z)),wG t,Nr];have:(x∈k.1::r.map (·.1))↔x∈r.map (·.1):=by rw[M8];exact or_iff_right (λz=>h z.symm)
   exact(decide_eq_decide.mpr this).symm
theorem jf :Nm V6 (ak iw):=by decide
theorem tU :Lm V6 (ak iw):=by decide
theorem nJ :aZ V6 V6 (ak iw):=#[rfl,rfl,rfl,by decide,rfl,by decide,by decide]
theorem C5 (F:jr K "_law_leaf_kind" "_law_leaf_kind" iw f I)(e:mg "tuple"=none)(d:mg "isinstance"=none):cA P w K mg base gy 1 f I V6 (Af K):=by
 refine F.ok nJ (λL H Q E h=>?_) (λcdv A outer s H L Q E hr h=>?_)
 .have(_,_,rfl,_):=h;rfl
 have(v,z,rfl,M,k):=h;refine#[_,(Z5 (@sE _ _ _ _ _ _ NC (PW.pt (@gz _ _ _ _ _ _ _ (@sC _ _ _ (Z2 (Bs K rfl) d Ow (Z1 (va jf 0) (Zd (zG (v:=.ty "tuple") (by left) e (by decide) rfl)))) (by intro _;rfl)) (@fz _ _ _ _ (Zi bV (Z8 aP (va jf 0)) aH (bG _))))) (Ze (Z4 nJ.nd tU 0 (Z8 aP (va jf 0))))) (Ze (cI (va jf 0)))),?_]
 right
 right
 refine#[λm C p=>p=H/\∃(v:V) (o:Kk),C=[some v]/\Rp K H (jJ o) v/\o.dep=m/\o.core=z.core,#[z.dep,rfl,v,z,rfl,M,rfl,rfl],?_];rintro m C p ⟨rfl,v,o,rfl,l,O,y⟩
 cases o with
 |num =>
  obtain rfl:=(show Rp K p (.s "num") v from l).aJ;have fin:=k _ (by rw[<-y];exact l);ext;refine .inr (.inl #[_,rfl,?_]);ext;exact fin
 |kd x =>
  have fin:=k _ (by rw[<-y];exact l);have(G,o,r,rfl,g,u,B):=(show Rp K p (.t [.s "kind",.s x]) v from l).t2;obtain rfl:=u.aJ;ext;refine .inl #[_,_,rfl,g,?_];ext;exact fin
 |op n =>
  have fin:=k _ (by rw[<-y];exact l);have(G,o,r,rfl,g,u,B):=(show Rp K p (.t [.s "open",.i n]) v from l).t2;obtain rfl:=u.aJ;ext;refine .inl #[_,_,rfl,g,?_];ext;exact fin
 |row r =>
  have(G,T,D,rfl,g,u,B):=(show Rp K p (.t [.s "row",jJ r]) v from l).t2;obtain rfl:=u.aJ;ext;refine .inl #[_,_,rfl,g,?_];ext;refine cg (λ_=>?_) (λc=>absurd (by decide) c);refine#[λq J=>J=p/\q=[some D],λq J ⟨S,R⟩=>#[r.dep,by rw[<-O];exact O1 _,S,D,r,R,B,rfl,y],?_];ext;rfl
theorem bT :Nm VJ (ak gQ):=by decide
theorem rN :Lm VJ (ak gQ):=by decide
theorem mG :aZ VJ Vu (ak gQ):=#[rfl,rfl,rfl,by decide,rfl,by decide,by decide]
theorem C6 (F:jr K "_law_kind_fault" "_law_kind_fault" gQ f fd)(U:eL P w K mg base "_law_leaf_kind" 1 V6 (Af K) gL lfd):cA P w K mg base gy 2 f fd Vu (ql K):=by
 refine F.ok mG (λvs H Q E h=>?_) (λcdv A outer s H vs Q E hr h=>?_)
 .have(_,_,_,_,_,_,_,_,_,_,_,rfl,_):=h;rfl
 have(H0,S,D,tg,ds,gs,g,v,q,J,d,rfl,m,rfl,r,lo,L,I):=h;refine#[_,(Z5 (Z4 mG.nd rN 3 (Z0 U (Zd (va bT 1)))) (Z5 (Zb (PW.pt (@gz _ _ _ _ _ _ _ (Zi bV (Z8 mV (va bT 3)) aH (bG _)) (@fz _ _ _ _ (Zi (jS (gE hr)) (Z8 aP (va bT 3)) (Zk (va bT 0)) (by with_unfolding_all rfl))))) (Ze (Zv (Zu (Z1 aH (Z1 (Z8 aP (va bT 3)) aA)))))) (Z5 (Zb (Zi pK (Z8 mV (va bT 3)) aH (bG _)) (b7 (cI gv))) (Z5 (Zb (sC (va bT 2)) (Ze (Zv (Zu (dc aH (Zd aH)))))) (Z5 (Zb (Zi gq (Z8 aP (va bT 3)) (Zk (va bT 0)) (by with_unfolding_all rfl)) (Ze (Zv (Zu (dc aH (Zd aH)))))) (Z5 (Zo (Z6 (Zk (va bT 0)) (Z1 (Z8 aP (va bT 3)) aA))) (b7 (cI gv)))))))),?_]
 right
 right
 ext;intro l y;have gk:=fh m.sd (nI S);have go:=fh m.sd (C4 S);have ho:=m.ho;have aa:bQ K H S.lo (g.map V.int):=bQ.of m.ho
 have same:∀f,fM (D.map (·.1)) g q=.error f->(J=true->iC (D.map (·.1)) q=some f.2/\f.1=.nn)->∀l G,aT H G->mO G (some f) l->(∀p,l=.ref p->H p=none)->Q l G:=λf he hf l G Y ft fp=>by
  cases J with
  |false=>exact(I rfl).1 f he l G Y ft fp
  |true =>
   have(h1,h2):=hf rfl;refine L rfl l G Y ?_;rw[h1];have(f1,f2):=f
   cases h2
   exact ft
 cases ec:q.core with
 |row j=>exact absurd ec (q.rT j)
 |num =>
  rw[ec]at y;have B:∀{Q:VK},Q (.str "n") H->GF K l (.int 0) H Q:=λh=>core0 y h
  have fin:Q .eN H:=by
   cases J with
   |false=>exact(I rfl).2 g (by unfold fM;rw[ec]) H m (iA.refl _ _)
   |true=>exact L rfl _ H (aT.refl _) (by unfold iC;rw[ec];rfl)
  ext;refine B ?_;ext;refine B ?_;ext;exact fin
 |kd x =>
  rw[ec]at y;have B:∀{Q:VK},Q (.str "kind") H->GF K l (.int 0) H Q:=λh=>core0 y h;have(ka,w1,w2,rfl,O,T,R):=(show Rp K H (.t [.s "kind",.s x]) l from y).t2;obtain rfl:=T.aJ;obtain rfl:=R.aJ;have a1:eK [V.str "kind",.str x] 1=some (.str x):=aG (j:=1) rfl;have dg:cu H S.dk (.str x) (cX S.kv (Sum.inr x)):=cu.k (k:=Sum.inr x) m.hk;have W:(cX S.kv (Sum.inr x)).isSome=decide (x∈D.map (·.1)):=wG m.ke;ext;refine B ?_;ext;refine cg (λM=>?_) (λM=>?_)
  .have o:x∉D.map (·.1):=λz=>by
    rw[W,decide_eq_true z]at M
    cases M
   ext;intro p C;exact same (.nn,x) (by unfold fM;rw[ec];dsimp only;rw[if_neg o]) (λ_=>#[by unfold iC;rw[ec];dsimp only;rw[if_neg o],rfl]) _ _ (ae C _) #[p,rfl,af] (λ_ z=>V.ref.inj z▸C)
  .have o:x∈D.map (·.1):=by
    by_cases z:x∈D.map (·.1)
    .exact z
    .exact absurd (by rw[W,decide_eq_false z];rfl) M
   have fin:Q .eN H:=by
    cases J with
    |false=>exact(I rfl).2 g (by unfold fM;rw[ec];dsimp only;rw[if_pos o]) H m (iA.refl _ _)
    |true=>exact L rfl _ H (aT.refl _) (by unfold iC;rw[ec];dsimp only;rw[if_pos o];rfl)
   ext;refine B ?_;ext;exact fin
 |op n =>
  rw[ec]at y;have B:∀{Q:VK},Q (.str "open") H->GF K l (.int 0) H Q:=λh=>core0 y h;have(ka,w1,w2,rfl,O,T,R):=(show Rp K H (.t [.s "open",.i n]) l from y).t2;obtain rfl:=T.aJ;obtain rfl:=R.jI;have a1:eK [V.str "open",.int n] 1=some (.int n):=aG (j:=1) rfl;have fl:=qM g;have Z:=sZ (n:=n) (ns:=g);have ll:(g.map V.int).length<mH:=bq (by rw[bM];omega);ext;refine B ?_;ext;refine B ?_;ext
  cases J with
  |true =>
   ext;intro p C;exact L rfl _ _ (ae C _) (by unfold iC;rw[ec];exact#[p,rfl,af])
  |false =>
   ext;refine cg (λc=>?_) (λc=>?_)
   .have o:n∈g:=by
     have c':oj (.int n) (g.map V.int)=true:=c;rw[Z]at c';exact of_decide_eq_true c'
    ext;intro p C;exact(I rfl).1 (.tw,"?") (by unfold fM;rw[ec];dsimp only;rw[if_pos o]) _ _ (ae C _) #[p,rfl,af] (λ_ z=>V.ref.inj z▸C)
   .have o:n∉g:=λz=>c (by show oj (.int n) (g.map V.int)=true;rw[Z];exact decide_eq_true z);have fin:=(I rfl).2 (g++[n]) (by unfold fM;rw[ec];dsimp only;rw[if_neg o]) _ (m.C0 (g++[n])) (λb u n1 n2 n3 n4 n5 e=>by rw[au n4];exact e);rw[lj]at fin;ext;exact fin
noncomputable def rG(kl:Kl):List (Str×Str×Nat):=(tl kl).map λx=>(x.1,x.2.1,x.2.2.length)
theorem jN (kl:Kl):(rG kl).map (·.1)=je kl:=by
 unfold rG;rw[NZ,<-oZ];rfl
theorem C7 (l:Kl)(k:Str×List (Str×List Kk)):rG (l++[k])=rG l++k.2.map λt=>(t.1,k.1,t.2.length):=by
 unfold rG;rw[rV,lj,NZ];rfl
theorem wH :∀{l:List (Str×Str×Nat)}{kvs:List (Key×V)},Paired (Iu H) l kvs->(cX kvs (Sum.inr x)).isSome=decide (x∈l.map (·.1))
 |_,_,.nil=>rfl
 |k::r,_,.cons ⟨l,e,_⟩ t=>by
  subst e
  by_cases h:k.1=x
  .rw[fJ (show(Sum.inr k.1:Key)=Sum.inr x by rw[h]),Nr,decide_eq_true (by rw[h];exact OF)];rfl
  .rw[fK (λz=>h (Oq z)),wH t,Nr];have:(x∈k.1::r.map (·.1))↔x∈r.map (·.1):=by rw[M8];exact or_iff_right (λz=>h z.symm)
   exact(decide_eq_decide.mpr this).symm
theorem Iz (p:Paired (Iu H) l kvs)(h:x∉l.map (·.1)):∀g∈kvs,g.1≠Sum.inr x:=λg d z=>by
 have(n,o):=NR d;have(y,m,q,e,_):=Paired.getL p o;rw[e]at z;exact h (by rw[<-Oq z];exact NT (M9 m))
theorem IA (p:Paired (KY S H) l kvs)(h:x∉l.map (·.1)):∀g∈kvs,g.1≠Sum.inr x:=λg d z=>by
 have(n,o):=NR d;have(y,m,q,e,_):=Paired.getL p o;rw[e]at z;exact h (by rw[<-Oq z];exact NT (M9 m))
def yh(K:bN):Sp:=λo H Q _=>∃(l:Hp) (S:mF) (v:V) (g:Kl) (d:Addr),o=[.ref d,v]/\eG l S [] [] [] [] [] H/\S.d=d/\Rp K H (.t (g.map gZ)) v/\wY g /\
 (∀f,cQ [] [] g=some f->∀m e,rW l S 0 e->iA S H e->mO e (some f) m->Q m e) /\
 (cQ [] [] g=none->∀kv e,eG l {S with kv:=kv} g (rG g) [] [] [] e->iA S H e->Q .eN e)
structure LY(H0:Hp) (S:mF) (kl:Kl) (i:Nat) (H:Hp) (kv:List (Key×V)) (H2:Hp):Prop where
 k:eG H0 {S with kv:=kv} (kl.take i) (rG (kl.take i)) [] [] [] H2
 t:iA S H H2
 e:cQ [] [] kl=cQ ((kl.take i).map (·.1)) (je (kl.take i)) (kl.drop i)
 d1:cJ [] ((kl.take i).map (·.1))=none
 d2:cJ [] (je (kl.take i))=none
structure MV(H0:Hp) (S:mF) (kn:Kl) (tg:List (Str×Str×Nat)) (kd:Str×List (Str×List Kk)) (j:Nat) (H:Hp) (H2:Hp):Prop where
 k:eG H0 S kn (tg++(kd.2.take j).map λt=>(t.1,kd.1,t.2.length)) [] [] [] H2
 t:iA S H H2
 e:gi (kn.map (·.1)) (tg.map (·.1)) kd.2=gi (kn.map (·.1)) (tg.map (·.1)++(kd.2.take j).map (·.1)) (kd.2.drop j)
 d:cJ [] (tg.map (·.1)++(kd.2.take j).map (·.1))=none
theorem aU :Nm Vj (ak eS):=by decide
theorem ez :Lm Vj (ak eS):=by decide
theorem dh :aZ Vj V3 (ak eS):=#[rfl,rfl,rfl,by decide,rfl,by decide,by decide]
theorem Bt (F:jr K "_law_kinds_fault" "_law_kinds_fault" eS f fd)(bo:eL P w K mg base "_law_kind_fault" 2 Vu (ql K) gF ffd)(ag:mg "len"=none):cA P w K mg base gy 3 f fd V3 (yh K):=by
 refine F.ok dh (λvs H Q E h=>?_) (λcdv A outer s H vs Q E hr h=>?_)
 .have(_,_,_,_,_,rfl,_):=h;rfl
 have(H0,S,v,kl,d,rfl,sc,rfl,r,hB,kf,ko):=h;refine#[_,(Z5 (Zh NC (cz (va aU 1)) (Z9 (2) (Zf (ga dh.nd ez 2) (Zt (ga dh.nd ez 3)))) (Z5 (Zb (Zi (zp (gE hr)) (va aU 2) (Zk (va aU 0)) (by with_unfolding_all rfl)) (Ze (Zv (Zu (Z1 aH (Zd (va aU 2))))))) (Z5 (Zh NC (cz (va aU 3)) (Z9 (2) (Zf (ga dh.nd ez 4) (Zt (ga dh.nd ez 5)))) (Z5 (Zb (Zi (zp (gE hr)) (va aU 4) (Zk (va aU 0)) (by with_unfolding_all rfl)) (Ze (Zv (Zu (Z1 aH (Zd (va aU 4))))))) (Z5 (@pU _ _ _ _ _ _ _ _ _ (gE hr) (Zk (va aU 0)) (va aU 4) (Zm (Z1 (va aU 2) (Z1 (Z2 aL ag Nh (Zd (va aU 5))) aA))) (by rfl)) (Ze (Zh NC (cz (va aU 5)) (ga dh.nd ez 6) (Z5 (Z4 dh.nd ez 7 (Z0 bo (Z1 (va aU 0) (dc (va aU 6) (Zd mS))))) (Ze (Zb (Zp rQ (va aU 7) gv) (Ze (cI (va aU 7))))))))))) (Ze (@pU _ _ _ _ _ _ _ _ _ (gE hr) (Zk (va aU 0)) (va aU 2) (Zg (ak eS) Vj Vy [] (cz (va aU 3)) (λ_ _ _ _=>(Z9 (2) (Zf (Z3 (i:=0) (show(Vy:List Str).Nodup by decide)) (Zt (Z3 (i:=1) (show(Vy:List Str).Nodup by decide)))))) (λ_ _ _ _=>(va (show Nm Vy _ by left) 0))) (by rfl)))))) (b7 (cI gv))),?_]
 right
 right
 have(a,us,rfl,sq,rs):=r.aS;have ba:=rs.length;rw[bM]at ba;ext;refine eY (K:=K) (xs:=us) (λi B H2=>(∃y2 y3 y4 y5 y6 y7,B=[some (.ref S.d),some (.ref a),y2,y3,y4,y5,y6,y7])/\∃kv,LY H0 S kl i H kv H2) #[#[_,_,_,_,_,_,rfl],S.kv,sc,iA.refl _ _,rfl,rfl,rfl] ?_ ?_ ?_
 .rintro i B H2 hi ⟨_,kv,o⟩;exact sq.kt (sc.uA o.t)
 .rintro i xv B H2 hxv ⟨⟨_,_,_,_,_,_,rfl⟩,kv,o⟩;have(t,T,rx):=rs.get' hxv;rw[EF]at T;have(kd,ac,rfl):=xn.mp T;have bk:=(bH.mp ac).1;have Y:kl.take (i+1)=kl.take i++[kd]:=by rw[mu bk,(bH.mp ac).2]
  have(bu,bl):=hB.2 kd (M9 ac);have e2:=o.e;rw[tM ac,kZ o.d1]at e2;have ab:=sc.uA o.t;have(ka,k1,k2,rfl,bf,q1,q2):=(show Rp K H (.t [.s kd.1,.t (kd.2.map kK)]) xv from rx).t2;obtain rfl:=q1.aJ;have bp:=bf.kt ab;have(aw,J,rfl,av,al):=q2.aS;have bc:=al.length;rw[bM]at bc;have b0:cu H2 S.d (.str "kinds") (some (.ref S.dk)):=fh o.k.sd (nI _);have b2:cu H2 S.dk (.str kd.1) (cX kv (Sum.inr kd.1)):=cu.k (k:=Sum.inr kd.1) o.k.hk;have aj:(cX kv (Sum.inr kd.1)).isSome=decide (kd.1∈(kl.take i).map (·.1)):=wG o.k.ke;generalize hah:(kl.take i).map (·.1)=ah at e2 aj;ext;refine cg (λc=>?_) (λc=>?_)
  .have hm:kd.1∈ah:=by rw[aj]at c;exact of_decide_eq_true c
   rw[if_pos hm]at e2;ext;intro p hp;have s3:=ae hp (.lst [.str "twice",.str kd.1]);exact kf _ e2 _ _ (rW.ext #[sc.n,o.k.sm,o.k.sd,(o.k.w (n:=0) (i5 _)).hd] s3) (o.t.same s3) #[p,rfl,af]
  have hm:kd.1∉ah:=λz=>c (by rw[aj];exact decide_eq_true z);rw[if_neg hm]at e2
  have R:cQ [] [] kl=match gi ah (je (kl.take i)) kd.2 with
    |some f=>some f
    |none=>cQ (ah++[kd.1]) (je (kl.take i)++kd.2.map (·.1)) (kl.drop (i+1)):=e2
  have as:=av.kt ab;ext;refine eY (K:=K) (xs:=J) (λj B I=>(∃y4 y5 y6 y7,B=[some (.ref S.d),some (.ref a),some (.str kd.1),some (.ref aw),y4,y5,y6,y7])/\MV H0 {S with kv:=kv} (kl.take i) (rG (kl.take i)) kd j H2 I) #[#[_,_,_,_,rfl],?_,iA.refl _ _,?_,?_] ?_ ?_ ?_
  .rw[PZ,OS,Ny];exact o.k
  .rw[PZ,OS,Ny];rfl
  .rw[PZ,OS,Ny,jN];exact o.d2
  .rintro j B I hj ⟨_,y⟩;exact as.kt (o.k.uA y.t)
  .rintro j yv B I hyv ⟨⟨_,_,_,_,rfl⟩,y⟩;have(t,T,ry):=al.get' hyv;rw[EF]at T;have(g,D,rfl):=xn.mp T;have an:=(bH.mp D).1;have Z:kd.2.take (j+1)=kd.2.take j++[g]:=by rw[mu an,(bH.mp D).2]
   have bt:=bl g (M9 D);have e3:=y.e;rw[u9 D,kZ y.d]at e3;have L:=ab.trans (o.k.uA y.t);have(ga,w1,w2,rfl,ao,p1,p2):=(show Rp K H (.t [.s g.1,.t (g.2.map jJ)]) yv from ry).t2;obtain rfl:=p1.aJ;have(ia,M,rfl,bg,a2):=p2.aS;have az:=a2.length;rw[bM]at az;have a4:=ao.kt L;have a0:=bg.kt L;have bw:cu I S.d (.str "tags") (some (.ref S.dt)):=fh y.k.sd (lW _);have(tv,am,aa):=y.k.ht;have br:I S.dt=some (.dK tv):=am;have b1:cu I S.dt (.str g.1) (cX tv (Sum.inr g.1)):=cu.k (k:=Sum.inr g.1) am;have aq:(rG (kl.take i)++(kd.2.take j).map λt=>(t.1,kd.1,t.2.length)).map (·.1)=(rG (kl.take i)).map (·.1)++(kd.2.take j).map (·.1):=by rw[lj,NZ];rfl
   have ai:(cX tv (Sum.inr g.1)).isSome=decide (g.1∈(rG (kl.take i)).map (·.1)++(kd.2.take j).map (·.1)):=by rw[wH aa,aq]
   have w3:∀{C:Hp},aT I C->rW H0 S 0 C:=λ{C} G=>rW.ext #[sc.n,y.k.sm,y.k.sd,(y.k.w (n:=0) (i5 _)).hd] G;have ax:iA S H I:=o.t.trans y.t;rw[jN]at e3 ai aq;rw[hah]at e3;ext;refine cg (λc=>?_) (λc=>?_)
   .have U:g.1∈je (kl.take i)++(kd.2.take j).map (·.1):=by rw[ai]at c;exact of_decide_eq_true c
    rw[if_pos U]at e3;rw[e3]at R;ext;intro p hp;have G:=ae hp (.lst [.str "twice",.str g.1]);exact kf _ R _ _ (w3 G) (ax.same G) #[p,rfl,af]
   have U:g.1∉je (kl.take i)++(kd.2.take j).map (·.1):=λz=>c (by rw[ai];exact decide_eq_true z);rw[if_neg U]at e3
   have O:gi ah (je (kl.take i)) kd.2=match fR (iC ah) g.2 with
    |some n=>some (.nn,n)
    |none=>gi ah (je (kl.take i)++(kd.2.take j).map (·.1)++[g.1]) (kd.2.drop (j+1)):=e3
   ext;intro p4 bi;have G:=ae bi (.tup [.str kd.1,.int M.length]);have h4:upd I p4 (.tup [.str kd.1,.int M.length]) p4=some (.tup [.str kd.1,.int M.length]):=af;generalize upd I p4 (.tup [.str kd.1,.int M.length])=C at G h4|-;rw[az]at h4;have k4:=y.k.ext G;have a5:Paired (Iu C) (rG (kl.take i)++(kd.2.take j).map λt=>(t.1,kd.1,t.2.length)) tv:=Paired.imp' (λk e ⟨l,e1,e2⟩=>#[l,e1,G _ _ e2]) aa;have a3:C S.dt=some (.dK tv):=G _ _ am;have a7:∀kv∈tv,kv.1≠Sum.inr g.1:=Iz aa (by rw[aq];exact U);have bv:cu C S.d (.str "tags") (some (.ref S.dt)):=fh k4.sd (lW _)
   have bb:tv.length<mH:=by
    have e1:=aa.length;have e5:=qi (kl:=kl.take i) #[Nu (Tz _ _) hB.1,λx hx=>hB.2 x (N9 hx)];rw[i4,bM,L1,<-bM (f:=(·.1)),jN]at e1;exact bq ()
   have dp:om C S.dt (.str g.1) (.ref p4) (upd C S.dt (.dK (tv++[(Sum.inr g.1,.ref p4)]))):=by
    have:=om.k (k:=Sum.inr g.1) (v:=.ref p4) a3 bb;rw[lV a7]at this;exact this
   have k5:=k4.LF (x:=(g.1,kd.1,g.2.length)) a3 a5 h4;have t5:iA S I (upd C S.dt (.dK (tv++[(Sum.inr g.1,.ref p4)]))):=λb u n1 n2 n3 n4 n5 e=>by rw[au n2];exact G _ _ e
   have ad:=a0.kt (y.k.uA t5);ext;generalize upd C S.dt (.dK (tv++[(Sum.inr g.1,.ref p4)]))=H5 at k5 t5 ad|-;have a1:=(a2.kt L).kt (y.k.uA t5);refine eY (K:=K) (xs:=M) (λm B H6=>(∃y6 y7,B=[some (.ref S.d),some (.ref a),some (.str kd.1),some (.ref aw),some (.str g.1),some (.ref ia),y6,y7])/\aT H5 H6/\fR (iC ah) g.2=fR (iC ah) (g.2.drop m)) #[#[_,_,rfl],aT.refl _,rfl] ?_ ?_ ?_
   .rintro m B H6 hm6 ⟨_,s6,_⟩;exact ad.same s6
   .rintro m zv B H6 hzv ⟨⟨_,_,rfl⟩,s6,e6⟩;have(t,T,rz):=a1.get' hzv;rw[EF]at T;have(q,hq,rfl):=xn.mp T;rw[tL hq]at e6;have k6:=k5.ext s6;have bs:=rz.same s6;have l0:([]:List Int).length<=100:=Nn _;ext
    rotate_left
    .exact λz=>nomatch z
    intro _ v7 H7 s7 W;rw[hah]at W
    cases ek:iC ah q with
    |none =>
     rw[ek]at W e6;obtain rfl:v7=.eN:=W;ext
     .exact s6.trans s7
     .exact e6
    |some n =>
     rw[ek]at W e6;have(p7,rfl,bh):=W;rw[e6]at O;rw[O]at R;have k7:=k6.ext s7;have fin:=kf _ R (.ref p7) H7 #[sc.n,k7.sm,k7.sd,(k7.w (n:=0) (i5 _)).hd] ((ax.trans t5).same (s6.trans s7)) #[p7,rfl,bh];ext;exact fin
   .rintro B H6 ⟨⟨_,_,rfl⟩,s6,e6⟩;rw[show M.length=g.2.length by omega,NH]at e6;rw[e6]at O;have bm:gi ah (je (kl.take i)) kd.2=gi ah (je (kl.take i)++(kd.2.take j).map (·.1)++[g.1]) (kd.2.drop (j+1)):=O;refine#[#[_,_,_,_,rfl],?_,y.t.trans (iA.same t5 s6),?_,?_]
    .rw[Z,lj,<-Oa];exact k5.ext s6
    .rw[Z,lj,jN,hah,<-Oa];exact bm
    .rw[Z,lj,jN,<-Oa];have:=kZ (x:=g.1) y.d;rw[jN,if_neg U]at this;exact this
  .rintro B I ⟨⟨_,_,_,_,rfl⟩,y⟩;have e3:=y.e;rw[show J.length=kd.2.length by omega,Nl,NH,jN,hah]at e3;have O:gi ah (je (kl.take i)) kd.2=none:=e3;rw[O]at R;have d3:=y.d;rw[show J.length=kd.2.length by omega,Nl,jN]at d3;have k3:=y.k;rw[show J.length=kd.2.length by omega,Nl]at k3;have L:=ab.trans (o.k.uA y.t);have ar:=av.kt L;have bz:cu I S.d (.str "kinds") (some (.ref S.dk)):=fh k3.sd (nI _);ext;refine gb (K:=K) (xs:=J) (λj B vs C=>(∃y1 y2,B=[y1,y2])/\C=I/\vs=(kd.2.take j).map λt=>V.str t.1) #[#[_,_,rfl],rfl,rfl] ?_ (small ()) ?_ ?_ ?_
   .rintro j B vs C hj ⟨_,_,rfl⟩;rw[bM,L1];omega
   .rintro j B vs C hj ⟨_,rfl,_⟩;exact ar
   .rintro j yv B vs C hyv ⟨⟨_,_,rfl⟩,rfl,rfl⟩;have(t,T,ry):=al.get' hyv;rw[EF]at T;have(g,D,rfl):=xn.mp T;have an:=(bH.mp D).1;have Z:kd.2.take (j+1)=kd.2.take j++[g]:=by rw[mu an,(bH.mp D).2]
    have(ga,w1,w2,rfl,ao,p1,p2):=(show Rp K H (.t [.s g.1,.t (g.2.map jJ)]) yv from ry).t2;obtain rfl:=p1.aJ;have a4:=ao.kt L;ext;rw[Z,lj];rfl
   .rintro B vs C ⟨_,rfl,rfl⟩ l hl;rw[show J.length=kd.2.length by omega,Nl];have G:=ae hl (.lst (kd.2.map λt=>V.str t.1));have h4:upd C l (.lst (kd.2.map λt=>V.str t.1)) l=some (.lst (kd.2.map λt=>V.str t.1)):=af;have a9:l≠S.lg:=(ay k3.hg hl).symm;have a8:l≠S.lo:=(ay k3.ho hl).symm;generalize upd C l (.lst (kd.2.map λt=>V.str t.1))=H5 at G h4|-;have k5:=k3.ext G;have bx:cu H5 S.d (.str "kinds") (some (.ref S.dk)):=fh k5.sd (nI _);have a6:∀e∈kv,e.1≠Sum.inr kd.1:=IA o.k.ke (by rw[hah];exact hm)
    have be:kv.length<mH:=by
     have e1:=o.k.ke.length;have bn:(kl.take i).length=kv.length:=e1;rw[L1]at bn;have:=hB.1;exact bq ()
    have dp:om H5 S.dk (.str kd.1) (.ref l) (upd H5 S.dk (.dK (kv++[(Sum.inr kd.1,.ref l)]))):=by
     have:=om.k (k:=Sum.inr kd.1) (v:=.ref l) k5.hk be;rw[lV a6]at this;exact this
    have k6:=k5.LG (k:=kd) h4 a9 a8
    have fin:LY H0 S kl (i+1) H (kv++[(Sum.inr kd.1,.ref l)]) (upd H5 S.dk (.dK (kv++[(Sum.inr kd.1,.ref l)]))):=by
     refine#[?_,λb u n1 n2 n3 n4 n5 e=>?_,?_,?_,?_]
     .rw[Y,C7];exact k6
     .rw[au n1];exact G _ _ (y.t b u n1 n2 n3 n4 n5 (o.t b u n1 n2 n3 n4 n5 e))
     .have ap:je (kl.take (i+1))=je (kl.take i)++kd.2.map (·.1):=by rw[Y];unfold je;rw[NQ];simp
      rw[ap,Y,lj,hah];exact R
     .rw[Y,lj,hah];have:=kZ (x:=kd.1) o.d1;rw[hah,if_neg hm]at this;exact this
     .have ap:je (kl.take (i+1))=je (kl.take i)++kd.2.map (·.1):=by rw[Y];unfold je;rw[NQ];simp
      rw[ap];exact d3
    ext;exact fin
 .rintro B H2 ⟨_,kv,o⟩;have e2:=o.e;rw[show us.length=kl.length by omega,NH]at e2;have k2:=o.k;rw[show us.length=kl.length by omega,Nl]at k2;have fin:=ko e2 kv H2 k2 o.t;ext;exact fin
def yi(K:bN)(C y z cW:Addr):Sp:=λu H Q E=>∃(m:Hp) (v:V) (o:Addr) (a:qj) (l:Kl) (r:List (Str×Nat)) (q g:List Int) (e:List (Str×Kk)),u=[v,.ref o]/\Rp K H (.t (e.map wC)) v/\hU C m o a l r q g H/\e.length<=20/\g.length+e.length<=90 /\
 (∀f,cY (l.map (·.1)) [] g e=.error f->TF y z cW E m f)/\(∀d,cY (l.map (·.1)) [] g e=.ok d->∀p,hU C m o a l r q d p->j5 a H p->d.length<=g.length+e.length->Q .eN p)
structure LZ(C:Addr) (H0:Hp) (o:Addr) (a:qj) (kl:Kl) (ds:List (Str×Nat)) (gs os os':List Int) (ps:List (Str×Kk)) (i:Nat) (l1:Addr) (H H2:Hp):Prop where
 k:hU C H0 o a kl ds gs os' H2
 t:j5 a H H2
 h:H2 l1=some (.lst ((ps.take i).map λp=>V.str p.1))
 e:cY (kl.map (·.1)) [] os ps=cY (kl.map (·.1)) ((ps.take i).map (·.1)) os' (ps.drop i)
 d:cJ [] ((ps.take i).map (·.1))=none
 l:os'.length<=os.length+i
theorem Ag :∀{kl:Kl}{kvs:List (Key×V)},Paired (KW a H) kl kvs->(cX kvs (Sum.inr x)).isSome=decide (x∈kl.map (·.1))
 |_,_,.nil=>rfl
 |k::r,_,.cons ⟨l,e,_⟩ t=>by
  subst e
  by_cases h:k.1=x
  .rw[fJ (show(Sum.inr k.1:Key)=Sum.inr x by rw[h]),Nr,decide_eq_true (by rw[h];exact OF)];rfl
  .rw[fK (λz=>h (Oq z)),Ag t,Nr];have:(x∈k.1::r.map (·.1))↔x∈r.map (·.1):=by rw[M8];exact or_iff_right (λz=>h z.symm)
   exact(decide_eq_decide.mpr this).symm
theorem bU :Nm VM (ak iu):=by decide
theorem jg :Lm VM (ak iu):=by decide
theorem ic :aZ VM ["params","known"] (ak iu):=#[rfl,rfl,rfl,by decide,rfl,by decide,by decide]
theorem Bu (F:jr K "look_params" "look_params" iu f fd)(N:Jo K C)(LO:ou P w K mg base "look_once" 3 Wd (qO K cT) gO ofd)(M:ou P w K mg base "look_gap" 3 V5 (CS cT) gG gfd)(IM:eL P w K mg base "innermost" 1 ["kind"] (nC K) gI ifd)(g:BY P w K mg base "NoName" "name" cN fN dN):cA P w K mg base (xS P w) 4 f fd ["params","known"] (yi K C cT cN cW):=by
 refine F.E8 ic (λvs H Q E h=>?_) (λcdv A outer s H vs Q E hr h=>?_)
 .have(_,_,_,_,_,_,_,_,_,rfl,_):=h;rfl
 have(H0,v,o,a,R,ds,gs,os,G,rfl,r,Y,hp,ar,hE,k):=h;refine#[_,(Z5 (sa ic.nd jg 2 (dF aA)) (Ze (Zh (i9 rfl rfl rfl) (cz (va bU 0)) (Z9 (2) (Zf (ga ic.nd jg 3) (Zt (ga ic.nd jg 4)))) (Z5 (Zo (Z6 (va bU 2) (Zd (va bU 3)))) (Z5 (Zo (@eJ _ _ _ _ _ _ _ _ _ _ _ _ _ _ _ _ LO.ok (hr.mono ()) (by left) LO.at' LO.kp LO.bd .nil jz (Zd (va bU 2)) (by decide) (by rfl) (by rfl))) (Z5 (Z4 ic.nd jg 5 (Z0 IM (Zd (va bU 4)))) (Z5 (Zb (PW.pt (@gz _ _ _ _ _ _ _ (Zi bV (Z8 mV (va bU 5)) aH (bG _)) (@fz _ _ _ _ (Zi (jS (gE hr)) (Z8 aP (va bU 5)) (jV (va bU 1) rfl) (by with_unfolding_all rfl))))) (Ze (@gX _ _ _ _ _ rfl (@ja _ _ _ _ _ _ _ _ _ _ _ _ _ _ _ _ _ g.k g.ok (hr.mono ()) (by left) g.m g.bd .nil kT (Z1 (Z8 aP (va bU 5)) aA) (by decide) (by rfl) (by rfl))))) (Ze (Zb (Zi bV (Z8 mV (va bU 5)) aH (bG _)) (Ze (Zo (@eJ _ _ _ _ _ _ _ _ _ _ _ _ _ _ _ _ M.ok (hr.mono ()) (by left) M.at' M.kp M.bd .nil jz (Z1 (Z8 aP (va bU 5)) (Z1 (jV (va bU 1) rfl) aA)) (by decide) (by rfl) (by rfl))))))))))))),?_]
 right
 try dsimp only[qe,qf]
 have hc:=N.c;have n1:=N.kinds;have n6:=N.opens;have(pa,us,rfl,sq,rs):=r.aS;have ah:=rs.length;rw[bM]at ah;ext;intro l1 L;have s1:=ae L (.lst []);have h1:upd H l1 (.lst []) l1=some (.lst []):=af;generalize upd H l1 (.lst [])=H1 at s1 h1|-;have an:=sq.same s1;ext;refine eY (K:=K) (xs:=us) (λi σ I=>(∃y3 y4 y5,σ=[some (.ref pa),some (.ref o),some (.ref l1),y3,y4,y5])/\∃q,LZ C H0 o a R ds gs os q G i l1 H I) #[#[_,_,_,rfl],os,Y.ext s1,j5.of s1,h1,rfl,rfl,i5 _] ?_ ?_ ?_
 .rintro i σ I hi ⟨_,q,u⟩;exact sq.kt (Y.uA u.t)
 .rintro i xv σ I hxv ⟨⟨_,_,_,rfl⟩,q,u⟩;have(t,ht,rx):=rs.get' hxv;rw[EF]at ht;have(p,T,rfl):=xn.mp ht;have ak:=(bH.mp T).1;have aa:G.take (i+1)=G.take i++[p]:=by rw[mu ak,(bH.mp T).2]
  have B:=u.e;rw[rF T]at B;have d2:=kZ (x:=p.1) u.d;have k2:=Y.uA u.t;have(qa,v1,v2,rfl,ag,q1,q2):=(show Rp K H (.t [.s p.1,jJ p.2]) xv from rx).t2;obtain rfl:=q1.aJ;have am:=ag.kt k2;have h2:=u.h;have ai:((G.take i).map λp=>V.str p.1).length<mH:=bq (by rw[bM,L1];omega);generalize hnm:(G.take i).map (·.1)=nm at B d2;have ac:((G.take i).map λp=>V.str p.1)=nm.map V.str:=by rw[<-hnm,NZ];rfl
  rw[ac]at h2 ai;have aq:nm.length<=20:=by rw[<-hnm,bM,L1];omega
  have k3:=u.k.other Y L (.lst (nm.map V.str++[.str p.1]));have t3:j5 a H (upd I l1 (.lst (nm.map V.str++[.str p.1]))):=u.t.CC L _;have h3:upd I l1 (.lst (nm.map V.str++[.str p.1])) l1=some (.lst ((nm++[p.1]).map V.str)):=by rw[af];simp
  have ad:nU K false (upd I l1 (.lst (nm.map V.str++[.str p.1]))) l1 ((nm++[p.1]).map V.str):=bQ.of h3;have l3:(nm++[p.1]).length<=500:=by rw[i4];show _+1<=_;omega
  have oE:∀x,cJ [] (nm++[p.1])=some x->Told E (upd I l1 (.lst (nm.map V.str++[.str p.1]))) cT "name" (.str x):=λx hx=>by
   rw[d2]at hx
   by_cases c:p.1∈nm
   .rw[if_pos c]at hx B
    cases hx
    exact(hE _ B).same k3.sm
   .rw[if_neg c]at hx;cases hx
  ext;generalize upd I l1 (.lst (nm.map V.str++[.str p.1]))=H3 at k3 t3 h3 ad oE|-;intro U y s4;have c:p.1∉nm:=λc=>by rw[d2,if_pos c]at U;cases U
  rw[if_neg c]at B;have J:=k3.ext s4;have t4:=t3.same s4;have h4:=s4 _ _ h3;have r4:=q2.kt (Y.uA t4);ext;intro Z O;have al:((G.take (i+1)).map λp=>V.str p.1)=(nm++[p.1]).map V.str:=by rw[aa,lj,ac,lj];rfl
  have ab:(G.take (i+1)).map (·.1)=nm++[p.1]:=by rw[aa,lj,hnm];rfl
  have fin:∀D H5,fM (R.map (·.1)) q p.2=.ok D->D.length<=q.length+1->hU C H0 o a R ds gs D H5->j5 a y H5->H5 l1=some (.lst ((nm++[p.1]).map V.str))->LZ C H0 o a R ds gs os D G (i+1) l1 H H5:=λD H5 eo lo k5 t5 h5=>by
   refine#[k5,t4.trans t5,by rw[al];exact h5,?_,by rw[ab];exact U,by have:=u.l;omega];rw[eo]at B;rw[ab];exact B
  have as:=J.ins;have gk:=tP a;have go:=zm a
  cases ec:p.2.core with
  |row j=>exact absurd ec (p.2.rT j)
  |num =>
   rw[ec]at O;have f5:=fin q y (by unfold fM;rw[ec]) (Ot _) J (j5.refl _ _) h4;have S:∀{Q:VK},Q (.str "n") y->GF K Z (.int 0) y Q:=λh=>core0 O h;ext;refine S ?_;ext;refine S ?_;ext;exact f5
  |kd x =>
   rw[ec]at O;have S:∀{Q:VK},Q (.str "kind") y->GF K Z (.int 0) y Q:=λh=>core0 O h;have(ka,w1,w2,rfl,aj,g1,g2):=(show Rp K y (.t [.s "kind",.s x]) Z from O).t2;obtain rfl:=g1.aJ;obtain rfl:=g2.aJ;have a1:eK [V.str "kind",.str x] 1=some (.str x):=aG (j:=1) rfl;have dg:cu y a.dK (.str x) (cX a.kv (Sum.inr x)):=cu.k (k:=Sum.inr x) J.kk;have vk:(cX a.kv (Sum.inr x)).isSome=decide (x∈R.map (·.1)):=Ag J.ke;ext;refine S ?_;ext;refine cg (λc3=>?_) (λc3=>?_)
   .have W:x∉R.map (·.1):=λz=>by
     rw[vk,decide_eq_true z]at c3
     cases c3
    have tt:=(hE (.nn,x) (by rw[B];unfold fM;rw[ec];dsimp only;rw[if_neg W])).same J.sm;ext;exact gc g.c tt
   .have W:x∈R.map (·.1):=by
     by_cases z:x∈R.map (·.1)
     .exact z
     .exact absurd (by rw[vk,decide_eq_false z];rfl) c3
    have f5:=fin q y (by unfold fM;rw[ec];dsimp only;rw[if_pos W]) (Ot _) J (j5.refl _ _) h4;ext;refine S ?_;ext;exact f5
  |op n =>
   rw[ec]at O;have S:∀{Q:VK},Q (.str "open") y->GF K Z (.int 0) y Q:=λh=>core0 O h;have(ka,w1,w2,rfl,aj,g1,g2):=(show Rp K y (.t [.s "open",.i n]) Z from O).t2;obtain rfl:=g1.aJ;obtain rfl:=g2.jI;have a1:eK [V.str "open",.int n] 1=some (.int n):=aG (j:=1) rfl;have ao:=J.oo;have ap:q.length<=900:=by have:=u.l;omega
   have tw:n∈q->Told E y cT "name" (.str "?"):=λW=>(hE (.tw,"?") (by rw[B];unfold fM;rw[ec];dsimp only;rw[if_pos W])).same J.sm;ext;refine S ?_;ext;refine S ?_;ext;intro W;have f5:=fin (q++[n]) _ (by unfold fM;rw[ec];dsimp only;rw[if_neg W]) (by rw[i4];exact i5 _) (J.C0 (q++[n])) ((j5.refl a y).C0 _) (by rw[au (ay Y.oo L).symm];exact h4);exact#[#[_,_,_,rfl],_,f5]
 .rintro σ I ⟨_,q,u⟩;have B:=u.e;rw[show us.length=G.length by omega,NH]at B;exact k q B I u.k u.t (by have:=u.l;omega)
def wI(K:bN)(l cW:Addr):Sp:=λg H Q E=>∃(t:Str) (b d:Addr) (e:List V) (c:Option Nat),g=[.str t,.ref b,.ref d]/\cH K H b e/\cu H d (.str t) (c.map λ(n:Nat)=>V.int (n:Int)) /\
 (c=none->Told E H l "name" (.str t))/\(∀n,c=some n->e.length≠n->Told E H cW "name" (.str t))/\(∀n,c=some n->e.length=n->Q .eN H)
theorem fj :Nm VI (ak jM):=by decide
theorem uD :aZ VI VI (ak jM):=#[rfl,rfl,rfl,by decide,rfl,by decide,by decide]
theorem C8 (F:jr K "look_count" "look_count" jM f v)(l:BY P w K mg base "NoName" "name" cN fN dN)(g:BY P w K mg base "WrongCount" "name" cW fW dW)(o:mg "len"=none):cA P w K mg base (xS P w) 3 f v VI (wI K cN cW):=by
 refine F.E8 uD (λB H Q E h=>?_) (λcdv A outer s H B Q E hr h=>?_)
 .have(_,_,_,_,_,rfl,_):=h;rfl
 have(t,b,d,u,c,rfl,I,y,G,D,k):=h;refine#[_,(Z5 (Zb (nS (jS (gE hr)) (va fj 0) (va fj 2) (by with_unfolding_all rfl)) (Ze (@gX _ _ _ _ _ rfl (@ja _ _ _ _ _ _ _ _ _ _ _ _ _ _ _ _ _ l.k l.ok (hr.mono ()) (by left) l.m l.bd .nil kT (Zd (va fj 0)) (by decide) (by rfl) (by rfl))))) (Ze (Zb (Zi pK (Z2 aL o Nh (Zd (va fj 1))) (jL (gE hr) (va fj 2) (va fj 0) (λ_ _=>rfl)) (bG _)) (Ze (@gX _ _ _ _ _ rfl (@ja _ _ _ _ _ _ _ _ _ _ _ _ _ _ _ _ _ g.k g.ok (hr.mono ()) (by left) g.m g.bd .nil kT (Zd (va fj 0)) (by decide) (by rfl) (by rfl))))))),?_]
 right
 try dsimp only[qe,qf]
 cases c with
 |none =>
  have p:=G rfl;have r:cu H d (.str t) none:=y;ext;exact gc l.c p
 |some n =>
  have r:cu H d (.str t) (some (.int n)):=y;ext;refine cg (λc=>?_) (λc=>?_)
  .have p:=D n rfl (λz=>by rw[z]at c;simp at c);ext;exact gc g.c p
  .have e:u.length=n:=by
    by_cases z:u.length=n
    .exact z
    .exact absurd (by simpa using λq=>z (by exact_mod_cast q)) c
   ext;exact k n rfl e
def Ah(K:bN)(C u v cW:Addr):Sp:=λp H Q E=>∃(l:Hp) (b o:Addr) (a:qj) (e:Kl) (t:List (Str×Nat)) (r q:List Int) (d:List (Str×List Str)) (ks:List T) (g:List V),p=[.ref b,.ref o]/\cH K H b g/\bO K H (Og oV d ks) g/\d.length=ks.length/\d.length<=20/\(∀x∈d,x.2.length<=20) /\
 hU C l o a e t r q H/\wY e/\(je e).Nodup/\(∀f,gx e d=some f->TF u v cW E l f)/\(gx e d=none->∀m,aT H m->Q .eN m)
theorem Fp (h:∀x∈a,x.dep<=d):T.mZ a<=d:=by
 induction a with
 |nil=>exact Nn _
 |cons x r ih =>
  have l:=h x (.head _);have g:=ih λy e=>h y (.tail _ e);unfold T.mZ;omega
theorem Bv (xs:List Str):T.mZ (xs.map T.s)<=149:=Fp λx d=>by
 have(y,_,rfl):=ND.mp d;exact LU
theorem ve {d:Type}{p:d->Bool}{l:List d}{x:d}(h:l[i]?=some x):(l.drop i).find? p=if p x=true then some x else(l.drop (i+1)).find? p:=by
 have e:=(bH.mp h).1;have g:l.drop i=x::l.drop (i+1):=by rw[NF e,(bH.mp h).2]
 rw[g,Ob]
 cases p x<;>rfl
theorem tV {d g:Type}{p:d->Option g}{l:List d}{i:Nat}{x:d}(h:l[i]?=some x):(l.drop i).findSome? p=match p x with
  |some y=>some y
  |none=>(l.drop (i+1)).findSome? p:=by
 have e:=(bH.mp h).1;have m:l.drop i=x::l.drop (i+1):=by rw[NF e,(bH.mp h).2]
 rw[m,List.findSome?_cons]
 cases p x<;>rfl
theorem jO {i:Nat}(h:(Og oV arms ks)[i]?=some t):∃x k,arms[i]?=some x/\t=.t [.s x.1,.t (x.2.map .s),k]:=by
 rw[Ri]at h
 cases e1:arms[i]? with
 |none=>rw[e1]at h;cases h
 |some x =>
  cases e2:ks[i]? with
  |none=>rw[e1,e2]at h;cases h
  |some k =>
   rw[e1,e2]at h;exact#[x,k,rfl,(Ng h).symm]
theorem C9 :∀{kl:Kl}{kvs:List (Key×V)}{kd:Str×List (Str×List Kk)},Paired (KW a H) kl kvs->Ad kl n=some kd->∃l,cX kvs (Sum.inr n)=some (.ref l)/\H l=some (.lst (kd.2.map λt=>.str t.1))
 |_,_,_,.nil,h=>nomatch h
 |k::r,_,kd,.cons ⟨l,e,hl,_⟩ t,h=>by
  subst e;unfold Ad at h;rw[Ob]at h
  by_cases c:k.1=n
  .rw[decide_eq_true c]at h
   cases h
   exact#[l,fJ (show(Sum.inr k.1:Key)=Sum.inr n by rw[c]),hl]
  .rw[decide_eq_false c]at h;have(l2,g,d):=C9 t h;exact#[l2,by rw[fK (λz=>c (Oq z))];exact g,d]
theorem GS (h:jK kl t=some y):∃kd,Ad kl y.2.1=some kd/\kd∈kl/\y.1=t:=by
 have d:=PC h;have m:y.1=t:=by simpa using List.find?_some h
 unfold tl at d;have(k,l,g):=Pr.mp d;have(z,_,rfl):=ND.mp g
 cases e:Ad kl k.1 with
 |none =>
  have:=PB.mp e k l;simp at this
 |some kd=>exact#[kd,rfl,PC e,m]
theorem bR :Nm VC (ak iJ):=by decide
theorem fU :Lm VC (ak iJ):=by decide
theorem fb :aZ VC ["arms","known"] (ak iJ):=#[rfl,rfl,rfl,by decide,rfl,by decide,by decide]
theorem Fq (F:jr K "look_arms" "look_arms" iJ f fd)(N:Jo K C)(LO:ou P w K mg base "look_once" 3 Wd (qO K cT) gO ofd)(S:ou P w K mg base "look_count" 3 VI (wI K cN cW) gC cfd)(e:BY P w K mg base "NoName" "name" cN fN dN)(g:BY P w K mg base "WrongCount" "name" cW fW dW)(r:mg "sorted"=none):cA P w K mg base (xS P w) 4 f fd ["arms","known"] (Ah K C cT cN cW):=by
 refine F.E8 fb (λvs H Q E h=>?_) (λcdv A outer s H vs Q E hr h=>?_)
 .have(_,_,_,_,_,_,_,_,_,_,_,rfl,_):=h;rfl
 have(H0,b,o,a,l,ds,gs,os,d,ks,L,rfl,sq,rs,hl,la,ln,J,hB,bo,hE,k):=h;refine#[_,(Z5 (Zb (@yH _ _ _ _ (xq (va bR 0) (λ_=>rfl))) (Ze (@gX _ _ _ _ _ rfl (ja e.k e.ok (hr.mono ()) (by left) e.m e.bd .nil kT (Zd aH))))) (Z5 (Zh (i9 rfl rfl rfl) (cz (va bR 0)) (Z9 (3) (Zf (ga fb.nd fU 2) (Zf (ga fb.nd fU 3) (Zt (ga fb.nd fU 4))))) (Ze (Zb (Zi (jS (gE hr)) (va bR 2) (jV (va bR 1) rfl) (by with_unfolding_all rfl)) (Ze (@gX _ _ _ _ _ rfl (@ja _ _ _ _ _ _ _ _ _ _ _ _ _ _ _ _ _ e.k e.ok (hr.mono ()) (by left) e.m e.bd .nil kT (Zd (va bR 2)) (by decide) (by rfl) (by rfl))))))) (Z5 (Z4 fb.nd fU 5 (@jL _ _ _ _ _ _ (gE hr) (jV (va bR 1) rfl) (Zl aP (Z8 aP (va bR 0)) aC) (λ_ _=>rfl))) (Z5 (Zb (Zi (HY hr.Cv) (Z2 tR r SA (Z1 (Zg (ak iJ) VC Vz [] (cz (va bR 0)) (λ_ _ _ _=>(Z9 (3) (Zf (Z3 (i:=0) (show(Vz:List Str).Nodup by decide)) (Zf (Z3 (i:=1) (show(Vz:List Str).Nodup by decide)) (Zt (Z3 (i:=2) (show(Vz:List Str).Nodup by decide))))))) (λ_ _ _ _=>(va (show Nm Vz _ by left) 0))) aA)) (Z2 tR r SA (Z1 (@jL _ _ _ _ _ _ (gE hr) (jV (va bR 1) rfl) (va bR 5) (λ_ _=>rfl)) aA)) (bG _)) (Ze (@gX _ _ _ _ _ rfl (ja g.k g.ok (hr.mono ()) (by left) g.m g.bd .nil kT (Zd aH))))) (Ze (Zh (i9 rfl rfl rfl) (cz (va bR 0)) (Z9 (3) (Zf (ga fb.nd fU 2) (Zf (ga fb.nd fU 3) (Zt (ga fb.nd fU 4))))) (Z5 (Zo (@eJ _ _ _ _ _ _ _ _ _ _ _ _ _ _ _ _ S.ok (hr.mono ()) (by left) S.at' S.kp S.bd .nil jz (Z1 (va bR 2) (Z1 (va bR 3) (Z1 (jV (va bR 1) rfl) aA))) (by decide) (by rfl) (by rfl))) (Ze (Zo (@eJ _ _ _ _ _ _ _ _ _ _ _ _ _ _ _ _ LO.ok (hr.mono ()) (by left) LO.at' LO.kp LO.bd .nil jz (Zd (va bR 3)) (by decide) (by rfl) (by rfl))))))))))),?_]
 right
 try dsimp only[qe,qf]
 have hc:=N.c;have n1:=N.kinds;have n2:=N.ktag;have n3:=N.mtag;have g1:=tP a;have g2:=C1 a;have g3:=vc a;have ax:=J.ins;have u:=rs.length;rw[Oz,<-hl,Q7]at u
 cases ea:d with
 |nil =>
  subst ea;have tt:=(hE (.nn,"match") rfl).same J.sm;obtain rfl:L=[]:=P0.mp u;ext;exact gc e.c tt
 |cons a0 ar =>
  have em:(!L.isEmpty)=true:=by
   cases L with
   |nil=>rw[ea]at u;cases u
   |cons _ _=>rfl
  have e0:gx l d=match d.find? (λb=>decide ((jK l b.1).isSome=false))with
    |some b=>some (.nn,b.1)
    |none=>if(d.map (·.1)).isPerm ((((jK l a0.1).bind λy=>Ad l y.2.1).map λk=>k.2.map (·.1)).getD [])=true then d.findSome? (jA l)else some (.wr,"match"):=by subst ea;rfl
  have h0:d[0]?=some a0:=by rw[ea];rfl
  clear ea;refine j4 ?_;intro N1 N2 c1 c2;ext;rw[em];ext;clear c1
  have a1:∀t,cu H a.dT (.str t) ((jK l t).map λx=>V.str x.2.1):=λt=>by
   have:=cu.k (k:=Sum.inr t) J.kt;rw[qk (λx:Str×Str×List Kk=>x.1) (λx=>V.str x.2.1)]at this;exact this
  refine eY (K:=K) (xs:=L) (λi v Y=>(∃y2 y3 y4 y5,v=[some (.ref b),some (.ref o),y2,y3,y4,y5])/\Y=H/\d.find? (λb=>decide ((jK l b.1).isSome=false))=(d.drop i).find? (λb=>decide ((jK l b.1).isSome=false))) #[#[_,_,_,_,rfl],rfl,rfl] ?_ ?_ ?_
  .rintro i v Y hi ⟨_,rfl,_⟩;exact sq
  .rintro i xv v Y hxv ⟨⟨_,_,_,_,rfl⟩,rfl,R⟩;have(t,ht,rx):=rs.get' hxv;have(x,kk,hx,rfl):=jO ht;have(qa,v1,v2,v3,rfl,a3,q1,q2,q3):=rx.t3;obtain rfl:=q1.aJ;rw[ve hx]at R;have dg:=a1 x.1
   cases et:jK l x.1 with
   |none =>
    rw[et]at dg R;have bg:cu Y a.dT (.str x.1) none:=dg;have e3:d.find? (λb=>decide ((jK l b.1).isSome=false))=some x:=R;rw[e3]at e0;have tt:=(hE _ e0).same J.sm;ext;exact gc e.c tt
   |some y =>
    rw[et]at dg R;have bg:cu Y a.dT (.str x.1) (some (.str y.2.1)):=dg;ext;exact R
  rintro v Y ⟨⟨_,_,_,_,rfl⟩,rfl,R⟩;rw[u,NH]at R;rw[R]at e0;have hz:0<d.length:=(bH.mp h0).1
  obtain⟨y,hy⟩:∃y,jK l a0.1=some y:=by
   have hm:=PB.mp R a0 (M9 h0)
   cases et:jK l a0.1 with
   |some y=>exact#[y,rfl]
   |none=>rw[et]at hm;simp at hm
  have(kd,aw,a8,_):=GS hy;have(lk,vk,av):=C9 J.ke aw;rw[hy]at e0
  have p:gx l d=if(d.map (·.1)).isPerm (kd.2.map (·.1))=true then d.findSome? (jA l)else some (.wr,"match"):=by
   rw[e0];show(if(d.map (·.1)).isPerm (((Ad l y.2.1).map λk=>k.2.map (·.1)).getD [])=true then _ else _)=_;rw[aw];rfl
  have br:cu Y a.dK (.str y.2.1) (some (.ref lk)):=by
   have:=cu.k (k:=Sum.inr y.2.1) J.kk;rw[vk]at this;exact this
  have bt:cu Y a.dT (.str a0.1) (some (.str y.2.1)):=by have:=a1 a0.1;rw[hy]at this;exact this
  obtain⟨u0,ap⟩:∃u0,L[0]?=some u0:=#[L[0],by simp[u,hz]];have(t,ht,rx):=rs.get' ap;have(x,kk,hx,rfl):=jO ht;obtain rfl:a0=x:=Ng (h0.symm.trans hx);have(qa,v1,v2,v3,rfl,a3,q1,q2,q3):=rx.t3;obtain rfl:=q1.aJ;have bx:eK L 0=some (.ref qa):=aG (j:=0) ap;have bw:eK [V.str a0.1,v2,v3] 0=some (.str a0.1):=aG (j:=0) rfl;ext;clear c2;refine gb (K:=K) (xs:=L) (λj v vs W=>(∃y1 y2 y3,v=[y1,y2,y3])/\W=Y/\vs=(d.take j).map λx=>V.str x.1) #[#[_,_,_,rfl],rfl,rfl] ?_ (small ()) ?_ ?_ ?_
  .rintro j v vs W hj ⟨_,_,rfl⟩;rw[bM,L1];omega
  .rintro j v vs W hj ⟨_,rfl,_⟩;exact sq
  .rintro j yv v vs W hyv ⟨⟨_,_,_,rfl⟩,rfl,rfl⟩;have(t,ht,ry):=rs.get' hyv;have(x,kj,an,rfl):=jO ht;have a9:=(bH.mp an).1;have bb:d.take (j+1)=d.take j++[x]:=by rw[mu a9,(bH.mp an).2]
   have(ga,w1,w2,w3,rfl,az,p1,p2,p3):=ry.t3;obtain rfl:=p1.aJ;ext;rw[bb,lj];rfl
  rintro v vs W ⟨_,rfl,rfl⟩ l3 hl3;rw[u,Nl];have be:(d.map λx=>V.str x.1)=(d.map (·.1)).map V.str:=by rw[NZ];rfl
  rw[be];have s4:=ae hl3 (.lst ((d.map (·.1)).map V.str));have h4:bQ K (upd W l3 (.lst ((d.map (·.1)).map V.str))) l3 ((d.map (·.1)).map V.str):=bQ.of af;generalize upd W l3 (.lst ((d.map (·.1)).map V.str))=H4 at s4 h4|-;have lm:(d.map (·.1)).length<64:=by rw[bM];omega
  ext;intro G l5 ad al a7;have s5:=ae a7 (.lst (G.map V.str));have h5:bQ K (upd H4 l5 (.lst (G.map V.str))) l5 (G.map V.str):=bQ.of af;generalize upd H4 l5 (.lst (G.map V.str))=H5 at s5 h5|-;have O:=s4.trans s5;have bq:=O _ _ ax
  have a2:cu H5 a.dK (.str y.2.1) (some (.ref lk)):=by
   have:=cu.k (k:=Sum.inr y.2.1) (O _ _ J.kk);rw[vk]at this;exact this
  have bc:(kd.2.map λt=>V.str t.1)=(kd.2.map (·.1)).map V.str:=by rw[NZ];rfl
  rw[bc]at av;have as:bQ K H5 lk ((kd.2.map (·.1)).map V.str):=bQ.of (O _ _ av);have bn:(kd.2.map (·.1)).length<64:=by rw[bM];have:=(hB.2 kd a8).1;omega
  ext;intro M l6 ac aj a6;have s6:=ae a6 (.lst (M.map V.str));have h6:bQ K (upd H5 l6 (.lst (M.map V.str))) l6 (M.map V.str):=bQ.of af;generalize upd H5 l6 (.lst (M.map V.str))=H6 at s6 h6|-;have ab:=O.trans s6;have ay:bQ K H6 l5 (G.map V.str):=s6.seq h5
  have ah:G=M↔(d.map (·.1)).isPerm (kd.2.map (·.1))=true:=by
   rw[Tg];constructor
   .intro z;subst z;exact ad.symm.trans ac
   .intro z;exact yg (ad.trans (z.trans ac.symm)) al aj
  have D:G.map T.s=M.map T.s↔G=M:=#[λz=>List.map_inj_right (λ_ _ q=>T.s.inj q)|>.mp z,λz=>by rw[z]]
  refine#[l5,l6,G.map T.s,M.map T.s,_,_,rfl,rfl,ay,bO.strs _,h6,bO.strs _,Bv _,_,rfl,?_];refine cg (λc=>?_) (λc=>?_)
  .have np:¬(d.map (·.1)).isPerm (kd.2.map (·.1))=true:=λz=>by
    rw[decide_eq_true (D.mpr (ah.mpr z))]at c
    cases c
   rw[if_neg np]at p;have tt:=(hE _ p).same (J.sm.trans ab);ext;exact gc g.c tt
  have np:(d.map (·.1)).isPerm (kd.2.map (·.1))=true:=by
   by_cases z:G.map T.s=M.map T.s
   .exact ah.mp (D.mp z)
   .exact absurd (by rw[decide_eq_false z];rfl) c
  rw[if_pos np]at p;have bk:=sq.same ab
  have bf:∀t H',aT W H'->cu H' a.dM (.str t) (((jK l t).map λx=>x.2.2.length).map λ(n:Nat)=>V.int (n:Int)):=λt H' s'=>by
   have:=cu.k (k:=Sum.inr t) (s' _ _ J.km);rw[qk (λx:Str×Str×List Kk=>x.1) (λx=>V.int x.2.2.length)]at this;rw[TJ];exact this
  clear ah D ac ad al aj ay h6 h5 as a2 h4;ext;refine eY (K:=K) (xs:=L) (λi v U=>(∃y2 y3 y4 y5,v=[some (.ref b),some (.ref o),y2,y3,y4,y5])/\aT W U/\d.findSome? (jA l)=(d.drop i).findSome? (jA l)) #[#[_,_,_,_,rfl],ab,rfl] ?_ ?_ ?_
  .rintro i v U hi ⟨_,I,_⟩;exact sq.same I
  .rintro i xv v U hxv ⟨⟨_,_,_,_,rfl⟩,I,B⟩;have(t,ht,ry):=rs.get' hxv;have(x,kj,ao,rfl):=jO ht;have(ga,w1,w2,w3,rfl,az,p1,p2,p3):=ry.t3;obtain rfl:=p1.aJ;have(na,bl,rfl,a4,a5):=p2.aS;obtain rfl:=a5.kY;rw[tV ao]at B;have bh:=az.same I;have am:=a4.same I;have bp:=I _ _ ax;have bs:=bf x.1 U I;have aa:=J.sm.trans I;have bm:=ln x (M9 ao)
   have bv:(jK l x.1).map (λx=>x.2.2.length)=none->Told E U cN "name" (.str x.1):=λz=>by
    have Z:jA l x=some (.nn,x.1):=by
     unfold jA;rw[P7.mp z]
    rw[Z]at B;rw[B]at p;exact(hE _ p).same aa
   have bu:∀n,(jK l x.1).map (λx=>x.2.2.length)=some n->(x.2.map V.str).length≠n->Told E U cW "name" (.str x.1):=λn z hn=>by
    have(y',ag,rfl):=xn.mp z
    have Z:jA l x=some (.wr,x.1):=by
     unfold jA;rw[ag];dsimp only;rw[if_neg (λq=>hn (by rw[bM];exact q))]
    rw[Z]at B;rw[B]at p;exact(hE _ p).same aa
   ext;intro n hn aq;have(y',ag,rfl):=xn.mp hn
   have Z:jA l x=(cJ [] x.2).map λz=>(.tw,z):=by
    unfold jA;rw[ag];dsimp only;rw[if_pos (by rw[bM]at aq;exact aq)]
   have bi:nU K true U na (x.2.map V.str):=am;have l5:x.2.length<=500:=()
   have oE:∀z,cJ [] x.2=some z->Told E U cT "name" (.str z):=λz hz=>by
    rw[hz]at Z;have ai:jA l x=some (.tw,z):=Z;rw[ai]at B;rw[B]at p;exact(hE _ p).same aa
   ext;intro ba H8 s8;rw[ba]at Z;have ai:jA l x=none:=Z;rw[ai]at B;exact#[#[_,_,_,_,rfl],I.trans s8,B]
  .rintro v U ⟨_,I,B⟩;rw[u,NH]at B;rw[B]at p;exact k p _ I
theorem zq :∀{l:List (Str×Str×Nat)}{kvs:List (Key×V)}{z:Str×Str×Nat},Paired (Iu H) l kvs->l.find? (λx=>decide (x.1=t))=some z->∃q,cX kvs (Sum.inr t)=some (.ref q)/\H q=some (.tup [.str z.2.1,.int z.2.2])
 |_,_,_,.nil,h=>nomatch h
 |k::r,_,z,.cons ⟨l,e,hl⟩ p,h=>by
  subst e;rw[Ob]at h
  by_cases c:k.1=t
  .rw[decide_eq_true c]at h
   cases h
   exact#[l,fJ (show(Sum.inr k.1:Key)=Sum.inr t by rw[c]),hl]
  .rw[decide_eq_false c]at h;have(l2,g,d):=zq p h;exact#[l2,by rw[fK (λz=>c (Oq z))];exact g,d]
theorem Dc :∀{kl:Kl}{kvs:List (Key×V)}{kd:Str×List (Str×List Kk)},Paired (KY S H) kl kvs->Ad kl n=some kd->∃l,cX kvs (Sum.inr n)=some (.ref l)/\H l=some (.lst (kd.2.map λt=>.str t.1))
 |_,_,_,.nil,h=>nomatch h
 |k::r,_,kd,.cons ⟨l,e,hl,_⟩ t,h=>by
  subst e;unfold Ad at h;rw[Ob]at h
  by_cases c:k.1=n
  .rw[decide_eq_true c]at h
   cases h
   exact#[l,fJ (show(Sum.inr k.1:Key)=Sum.inr n by rw[c]),hl]
  .rw[decide_eq_false c]at h;have(l2,g,d):=Dc t h;exact#[l2,by rw[fK (λz=>c (Oq z))];exact g,d]
theorem qm (kl:Kl)(t:Str):(rG kl).find? (λx=>decide (x.1=t))=(jK kl t).map λx=>(x.1,x.2.1,x.2.2.length):=by
 unfold rG jK;rw[List.find?_map];rfl
theorem Dd (h:(je kl).Nodup)(d:kd∈kl):(kd.2.map (·.1)).Nodup:=by
 have(l1,l2,rfl):=Uk d;unfold je at h;rw[NQ,OT]at h;exact(OC.mp (OC.mp h).2.1).1
theorem Ai :∀(e told:List Str),e.Nodup->e.length=told.length->(∀t∈e,t∈told)->told.Perm e
 | [],told,_,hl,_=>by
  obtain rfl:told=[]:=P0.mp hl.symm;exact .refl _
 |t::r,told,hn,hl,hs=>by
  have(a,b,rfl):=Uk (hs t (.head _));have d:=O0.mp hn
  have l:=Ai r (a++b) d.2 (by rw[Np,i4,Np]at hl;rw[i4];omega) λx g=>by
   have:=hs x (.tail _ g);rw[M7,M8]at this;rw[M7];rcases this with h|rfl|h
   .exact .inl h
   .exact absurd g d.1
   .exact .inr h
  exact List.perm_middle.trans (l.cons t)
theorem Bw {told:List Str}(hn:d.Nodup):told.isPerm d=true↔told.length=d.length/\∀t∈d,t∈told:=by
 rw[Tg];constructor
 .intro p;exact#[p.length_eq,λt e=>p.mem_iff.mpr e]
 .rintro⟨l,g⟩;exact Ai d told hn l.symm g
structure LH(H7:Hp) (xs:List Str) (j:Nat) (vs:List V) (H8:Hp):Prop where
 s:aT H7 H8
 l:vs.length<=j
 e:(vs=[]/\cJ [] xs=cJ (xs.take j) (xs.drop j))\/∃z r,vs=.str z::r/\cJ [] xs=some z
def Aj(K:bN):Sp:=λp H Q _=>∃(u:Hp) (S:mF) (b d:Addr) (g:Kl) (t:List (Str×Nat)) (r q:List Int) (e:List (Str×List Str)) (ks:List T) (o:List V),p=[.ref d,.ref b]/\eG u S g (rG g) t r q H/\S.d=d/\cH K H b o/\bO K H (Og oV e ks) o/\e.length=ks.length/\e.length<=20/\(∀x∈e,x.2.length<=20)/\wY g/\(je g).Nodup /\
 ∀m l,aT H l->mO l (gx g e) m->Q m l
theorem aV :Nm U8 (ak dJ):=by decide
theorem cF :Lm U8 (ak dJ):=by decide
theorem b6 :aZ U8 V7 (ak dJ):=#[rfl,rfl,rfl,by decide,rfl,by decide,by decide]
theorem De (F:jr K "_law_arms_fault" "_law_arms_fault" dJ f fd)(m:mg "len"=none)(ad:mg "all"=none)(z_range:mg "range"=none):cA P w K mg base gy 3 f fd V7 (Aj K):=by
 refine F.ok b6 (λv H Q E h=>?_) (λcdv A outer s H v Q E hr h=>?_)
 .have(_,_,_,_,_,_,_,_,_,_,_,rfl,_):=h;rfl
 have(H0,S,b,d,u,ds,gs,os,g,ks,T,rfl,sc,rfl,sq,rs,hl,la,ln,hB,bg,k):=h;refine#[_,(Z5 (Zb (Zi bV (Z2 aL m Nh (Zd (va aV 1))) aC (bG _)) (Ze (Zv (Zu (dc aH (Zd aH)))))) (Z5 (Zh NC (cz (va aV 1)) (Z9 (3) (Zf (ga b6.nd cF 2) (Zf (ga b6.nd cF 3) (Zt (ga b6.nd cF 4))))) (Ze (Zb (Zi (jS (gE hr)) (va aV 2) (Zk (va aV 0)) (by with_unfolding_all rfl)) (Ze (Zv (Zu (Z1 aH (Zd (va aV 2))))))))) (Z5 (Z4 b6.nd cF 5 (@jL _ _ _ _ _ _ (gE hr) (Zk (va aV 0)) (Zl aP (@jL _ _ _ _ _ _ (gE hr) (Zk (va aV 0)) (Zl aP (Z8 aP (va aV 1)) aC) (λ_ _=>rfl)) aC) (λ_ _=>rfl))) (Z5 (Z4 b6.nd cF 6 (Zg (ak dJ) U8 Vh [] (cz (va aV 1)) (λ_ _ _ _=>(Z9 (3) (Zf (Z3 (i:=0) (show(Vh:List Str).Nodup by decide)) (Zf (Z3 (i:=1) (show(Vh:List Str).Nodup by decide)) (Zt (Z3 (i:=2) (show(Vh:List Str).Nodup by decide))))))) (λ_ _ _ _=>(va (show Nm Vh _ by left) 0)))) (Z5 (Zb (PW.pt (@pH _ _ _ _ _ _ _ (Zi pK (Z2 aL m Nh (Zd (va aV 6))) (Z2 aL m Nh (Zd (va aV 5))) (bG _)) (@oQ _ _ _ _ (@yH _ _ _ _ (@sC _ _ _ (Z2 (Cr rfl) ad PyProof.Rows.boot_all (Z1 (Zg (ak dJ) U8 ["_law_t"] [6] (lF (va aV 5)) (λ_ _ _ _=>(Z3 (i:=0) (show(V4:List Str).Nodup by decide))) (λ_ _ _ _=>(jq (sS K rfl) (va (show Nm V4 _ by left) 0) (va (show Nm V4 _ by left) 1) (by with_unfolding_all rfl)))) aA)) (by intro _;rfl)))))) (Ze (Zv (Zu (dc aH (Zd aH)))))) (Z5 (Zh NC (cz (va aV 1)) (Z9 (3) (Zf (ga b6.nd cF 2) (Zf (ga b6.nd cF 3) (Zt (ga b6.nd cF 4))))) (Z5 (Zb (Zi pK (Z2 aL m Nh (Zd (va aV 3))) (Zl aP (@jL _ _ _ _ _ _ (gE hr) (Zk (va aV 0)) (va aV 2) (λ_ _=>rfl)) aC) (bG _)) (Ze (Zv (Zu (Z1 aH (Zd (va aV 2))))))) (Z5 (@nj _ _ _ _ _ _ _ _ _ _ _ _ _ _ _ (ak dJ) U8 ["_law_k"] [3] rfl rfl rfl (by decide) (Zr (Z1 (Z2 aL m Nh (Zd (va aV 3))) aA)) (λ_ _ _ _=>(Z3 (i:=0) (show(VA:List Str).Nodup by decide))) (λ_ _ _ _=>(@xH _ _ _ (Zi (sS K rfl) (iI (vV K rfl) (va (show Nm VA _ by left) 1) (va (show Nm VA _ by left) 0) (λ_ _=>rfl)) (@dY _ _ _ _ _ _ _ _ _ _ (EL K rfl) (va (show Nm VA _ by left) 1) eZ (dm (va (show Nm VA _ by left) 0))) (by with_unfolding_all rfl)))) (λ_ _ _ _=>(iI (vV K rfl) (va (show Nm VA _ by left) 1) (va (show Nm VA _ by left) 0) (λ_ _=>rfl))) (ga b6.nd cF 7) (by kernel_rfl) (by intro _;rfl)) (Ze (Zb (Zi pL (Z2 aL m Nh (Zd (va aV 7))) aC (bG _)) (Ze (Zv (Zu (Z1 aH (Z1 (Z8 br (va aV 7)) aA)))))))))) (b7 (cI gv)))))))),?_]
 right
 right
 have G:=rs.length;rw[Oz,<-hl,Q7]at G;have gt:=fh sc.sd (lW S);have gk:=fh sc.sd (nI S);have(tv,ht,pt):=sc.ht;ext
 cases ea:g with
 |nil =>
  subst ea;obtain rfl:T=[]:=P0.mp G;ext;intro p hp;exact k _ _ (ae hp _) #[p,rfl,af]
 |cons M ar =>
  have hz:0<T.length:=by rw[G,ea];exact Nat.succ_pos _
  have e0:gx u g=match g.find? (λb=>decide ((jK u b.1).isSome=false))with
    |some b=>some (.nn,b.1)
    |none=>if(g.map (·.1)).isPerm ((((jK u M.1).bind λy=>Ad u y.2.1).map λk=>k.2.map (·.1)).getD [])=true then g.findSome? (jA u)else some (.wr,"match"):=by subst ea;rfl
  have h0:g[0]?=some M:=by rw[ea];rfl
  clear ea
  have nz:¬decide (V.int (T.length:Int)=V.int 0)=true:=λz=>by
   have z':=V.int.inj (of_decide_eq_true z);have:(T.length:Int)=0:=z';omega
  refine cg (λc=>absurd c nz) (λc=>?_);have ao:∀t H',aT H H'->cu H' S.dt (.str t) (cX tv (Sum.inr t)):=λt H' s'=>cu.k (k:=Sum.inr t) (s' _ _ ht)
  have vT:∀t,(cX tv (Sum.inr t)).isSome=(jK u t).isSome:=λt=>by
   rw[wH pt,jN,<-oZ];unfold jK
   by_cases c:t∈(tl u).map (·.1)
   .rw[decide_eq_true c];have(x,hx,e):=ND.mp c
    cases q:(tl u).find? λx=>decide (x.1=t)with
    |some y=>rfl
    |none =>
     have:=PB.mp q x hx;simp[e]at this
   .rw[decide_eq_false c]
    cases q:(tl u).find? λx=>decide (x.1=t)with
    |none=>rfl
    |some y =>
     have h1:y.1=t:=by simpa using List.find?_some q
     exact absurd (by rw[<-h1];exact NT (PC q)) c
  ext;refine eY (K:=K) (xs:=T) (λi o Z=>(∃y2 y3 y4 y5 y6 y7,o=[some (.ref S.d),some (.ref b),y2,y3,y4,y5,y6,y7])/\Z=H/\g.find? (λb=>decide ((jK u b.1).isSome=false))=(g.drop i).find? (λb=>decide ((jK u b.1).isSome=false))) #[#[_,_,_,_,_,_,rfl],rfl,rfl] ?_ ?_ ?_
  .rintro i o Z hi ⟨_,rfl,_⟩;exact sq
  .rintro i xv o Z hxv ⟨⟨_,_,_,_,_,_,rfl⟩,rfl,Y⟩;have(t,D,rx):=rs.get' hxv;have(x,kk,hx,rfl):=jO D;have(qa,v1,v2,v3,rfl,a8,q1,q2,q3):=rx.t3;obtain rfl:=q1.aJ;rw[ve hx]at Y;have dg:=ao x.1 Z (aT.refl _);have vx:=vT x.1
   cases et:jK u x.1 with
   |none =>
    rw[et]at vx Y;have e3:g.find? (λb=>decide ((jK u b.1).isSome=false))=some x:=Y;rw[e3]at e0;ext;refine cg (λc=>?_) (λc=>absurd (by rw[vx];rfl) c);ext;intro p hp;exact k _ _ (ae hp _) (by rw[e0];exact#[p,rfl,af])
   |some y =>
    rw[et]at vx Y;ext;refine cg (λc=>?_) (λc=>?_)
    .rw[vx]at c;cases c
    ext;exact Y
  rintro o Z ⟨⟨_,_,_,_,_,_,rfl⟩,rfl,Y⟩;rw[G,NH]at Y;rw[Y]at e0
  obtain⟨y,hy⟩:∃y,jK u M.1=some y:=by
   have hm:=PB.mp Y M (M9 h0)
   cases et:jK u M.1 with
   |some y=>exact#[y,rfl]
   |none=>rw[et]at hm;simp at hm
  have a6:∀x∈g,∃y,jK u x.1=some y:=λx hx=>by
   have hm:=PB.mp Y x hx
   cases et:jK u x.1 with
   |some y=>exact#[y,rfl]
   |none=>rw[et]at hm;simp at hm
  have(kd,a3,a2,_):=GS hy;have(lk,vk,aa):=Dc sc.ke a3;have(tq,vq,be):=zq (z:=(y.1,y.2.1,y.2.2.length)) pt (by rw[qm,hy];rfl);rw[hy]at e0
  have B:gx u g=if(g.map (·.1)).isPerm (kd.2.map (·.1))=true then g.findSome? (jA u)else some (.wr,"match"):=by
   rw[e0];show(if(g.map (·.1)).isPerm (((Ad u y.2.1).map λk=>k.2.map (·.1)).getD [])=true then _ else _)=_;rw[a3];rfl
  have bv:cu Z S.dk (.str y.2.1) (some (.ref lk)):=by
   have:=cu.k (k:=Sum.inr y.2.1) sc.hk;rw[vk]at this;exact this
  have bx:cu Z S.dt (.str M.1) (some (.ref tq)):=by have:=ao M.1 Z (aT.refl _);rw[vq]at this;exact this
  have bp:cH K Z tq [.str y.2.1,.int y.2.2.length]:=cH.of be;obtain⟨u0,ax⟩:∃u0,T[0]?=some u0:=#[T[0],by simp[hz]];have(t,D,rx):=rs.get' ax;have(x,kk,hx,rfl):=jO D;obtain rfl:M=x:=Ng (h0.symm.trans hx);have(qa,v1,v2,v3,rfl,a8,q1,q2,q3):=rx.t3;obtain rfl:=q1.aJ;have b2:eK T 0=some (.ref qa):=aG (j:=0) ax;have b1:eK [V.str M.1,v2,v3] 0=some (.str M.1):=aG (j:=0) rfl;have b0:eK [V.str y.2.1,.int y.2.2.length] 0=some (.str y.2.1):=aG (j:=0) rfl;ext;refine gb (K:=K) (xs:=T) (λj o v H3=>(∃y1 y2 y3,o=[y1,y2,y3])/\H3=Z/\v=(g.take j).map λx=>V.str x.1) #[#[_,_,_,rfl],rfl,rfl] ?_ (small ()) ?_ ?_ ?_
  .rintro j o v H3 hj ⟨_,_,rfl⟩;rw[bM,L1];omega
  .rintro j o v H3 hj ⟨_,rfl,_⟩;exact sq
  .rintro j yv o v H3 hyv ⟨⟨_,_,_,rfl⟩,rfl,rfl⟩;have(t,D,ry):=rs.get' hyv;have(x,kj,L,rfl):=jO D;have al:=(bH.mp L).1;have am:g.take (j+1)=g.take j++[x]:=by rw[mu al,(bH.mp L).2]
   have(ga,w1,w2,w3,rfl,a4,p1,p2,p3):=ry.t3;obtain rfl:=p1.aJ;ext;rw[am,lj];rfl
  rintro o v H3 ⟨_,rfl,rfl⟩ l3 hl3;rw[G,Nl];have bi:(g.map λx=>V.str x.1)=(g.map (·.1)).map V.str:=by rw[NZ];rfl
  rw[bi];have s4:=ae hl3 (.lst ((g.map (·.1)).map V.str));have h4:bQ K (upd H3 l3 (.lst ((g.map (·.1)).map V.str))) l3 ((g.map (·.1)).map V.str):=bQ.of af;generalize upd H3 l3 (.lst ((g.map (·.1)).map V.str))=H4 at s4 h4|-;generalize htold:g.map (·.1)=told at h4 B;have bh:(kd.2.map λt=>V.str t.1)=(kd.2.map (·.1)).map V.str:=by rw[NZ];rfl
  rw[bh]at aa;have a1:=Dd bg a2;have bc:(kd.2.map (·.1)).length<=10:=by rw[bM];exact(hB.2 kd a2).1
  generalize htag:kd.2.map (·.1)=tags at aa a1 B bc;have ab:bQ K H4 lk (tags.map V.str):=bQ.of (s4 _ _ aa);have pp:=Bw (told:=told) a1;ext
  have C:¬told.isPerm tags=true->∀J,aT H3 J->∀p,J p=none->Q (.ref p) (upd J p (.lst [.str "wrong",.str "match"])):=λz J s5 p hp=>by
   rw[if_neg z]at B;exact k _ _ (s5.trans (ae hp _)) (by rw[B];exact#[p,rfl,af])
  refine cg (λc=>?_) (λc=>?_)
  .have z:¬told.isPerm tags=true:=λz=>by
    have e:=(pp.mp z).1;rw[bM,bM,e,decide_eq_true rfl]at c
    cases c
   have wr:=C z H4 s4;ext;exact wr
  have a5:told.length=tags.length:=by
   by_cases z:told.length=tags.length
   .exact z
   .refine absurd ?_ c;rw[bM,bM,decide_eq_false (λq=>z (by have q':=V.int.inj q;exact_mod_cast q'))];rfl
  have flt:=iM told;ext;refine kX (K:=K) (xs:=tags.map V.str) (λj o v J=>(∃y1,o=[y1,some (.ref l3)])/\J=H4/\v=(tags.take j).map λt=>V.bl (decide (t∈told))) #[#[_,rfl],rfl,rfl] ?_ (small (by rw[bM];omega)) ?_ ?_ ?_
  .rintro j o v J hj ⟨_,_,rfl⟩;rw[bM,L1];omega
  .rintro j o v J hj ⟨_,rfl,_⟩;exact ab
  .rintro j yv o v J hyv ⟨⟨_,rfl⟩,rfl,rfl⟩;rw[EF]at hyv;have(t,az,rfl):=xn.mp hyv;have al:=(bH.mp az).1;have am:tags.take (j+1)=tags.take j++[t]:=by rw[mu al,(bH.mp az).2]
   have iv:=j0 (x:=t) (xs:=told);ext;rw[am,lj,iv];rfl
  rintro o v J ⟨_,rfl,rfl⟩ l6 hl6;rw[bM,Nl];have bk:(tags.map λt=>V.bl (decide (t∈told)))=(tags.map λt=>decide (t∈told)).map V.bl:=by rw[NZ];rfl
  rw[bk];have s6:=ae hl6 (.lst ((tags.map λt=>decide (t∈told)).map V.bl));have h6:bQ K (upd J l6 (.lst ((tags.map λt=>decide (t∈told)).map V.bl))) l6 ((tags.map λt=>decide (t∈told)).map V.bl):=bQ.of af;generalize upd J l6 (.lst ((tags.map λt=>decide (t∈told)).map V.bl))=H6 at s6 h6|-;have ag:=s4.trans s6
  have ac:((tags.map λt=>decide (t∈told)).all id)=decide (∀t∈tags,t∈told):=by
   rw[List.all_map]
   by_cases z:∀t∈tags,t∈told
   .rw[decide_eq_true z,NO];intro t ht;exact decide_eq_true (z t ht)
   .rw[decide_eq_false z,<-Bool.not_eq_true,NO];exact λq=>z λt ht=>of_decide_eq_true (q t ht)
  ext;rw[ac];refine cg (λc=>?_) (λc=>?_)
  .have z:¬told.isPerm tags=true:=λz=>by
    rw[decide_eq_true (pp.mp z).2]at c
    cases c
   have wr:=C z H6 ag;ext;exact wr
  have np:told.isPerm tags=true:=pp.mpr #[a5,by
   by_cases z:∀t∈tags,t∈told
   .exact z
   .exact absurd (by rw[decide_eq_false z];rfl) c]
  rw[if_pos np]at B;have bq:=sq.same ag;clear ac h6 h4 ab aa C pp;ext;refine eY (K:=K) (xs:=T) (λi o O=>(∃y2 y3 y4 y5 y6 y7,o=[some (.ref S.d),some (.ref b),y2,y3,y4,y5,y6,y7])/\aT H3 O/\g.findSome? (jA u)=(g.drop i).findSome? (jA u)) #[#[_,_,_,_,_,_,rfl],ag,rfl] ?_ ?_ ?_
  .rintro i o O hi ⟨_,I,_⟩;exact sq.same I
  .rintro i xv o O hxv ⟨⟨_,_,_,_,_,_,rfl⟩,I,W⟩;have(t,D,ry):=rs.get' hxv;have(x,kj,ai,rfl):=jO D;have(ga,w1,w2,w3,rfl,a4,p1,p2,p3):=ry.t3;obtain rfl:=p1.aJ;have(na,bs,rfl,ba,bb):=p2.aS;obtain rfl:=bb.kY;rw[tV ai]at W;have bo:=a4.same I;have av:=ba.same I;have bu:=fh (I _ _ sc.sd) (lW S);have bt:=ln x (M9 ai);have(R,ah):=a6 x (M9 ai);have(ap,a7,ay):=zq (z:=(R.1,R.2.1,R.2.2.length)) pt (by rw[qm,ah];rfl);have bw:cu O S.dt (.str x.1) (some (.ref ap)):=by have:=ao x.1 O I;rw[a7]at this;exact this
   have bm:cH K O ap [.str R.2.1,.int R.2.2.length]:=cH.of (I _ _ ay);have bz:eK [V.str R.2.1,.int R.2.2.length] 1=some (.int R.2.2.length):=aG (j:=1) rfl;ext;refine cg (λc=>?_) (λc=>?_)
   .have ef:jA u x=some (.wr,x.1):=by
     unfold jA;rw[ah];dsimp only;rw[if_neg (λq=>by rw[bM,q,decide_eq_true rfl]at c;cases c)]
    rw[ef]at W;rw[W]at B;ext;intro p hp;exact k _ _ (I.trans (ae hp _)) (by rw[B];exact#[p,rfl,af])
   have ex:x.2.length=R.2.2.length:=by
    by_cases z:x.2.length=R.2.2.length
    .exact z
    .refine absurd ?_ c;rw[bM,decide_eq_false (λq=>z (by have q':=V.int.inj q;exact_mod_cast q'))];rfl
   have ef:jA u x=(cJ [] x.2).map λz=>(.tw,z):=by
    unfold jA;rw[ah];dsimp only;rw[if_pos ex]
   have aw:(x.2.map V.str).length=x.2.length:=bM _;have en:(((x.2.map V.str).length:Nat):Int).toNat=x.2.length:=by rw[aw];exact OL _
   ext;rw[en];refine lN (n:=x.2.length) (λj o v H8=>(∃y1,o=[y1,some (.ref na)])/\LH O x.2 j v H8) #[#[_,rfl],aT.refl _,i5 _,.inl #[rfl,rfl]] ?_ (small ()) ?_ ?_
   .rintro j o v H8 hj ⟨_,U⟩;exact U.l
   .rintro j o v H8 hj ⟨⟨_,rfl⟩,U⟩;have s8:=U.s;have as:=av.same s8;have L:x.2[j]?=some x.2[j]:=by simp[hj]
    have aj:eK (x.2.map V.str) (j:Int)=some (.str x.2[j]):=aG (by rw[EF,L];rfl);have b3:eK (x.2.map V.str) ((0:Int)+(j:Int))=some (.str x.2[j]):=by rw[Q9];exact aj
    have ec:jv (x.2.map V.str) none (some ((0:Int)+(j:Int)))=(x.2.take j).map V.str:=by rw[Q9,iL,Pk]
    have nw:¬(HT.ir (x.2.map V.str).length 0 none=0/\HT.ir (x.2.map V.str).length (x.2.map V.str).length (some ((0:Int)+(j:Int)))=(x.2.map V.str).length):=λz=>by
     have:=z.2;rw[Q9,HT.kg,aw]at this;omega
    have fl:=iM (x.2.take j);have iv:=j0 (x:=x.2[j]) (xs:=x.2.take j);have ds:=xQ L;ext;intro p9 bf;rw[ec];have s9:=ae bf (.tup ((x.2.take j).map V.str));have h9:cH K (upd H8 p9 (.tup ((x.2.take j).map V.str))) p9 ((x.2.take j).map V.str):=cH.of af;generalize upd H8 p9 (.tup ((x.2.take j).map V.str))=H9 at s9 h9|-;have bn:=as.same s9;ext;refine cg (λc=>?_) (λc=>?_)
    .have hm:x.2[j]∈x.2.take j:=by
      have c':oj (.str x.2[j]) ((x.2.take j).map V.str)=true:=c;rw[iv]at c';exact of_decide_eq_true c'
     rw[if_pos hm]at ds
     have fin:LH O x.2 (j+1) (v++[.str x.2[j]]) H9:=by
      refine#[s8.trans s9,by rw[i4];exact Pq U.l,.inr ?_];rcases U.e with⟨rfl,e⟩|⟨z,r,rfl,e⟩
      .exact#[_,[],rfl,by rw[e];exact ds]
      .exact#[z,_,rfl,e]
     ext;exact fin
    .have hm:x.2[j]∉x.2.take j:=λz=>c (by show oj (.str x.2[j]) ((x.2.take j).map V.str)=true;rw[iv];exact decide_eq_true z);rw[if_neg hm]at ds
     have fin:LH O x.2 (j+1) v H9:=by
      refine#[s8.trans s9,Nat.le_succ_of_le U.l,?_];rcases U.e with⟨rfl,e⟩|h
      .exact .inl #[rfl,by rw[e];exact ds]
      .exact .inr h
     ext;exact fin
   .rintro o v H8 ⟨_,U⟩ l8 hl8;have s9:=ae hl8 (.lst v);have h9:bQ K (upd H8 l8 (.lst v)) l8 v:=bQ.of af;generalize upd H8 l8 (.lst v)=H9 at s9 h9|-;have aq:=U.s.trans s9;rcases U.e with⟨rfl,e⟩|⟨z,r,rfl,e⟩
    .rw[NH]at e;have e':cJ [] x.2=none:=e;rw[e']at ef;have an:jA u x=none:=ef;rw[an]at W;ext
     .exact I.trans aq
     .exact W
    .rw[e]at ef;have an:jA u x=some (.tw,z):=ef;rw[an]at W;rw[W]at B;have a9:decide ((0:Int)<(((V.str z::r).length:Nat):Int))=true:=decide_eq_true (by rw[Np];omega);have M:eK (V.str z::r) 0=some (.str z):=aG (j:=0) rfl;ext;refine cg (λ_=>?_) (λc=>absurd a9 c);ext;intro p hp;exact k _ _ ((I.trans aq).trans (ae hp _)) (by rw[B];exact#[p,rfl,af])
  .rintro o O ⟨_,I,W⟩;rw[G,NH]at W;rw[W]at B;have fin:=k .eN O I (by rw[B];rfl);ext;exact fin
def tW(h:Hd):Prop:=∀d,h=.mat d->d.length<=20/\∀x∈d,x.2.length<=20
def Ak(K:bN)(C z B cW:Addr):Sp:=λy H Q E=>∃(p:Hp) (v r:V) (o:Addr) (a:qj) (d:Kl) (m:List (Str×Nat)) (l u:List Int) (h:Hd) (ks:List Tm) (g:List Str),y=[v,r,.ref o]/\Rp K H (enc (.mk h ks)) v/\eR h ks.length=true/\tW h/\ks.length<=900/\Rp K H (.t (g.map .s)) r/\g.length<=900 /\
 hU C p o a d m l u H/\wY d/\(je d).Nodup/\l.length<=900/\(∀f,eO d m l g h ks.length=.error f->TF z B cW E p f)/\(∀e,eO d m l g h ks.length=.ok e->∀q,hU C p o a d m e u q->j5 a H q->Q .eN q)
theorem bf :Nm VZ (ak jy):=by decide
theorem wJ :Lm VZ (ak jy):=by decide
theorem qo :aZ VZ V9 (ak jy):=#[rfl,rfl,rfl,by decide,rfl,by decide,by decide]
theorem Dg (F:jr K "look_term" "look_term" jy f fd)(N:Jo K C)(LO:ou P w K mg base "look_once" 3 Wd (qO K cT) gO ofd)(J:ou P w K mg base "look_count" 3 VI (wI K cN cW) gC cfd)(Z:ou P w K mg base "look_arms" 4 ["arms","known"] (Ah K C cT cN cW) gA afd)(Y:ou P w K mg base "look_gap" 3 V5 (CS cT) gG gfd)(p:BY P w K mg base "NoName" "name" cN fN dN):cA P w K mg base (xS P w) 5 f fd V9 (Ak K C cT cN cW):=by
 refine F.E8 qo (λvs H Q E h=>?_) (λcdv A outer s H vs Q E hr h=>?_)
 .have(_,_,_,_,_,_,_,_,_,_,_,_,rfl,_):=h;rfl
 have(H0,v,vn,o,a,R,ds,B,os,hd,ks,ns,rfl,r,ar,am,lk,rn,ln,u,hB,av,lg,hE,k):=h;refine#[_,(Z5 (Z4 qo.nd wJ 3 (Z8 aP (va bf 0))) (Z5 (Zb (PW.pt (@gz _ _ _ _ _ _ _ (Zp bV (va bf 3) aH) (@fz _ _ _ _ (Zi lJ (Z8 aP (va bf 0)) (va bf 1) (by with_unfolding_all rfl))))) (Ze (@gX _ _ _ _ _ rfl (@ja _ _ _ _ _ _ _ _ _ _ _ _ _ _ _ _ _ p.k p.ok (hr.mono ()) (by left) p.m p.bd .nil kT (Z1 (Z8 aP (va bf 0)) aA) (by decide) (by rfl) (by rfl))))) (Z5 (Zb (Zp bV (va bf 3) aH) (Ze (Zo (@eJ _ _ _ _ _ _ _ _ _ _ _ _ _ _ _ _ J.ok (hr.mono ()) (by left) J.at' J.kp J.bd .nil jz (Z1 (Z8 aP (va bf 0)) (Z1 (Z8 aP (va bf 0)) (Z1 (jV (va bf 2) rfl) aA))) (by decide) (by rfl) (by rfl))))) (Z5 (Zb (Zp bV (va bf 3) aH) (Ze (Zo (@eJ _ _ _ _ _ _ _ _ _ _ _ _ _ _ _ _ J.ok (hr.mono ()) (by left) J.at' J.kp J.bd .nil jz (Z1 (Z8 aP (va bf 0)) (Z1 (Z8 aP (va bf 0)) (Z1 (jV (va bf 2) rfl) aA))) (by decide) (by rfl) (by rfl))))) (Z5 (Zb (Zp bV (va bf 3) aH) (Ze (Zo (@eJ _ _ _ _ _ _ _ _ _ _ _ _ _ _ _ _ Z.ok (hr.mono ()) (by left) Z.at' Z.kp Z.bd .nil jz (Z1 (Z8 aP (va bf 0)) (Zd (va bf 2))) (by decide) (by rfl) (by rfl))))) (Z5 (Zb (Zp bV (va bf 3) aH) (Ze (Zo (@eJ _ _ _ _ _ _ _ _ _ _ _ _ _ _ _ _ LO.ok (hr.mono ()) (by left) LO.at' LO.kp LO.bd .nil jz (Z1 (Zm (Z1 (Z8 aP (va bf 0)) (Z1 (Z8 aP (va bf 0)) aA))) aA) (by decide) (by rfl) (by rfl))))) (Ze (Zb (Zp bV (va bf 3) aH) (Ze (Zo (@eJ _ _ _ _ _ _ _ _ _ _ _ _ _ _ _ _ Y.ok (hr.mono ()) (by left) Y.at' Y.kp Y.bd .nil jz (Z1 (Z8 aP (va bf 0)) (Z1 (jV (va bf 2) rfl) aA)) (by decide) (by rfl) (by rfl)))))))))))),?_]
 right
 try dsimp only[qe,qf]
 have hc:=N.c;have n3:=N.mtag;have n4:=N.mdef;have n5:=N.gaps;have g3:=vc a;have g4:=ye a;have g5:=Bq a;have aw:=u.ins;have(na,ap,rfl,aq,ah):=rn.aS;obtain rfl:=ah.kY;have fl:=iM ns;rw[cZ]at r
 cases hd with
 |num n =>
  have(M,D,rfl,g,e):=(show Rp K H (.t (.s "num"::[.i n])) v from r).aS;have(L,G,rfl,l,_):=e.inv;obtain rfl:=l.aJ;have W:eK (V.str "num"::G) 0=some (.str "num"):=aG (j:=0) rfl;have fin:=k B rfl H u (j5.refl _ _);ext;exact fin
 |name x =>
  have(M,L,w2,rfl,g,l,U):=(show Rp K H (.t [.s "name",.s x]) v from r).t2;obtain rfl:=l.aJ;obtain rfl:=U.aJ;have iv:=j0 (x:=x) (xs:=ns);ext;refine cg (λc=>?_) (λc=>?_)
  .have hm:x∉ns:=λz=>by
    have ag:(!oj (.str x) (ns.map V.str))=true:=c;rw[iv,decide_eq_true z]at ag
    cases ag
   have tt:=(hE (.nn,x) (if_neg hm)).same u.sm;ext;exact gc p.c tt
  .have hm:x∈ns:=by
    by_cases z:x∈ns
    .exact z
    .refine absurd ?_ c;show(!oj (.str x) (ns.map V.str))=true;rw[iv,decide_eq_false z];rfl
   have fin:=k B (if_pos hm) H u (j5.refl _ _);ext;exact fin
 |gap n =>
  have(M,L,w2,rfl,g,l,U):=(show Rp K H (.t [.s "gap",.i n]) v from r).t2;obtain rfl:=l.aJ;obtain rfl:=U.jI;have gg:=u.gg;have tw:n∈B->Told E H cT "name" (.str "?"):=λhm=>(hE (.tw,"?") (if_pos hm)).same u.sm;ext;intro hm;exact k (B++[n]) (if_neg hm) _ (u.setG _) ((j5.refl a H).setG _)
 |op z =>
  have(M,D,rfl,g,e):=(show Rp K H (.t (.s "op"::.s z::ks.map enc)) v from r).aS;have(L,G,rfl,l,_):=e.inv;obtain rfl:=l.aJ;have W:eK (V.str "op"::G) 0=some (.str "op"):=aG (j:=0) rfl;have fin:=k B rfl H u (j5.refl _ _);ext;exact fin
 |row =>
  have(M,D,rfl,g,e):=(show Rp K H (.t (.s "row"::[.t (ks.map enc)])) v from r).aS;have(L,G,rfl,l,_):=e.inv;obtain rfl:=l.aJ;have W:eK (V.str "row"::G) 0=some (.str "row"):=aG (j:=0) rfl;have fin:=k B rfl H u (j5.refl _ _);ext;exact fin
 |more =>
  have(M,D,rfl,g,e):=(show Rp K H (.t (.s "more"::ks.map enc)) v from r).aS;have(L,G,rfl,l,_):=e.inv;obtain rfl:=l.aJ;have W:eK (V.str "more"::G) 0=some (.str "more"):=aG (j:=0) rfl;have fin:=k B rfl H u (j5.refl _ _);ext;exact fin
 |first =>
  have(M,D,rfl,g,e):=(show Rp K H (.t (.s "first"::ks.map enc)) v from r).aS;have(L,G,rfl,l,_):=e.inv;obtain rfl:=l.aJ;have W:eK (V.str "first"::G) 0=some (.str "first"):=aG (j:=0) rfl;have fin:=k B rfl H u (j5.refl _ _);ext;exact fin
 |others =>
  have(M,D,rfl,g,e):=(show Rp K H (.t (.s "others"::ks.map enc)) v from r).aS;have(L,G,rfl,l,_):=e.inv;obtain rfl:=l.aJ;have W:eK (V.str "others"::G) 0=some (.str "others"):=aG (j:=0) rfl;have fin:=k B rfl H u (j5.refl _ _);ext;exact fin
 |long =>
  have(M,D,rfl,g,e):=(show Rp K H (.t (.s "long"::ks.map enc)) v from r).aS;have(L,G,rfl,l,_):=e.inv;obtain rfl:=l.aJ;have W:eK (V.str "long"::G) 0=some (.str "long"):=aG (j:=0) rfl;have fin:=k B rfl H u (j5.refl _ _);ext;exact fin
 |tag t =>
  have(M,L,w2,w3,rfl,g,l,U,p3):=(show Rp K H (.t [.s "tag",.s t,.t (ks.map enc)]) v from r).t3;obtain rfl:=l.aJ;obtain rfl:=U.aJ;have(ua,O,rfl,ab,T):=p3.aS;have lu:=T.length;rw[bM]at lu
  have dg:cu H a.dM (.str t) (((jK R t).map λ(y:Str×Str×List Kk)=>y.2.2.length).map λ(n:Nat)=>V.int (n:Int)):=by
   have:=cu.k (k:=Sum.inr t) u.km;rw[qk (λx:Str×Str×List Kk=>x.1) (λ(y:Str×Str×List Kk)=>V.int (y.2.2.length:Nat))]at this;rw[TJ];exact this
  have al:(jK R t).map (λ(y:Str×Str×List Kk)=>y.2.2.length)=none->Told E H cN "name" (.str t):=λz=>by
   refine(hE (.nn,t) ?_).same u.sm;have z':=P7.mp z
   show(match jK R t with
    |none=>Except.error (Er.nn,t)
    |some y=>if ks.length=y.2.2.length then Except.ok B else .error (.wr,t))=_
   rw[z']
  have ak:∀n,(jK R t).map (λ(y:Str×Str×List Kk)=>y.2.2.length)=some n->O.length≠n->Told E H cW "name" (.str t):=λn z S=>by
   have(y,hy,rfl):=xn.mp z;refine(hE (.wr,t) ?_).same u.sm
   show(match jK R t with
    |none=>Except.error (Er.nn,t)
    |some y=>if ks.length=y.2.2.length then Except.ok B else .error (.wr,t))=_
   rw[hy];exact if_neg (λq=>S (by rw[lu];exact q))
  have fin:∀n,(jK R t).map (λ(y:Str×Str×List Kk)=>y.2.2.length)=some n->O.length=n->Q .eN H:=λn z S=>by
   have(y,hy,rfl):=xn.mp z;refine k B ?_ H u (j5.refl _ _)
   show(match jK R t with
    |none=>Except.error (Er.nn,t)
    |some y=>if ks.length=y.2.2.length then Except.ok B else .error (.wr,t))=_
   rw[hy];exact if_pos (by rw[<-lu];exact S)
  ext;intro n z S;have I:=fin n z S;ext;exact I
 |call t =>
  have(M,L,w2,w3,rfl,g,l,U,p3):=(show Rp K H (.t [.s "call",.s t,.t (ks.map enc)]) v from r).t3;obtain rfl:=l.aJ;obtain rfl:=U.aJ;have(ua,O,rfl,ab,T):=p3.aS;have lu:=T.length;rw[bM]at lu
  have dg:cu H a.dD (.str t) (((ds.find? (λd=>decide (d.1=t))).map λ(y:Str×Nat)=>y.2).map λ(n:Nat)=>V.int (n:Int)):=by
   have:=cu.k (k:=Sum.inr t) u.dd;rw[qk (λx:Str×Nat=>x.1) (λ(y:Str×Nat)=>V.int (y.2:Nat))]at this;rw[TJ];exact this
  have al:(ds.find? (λd=>decide (d.1=t))).map (λ(y:Str×Nat)=>y.2)=none->Told E H cN "name" (.str t):=λz=>by
   refine(hE (.nn,t) ?_).same u.sm;have z':=P7.mp z
   show(match ds.find? (λd=>decide (d.1=t))with
    |none=>Except.error (Er.nn,t)
    |some y=>if ks.length=y.2 then Except.ok B else .error (.wr,t))=_
   rw[z']
  have ak:∀n,(ds.find? (λd=>decide (d.1=t))).map (λ(y:Str×Nat)=>y.2)=some n->O.length≠n->Told E H cW "name" (.str t):=λn z S=>by
   have(y,hy,rfl):=xn.mp z;refine(hE (.wr,t) ?_).same u.sm
   show(match ds.find? (λd=>decide (d.1=t))with
    |none=>Except.error (Er.nn,t)
    |some y=>if ks.length=y.2 then Except.ok B else .error (.wr,t))=_
   rw[hy];exact if_neg (λq=>S (by rw[lu];exact q))
  have fin:∀n,(ds.find? (λd=>decide (d.1=t))).map (λ(y:Str×Nat)=>y.2)=some n->O.length=n->Q .eN H:=λn z S=>by
   have(y,hy,rfl):=xn.mp z;refine k B ?_ H u (j5.refl _ _)
   show(match ds.find? (λd=>decide (d.1=t))with
    |none=>Except.error (Er.nn,t)
    |some y=>if ks.length=y.2 then Except.ok B else .error (.wr,t))=_
   rw[hy];exact if_pos (by rw[<-lu];exact S)
  ext;intro n z S;have I:=fin n z S;ext;exact I
 |mat arms =>
  obtain⟨k0,kr,rfl⟩:∃k0 kr,ks=k0::kr:=by
   cases ks with
   |nil=>simp[eR]at ar
   |cons x y=>exact#[x,y,rfl]
  have as:arms.length=(kr.map enc).length:=by
   rw[bM];have:(k0::kr).length=arms.length+1:=by simpa[eR]using ar
   rw[Np]at this;omega
  have(M,L,w2,w3,rfl,g,l,U,p3):=(show Rp K H (.t [.s "match",enc k0,.t (Og oV arms (kr.map enc))]) v from r).t3;obtain rfl:=l.aJ;have(ua,O,rfl,ab,T):=p3.aS;have(la,lx):=am arms rfl
  have aE:∀f,gx R arms=some f->TF cT cN cW E H0 f:=λf hf=>hE f (by
   show(match gx R arms with
    |some f=>Except.error f
    |none=>Except.ok B)=_
   rw[hf])
  have fin:gx R arms=none->∀H',aT H H'->Q .eN H':=λhf H' s'=>k B (by
   show(match gx R arms with
    |some f=>Except.error f
    |none=>Except.ok B)=_
   rw[hf]) H' (u.ext s') (j5.of s')
  ext;intro hf H2 s2;have I:=fin hf H2 s2;have ao:=g.same s2;ext;exact I
 |ife =>
  have(M,D,rfl,g,e):=(show Rp K H (.t (.s "if"::ks.map enc)) v from r).aS;have(L,G,rfl,l,_):=e.inv;obtain rfl:=l.aJ;have W:eK (V.str "if"::G) 0=some (.str "if"):=aG (j:=0) rfl;have fin:=k B rfl H u (j5.refl _ _);ext;exact fin
 |lt z =>
  have(M,D,rfl,g,e):=(show Rp K H (.t (.s "let"::.s z::ks.map enc)) v from r).aS;have(L,G,rfl,l,_):=e.inv;obtain rfl:=l.aJ;have W:eK (V.str "let"::G) 0=some (.str "let"):=aG (j:=0) rfl;have fin:=k B rfl H u (j5.refl _ _);ext;exact fin
 |fold x y =>
  have(M,D,rfl,g,e):=(show Rp K H (.t [.s "fold",(ks.map enc).getD 0 .n,.s x,.s y,(ks.map enc).getD 1 .n,(ks.map enc).getD 2 .n]) v from r).aS;have(L,q1,rfl,l,t1):=e.inv;have(w2,q2,rfl,U,t2):=t1.inv;have(w3,q3,rfl,p3,t3):=t2.inv;have(w4,q4,rfl,p4,t4):=t3.inv;obtain rfl:=l.aJ;obtain rfl:=p3.aJ;obtain rfl:=p4.aJ;have W:eK (V.str "fold"::w2::.str x::.str y::q4) 0=some (.str "fold"):=aG (j:=0) rfl;have a2:eK (V.str "fold"::w2::.str x::.str y::q4) 2=some (.str x):=aG (j:=2) rfl;have a3:eK (V.str "fold"::w2::.str x::.str y::q4) 3=some (.str y):=aG (j:=3) rfl
  have ac:cJ [] [x,y]=if y=x then some y else none:=by
   show(if x∈([]:List Str)then _ else if y∈([x]:List Str)then some y else none)=_;rw[if_neg Nv]
   by_cases c:y=x
   .rw[if_pos c,if_pos (by rw[c];exact List.mem_singleton_self x)]
   .rw[if_neg c,if_neg (λz=>c (IF.mp z))]
  ext;intro p5 aj;have s5:=ae aj (.tup [.str x,.str y]);have h5:nU K true (upd H p5 (.tup [.str x,.str y])) p5 (([x,y]:List Str).map V.str):=cH.of af;generalize upd H p5 (.tup [.str x,.str y])=H5 at s5 h5|-;have l5:([x,y]:List Str).length<=500:=by show 2<=500;omega
  have oE:∀z,cJ [] [x,y]=some z->Told E H5 cT "name" (.str z):=λz hz=>by
   rw[ac]at hz
   by_cases c:y=x
   .rw[if_pos c]at hz
    cases hz
    refine(hE (.tw,y) ?_).same (u.sm.trans s5);show(if x=y then Except.error (Er.tw,x)else _)=_;rw[if_pos c.symm,c]
   .rw[if_neg c]at hz;cases hz
  ext;intro ad H6 s6;have ai:¬x=y:=λc=>by rw[ac,if_pos c.symm]at ad;cases ad
  have aa:=s5.trans s6;have an:=g.same aa;have fin:=k B (if_neg ai) H6 (u.ext aa) (j5.of aa);ext;exact fin
theorem wK :∀{l:List (Str×Nat)}{kvs:List (Key×V)},Paired (KZ H) l kvs->(cX kvs (Sum.inr x)).isSome=decide (x∈l.map (·.1))
 |_,_,.nil=>rfl
 |k::r,_,.cons ⟨l,e,_⟩ t=>by
  subst e
  by_cases h:k.1=x
  .rw[fJ (show(Sum.inr k.1:Key)=Sum.inr x by rw[h]),Nr,decide_eq_true (by rw[h];exact OF)];rfl
  .rw[fK (λz=>h (Oq z)),wK t,Nr];have:(x∈k.1::r.map (·.1))↔x∈r.map (·.1):=by rw[M8];exact or_iff_right (λz=>h z.symm)
   exact(decide_eq_decide.mpr this).symm
theorem Dh :∀{l:List (Str×Nat)}{kvs:List (Key×V)},Paired (KZ H) l kvs->(l.find? (λx=>decide (x.1=t))=none/\cX kvs (Sum.inr t)=none)\/∃z q,l.find? (λx=>decide (x.1=t))=some z/\cX kvs (Sum.inr t)=some (.ref q)/\H q=some (.tup [.str z.1,.int z.2])
 |_,_,.nil=>.inl #[rfl,rfl]
 |k::r,_,.cons ⟨l,e,hl⟩ p=>by
  subst e;rw[Ob]
  by_cases c:k.1=t
  .rw[decide_eq_true c];exact .inr #[k,l,rfl,fJ (show(Sum.inr k.1:Key)=Sum.inr t by rw[c]),hl]
  .rw[decide_eq_false c,fK (λz=>c (Oq z))];exact Dh p
theorem Al :∀{l:List (Str×Str×Nat)}{kvs:List (Key×V)},Paired (Iu H) l kvs->(l.find? (λx=>decide (x.1=t))=none/\cX kvs (Sum.inr t)=none)\/∃z q,l.find? (λx=>decide (x.1=t))=some z/\cX kvs (Sum.inr t)=some (.ref q)/\H q=some (.tup [.str z.2.1,.int z.2.2])
 |_,_,.nil=>.inl #[rfl,rfl]
 |k::r,_,.cons ⟨l,e,hl⟩ p=>by
  subst e;rw[Ob]
  by_cases c:k.1=t
  .rw[decide_eq_true c];exact .inr #[k,l,rfl,fJ (show(Sum.inr k.1:Key)=Sum.inr t by rw[c]),hl]
  .rw[decide_eq_false c,fK (λz=>c (Oq z))];exact Al p
def tX(K:bN):Sp:=λy H Q _=>∃(u:Hp) (S:mF) (v:V) (d t:Addr) (e:Kl) (p:List (Str×Nat)) (o r:List Int) (h:Hd) (ks:List Tm) (m:List Str),y=[.ref d,v,.ref t]/\eG u S e (rG e) p o r H/\S.d=d/\Rp K H (enc (.mk h ks)) v/\eR h ks.length=true/\tW h/\ks.length<=900/\H t=some (.lst (m.map V.str))/\m.length<=900/\o.length<=900/\wY e/\(je e).Nodup /\
 (∀f,eO e p o m h ks.length=.error f->∀q g,aT H g->mO g (some f) q->Q q g)/\(∀l,eO e p o m h ks.length=.ok l->∀g,eG u S e (rG e) p l r g->iA S H g->Q .eN g)
theorem aI :Nm VB (ak fL):=by decide
theorem ki :Lm VB (ak fL):=by decide
theorem jh :aZ VB Ve (ak fL):=#[rfl,rfl,rfl,by decide,rfl,by decide,by decide]
theorem Bx (F:jr K "_law_itself_fault" "_law_itself_fault" fL f fd)(as:eL P w K mg base "_law_arms_fault" 3 V7 (Aj K) gA afd)(ac:mg "len"=none)(ad:mg "int"=none):cA P w K mg base gy 4 f fd Ve (tX K):=by
 refine F.ok jh (λvs H Q E h=>?_) (λcdv A outer s H vs Q E hr h=>?_)
 .have(_,_,_,_,_,_,_,_,_,_,_,_,rfl,_):=h;rfl
 have(H0,S,v,d,la,Z,ds,m,os,hd,ks,ns,rfl,C,rfl,r,ar,ap,lk,ao,ln,lg,hB,az,kf,L):=h;refine#[_,(Z5 (Z4 jh.nd ki 3 (Z8 aP (va aI 1))) (Z5 (Zb (PW.pt (@gz _ _ _ _ _ _ _ (Zp bV (va aI 3) aH) (@fz _ _ _ _ (Zi lJ (Z8 aP (va aI 1)) (va aI 2) (by with_unfolding_all rfl))))) (Ze (Zv (Zu (Z1 aH (Z1 (Z8 aP (va aI 1)) aA)))))) (Z5 (Zb (Zp bV (va aI 3) aH) (Z5 (Zb (Zi gq (Z8 aP (va aI 1)) (Zk (va aI 0)) (by with_unfolding_all rfl)) (Ze (Zv (Zu (dc aH (Zd aH)))))) (Ze (Zo (Z6 (Zk (va aI 0)) (Z1 (Z8 aP (va aI 1)) aA)))))) (Z5 (Zb (PW.pt (@pH _ _ _ _ _ _ _ (Zp bV (va aI 3) aH) (@oQ _ _ _ _ (Zp bV (va aI 3) aH)))) (Z5 (Z4 jh.nd ki 4 (@jL _ _ _ _ _ _ (gE hr) (va aI 0) (Zl br (Zu (dc aH (Zd aH))) (Z7 iH ad OB (Z1 (jq bV (va aI 3) aH (bG _)) aA))) (λ_ _=>rfl))) (Z5 (Zb (Zi (jS (gE hr)) (Z8 aP (va aI 1)) (va aI 4) (by with_unfolding_all rfl)) (Ze (Zv (Zu (Z1 aH (Z1 (Z8 aP (va aI 1)) aA)))))) (Ze (Zb (Zi pK (Zl aP (@jL _ _ _ _ _ _ (gE hr) (va aI 4) (Z8 aP (va aI 1)) (λ_ _=>rfl)) aC) (Z2 aL ac Nh (Z1 (Z8 aP (va aI 1)) aA)) (bG _)) (Ze (Zv (Zu (Z1 aH (Z1 (Z8 aP (va aI 1)) aA)))))))))) (Z5 (Zb (Zp bV (va aI 3) aH) (Ze (Zv (Z0 as (Z1 (va aI 0) (Z1 (Z8 aP (va aI 1)) aA)))))) (Z5 (Zb (PW.pt (@gz _ _ _ _ _ _ _ (Zp bV (va aI 3) aH) (@fz _ _ _ _ (Zi bV (Z8 aP (va aI 1)) (Z8 aP (va aI 1)) (bG _))))) (Ze (Zv (Zu (Z1 aH (Z1 (Z8 aP (va aI 1)) aA)))))) (b7 (cI gv)))))))),?_]
 right
 right
 have gt:=fh C.sd (lW S);have gd:=fh C.sd (lX S);have gg:=fh C.sd (Fo S);have fl:=iM ns;have av:bQ K H la (ns.map V.str):=bQ.of ao;rw[cZ]at r
 cases hd with
 |num n =>
  have(U,D,rfl,l,g):=(show Rp K H (.t (.s "num"::[.i n])) v from r).aS;have(T,I,rfl,B,_):=g.inv;obtain rfl:=B.aJ;have a0:eK (V.str "num"::I) 0=some (.str "num"):=aG (j:=0) rfl;have fin:=L m rfl H C (iA.refl _ _);ext;exact fin
 |name x =>
  have(U,T,w2,rfl,l,B,p2):=(show Rp K H (.t [.s "name",.s x]) v from r).t2;obtain rfl:=B.aJ;obtain rfl:=p2.aJ;have iv:=j0 (x:=x) (xs:=ns);ext;refine cg (λc=>?_) (λc=>?_)
  .have hm:x∉ns:=λz=>by
    have am:(!oj (.str x) (ns.map V.str))=true:=c;rw[iv,decide_eq_true z]at am
    cases am
   ext;intro p hp;exact kf (.nn,x) (if_neg hm) _ _ (ae hp _) #[p,rfl,af]
  .have hm:x∈ns:=by
    by_cases z:x∈ns
    .exact z
    .refine absurd ?_ c;show(!oj (.str x) (ns.map V.str))=true;rw[iv,decide_eq_false z];rfl
   have fin:=L m (if_pos hm) H C (iA.refl _ _);ext;exact fin
 |gap n =>
  have(U,T,w2,rfl,l,B,p2):=(show Rp K H (.t [.s "gap",.i n]) v from r).t2;obtain rfl:=B.aJ;obtain rfl:=p2.jI;have hg:=C.hg;have aw:bQ K H S.lg (m.map V.int):=bQ.of C.hg;have a1:=qM m;have iv:=sZ (n:=n) (ns:=m);have ll:(m.map V.int).length<mH:=bq (by rw[bM];omega);ext;refine cg (λc=>?_) (λc=>?_)
  .have hm:n∈m:=by
    have c':oj (.int n) (m.map V.int)=true:=c;rw[iv]at c';exact of_decide_eq_true c'
   ext;intro p hp;exact kf (.tw,"?") (if_pos hm) _ _ (ae hp _) #[p,rfl,af]
  .have hm:n∉m:=λz=>c (by show oj (.int n) (m.map V.int)=true;rw[iv];exact decide_eq_true z);have fin:=L (m++[n]) (if_neg hm) _ (C.setG (m++[n])) (λb u n1 n2 n3 n4 n5 e=>by rw[au n5];exact e);rw[lj]at fin;ext;exact fin
 |op z =>
  have(U,D,rfl,l,g):=(show Rp K H (.t (.s "op"::.s z::ks.map enc)) v from r).aS;have(T,I,rfl,B,_):=g.inv;obtain rfl:=B.aJ;have a0:eK (V.str "op"::I) 0=some (.str "op"):=aG (j:=0) rfl;have fin:=L m rfl H C (iA.refl _ _);ext;exact fin
 |row =>
  have(U,D,rfl,l,g):=(show Rp K H (.t (.s "row"::[.t (ks.map enc)])) v from r).aS;have(T,I,rfl,B,_):=g.inv;obtain rfl:=B.aJ;have a0:eK (V.str "row"::I) 0=some (.str "row"):=aG (j:=0) rfl;have fin:=L m rfl H C (iA.refl _ _);ext;exact fin
 |more =>
  have(U,D,rfl,l,g):=(show Rp K H (.t (.s "more"::ks.map enc)) v from r).aS;have(T,I,rfl,B,_):=g.inv;obtain rfl:=B.aJ;have a0:eK (V.str "more"::I) 0=some (.str "more"):=aG (j:=0) rfl;have fin:=L m rfl H C (iA.refl _ _);ext;exact fin
 |first =>
  have(U,D,rfl,l,g):=(show Rp K H (.t (.s "first"::ks.map enc)) v from r).aS;have(T,I,rfl,B,_):=g.inv;obtain rfl:=B.aJ;have a0:eK (V.str "first"::I) 0=some (.str "first"):=aG (j:=0) rfl;have fin:=L m rfl H C (iA.refl _ _);ext;exact fin
 |others =>
  have(U,D,rfl,l,g):=(show Rp K H (.t (.s "others"::ks.map enc)) v from r).aS;have(T,I,rfl,B,_):=g.inv;obtain rfl:=B.aJ;have a0:eK (V.str "others"::I) 0=some (.str "others"):=aG (j:=0) rfl;have fin:=L m rfl H C (iA.refl _ _);ext;exact fin
 |long =>
  have(U,D,rfl,l,g):=(show Rp K H (.t (.s "long"::ks.map enc)) v from r).aS;have(T,I,rfl,B,_):=g.inv;obtain rfl:=B.aJ;have a0:eK (V.str "long"::I) 0=some (.str "long"):=aG (j:=0) rfl;have fin:=L m rfl H C (iA.refl _ _);ext;exact fin
 |tag t =>
  have(U,T,w2,w3,rfl,l,B,p2,p3):=(show Rp K H (.t [.s "tag",.s t,.t (ks.map enc)]) v from r).t3;obtain rfl:=B.aJ;obtain rfl:=p2.aJ;have(ua,ak,rfl,aa,ab):=p3.aS;have lu:=ab.length;rw[bM]at lu;have(tv,M,ag):=C.ht;have dg:cu H S.dt (.str t) (cX tv (Sum.inr t)):=cu.k (k:=Sum.inr t) M
  have core:((jK Z t)=none/\cX tv (Sum.inr t)=none)\/∃y q nm,(jK Z t)=some y/\cX tv (Sum.inr t)=some (.ref q)/\H q=some (.tup [.str nm,.int ((y.2.2.length:Nat):Int)]):=by
   rcases Al (t:=t) ag with⟨e1,e2⟩|⟨z,q,e1,e2,e3⟩
   .rw[qm]at e1;exact .inl #[P7.mp e1,e2]
   .rw[qm]at e1;have(y,hy,rfl):=xn.mp e1;exact .inr #[y,q,_,hy,e2,e3]
  have W:eO Z ds m ns (.tag t) ks.length=(match jK Z t with
    |none=>Except.error (Er.nn,t)
    |some y=>if ks.length=y.2.2.length then Except.ok m else .error (.wr,t)):=rfl
  rcases core with⟨e1,e2⟩|⟨y,q,nm,e1,e2,e3⟩
  .rw[e1]at W;rw[e2]at dg;ext;intro J R;have o:=ae R (.lst [.str "tags",.str "defs"]);have h6:bQ K (upd H J (.lst [.str "tags",.str "defs"])) J [.str "tags",.str "defs"]:=bQ.of af;generalize upd H J (.lst [.str "tags",.str "defs"])=H6 at o h6|-;have ai:=fh (S:=S) (o _ _ C.sd) (lW S)
   have aj:cu H6 S.dt (.str t) none:=by
    have:=cu.k (k:=Sum.inr t) (o _ _ M);rw[e2]at this;exact this
   have Y:=l.same o;have e6:decide (V.str "tag"=V.str "call")=false:=by decide
   have a6:eK [V.str "tags",.str "defs"] (if(false=true)then(1:Int)else 0)=some (.str "tags"):=aG (j:=0) rfl;ext;rw[e6];refine .inr #[_,rfl,?_];ext;intro p7 O;exact kf (.nn,t) W _ _ (o.trans (ae O _)) #[p7,rfl,af]
  .rw[e1]at W;have G:eO Z ds m ns (.tag t) ks.length=(if ks.length=y.2.2.length then Except.ok m else .error (.wr,t)):=W;ext;intro J R;have o:=ae R (.lst [.str "tags",.str "defs"]);have h6:bQ K (upd H J (.lst [.str "tags",.str "defs"])) J [.str "tags",.str "defs"]:=bQ.of af;generalize upd H J (.lst [.str "tags",.str "defs"])=H6 at o h6|-;have ai:=fh (S:=S) (o _ _ C.sd) (lW S)
   have aj:cu H6 S.dt (.str t) (some (.ref q)):=by
    have:=cu.k (k:=Sum.inr t) (o _ _ M);rw[e2]at this;exact this
   have Y:=l.same o;have al:=aa.same o;have an:cH K H6 q [.str nm,.int ((y.2.2.length:Nat):Int)]:=cH.of (o _ _ e3);have aq:eK [V.str nm,.int ((y.2.2.length:Nat):Int)] 1=some (.int ((y.2.2.length:Nat):Int)):=aG (j:=1) rfl;have e6:decide (V.str "tag"=V.str "call")=false:=by decide
   have a6:eK [V.str "tags",.str "defs"] (if(false=true)then(1:Int)else 0)=some (.str "tags"):=aG (j:=0) rfl;ext;rw[e6];refine .inr #[_,rfl,?_];ext;refine cg (λc=>?_) (λc=>?_)
   .have hn:¬ks.length=y.2.2.length:=λz=>by rw[lu,z,decide_eq_true rfl]at c;cases c
    rw[if_neg hn]at G;ext;intro p7 O;exact kf (.wr,t) G _ _ (o.trans (ae O _)) #[p7,rfl,af]
   .have hn:ks.length=y.2.2.length:=by
     by_cases z:ks.length=y.2.2.length
     .exact z
     .refine absurd ?_ c;rw[lu,decide_eq_false (λq=>z (by have q':=V.int.inj q;exact_mod_cast q'.symm))];rfl
    rw[if_pos hn]at G;have fin:=L m G H6 (C.ext o) (iA.of o);ext;exact fin
 |call t =>
  have(U,T,w2,w3,rfl,l,B,p2,p3):=(show Rp K H (.t [.s "call",.s t,.t (ks.map enc)]) v from r).t3;obtain rfl:=B.aJ;obtain rfl:=p2.aJ;have(ua,ak,rfl,aa,ab):=p3.aS;have lu:=ab.length;rw[bM]at lu;have(tv,M,ag):=C.hd;have dg:cu H S.dd (.str t) (cX tv (Sum.inr t)):=cu.k (k:=Sum.inr t) M
  have core:((ds.find? (λd=>decide (d.1=t)))=none/\cX tv (Sum.inr t)=none)\/∃y q nm,(ds.find? (λd=>decide (d.1=t)))=some y/\cX tv (Sum.inr t)=some (.ref q)/\H q=some (.tup [.str nm,.int ((y.2:Nat):Int)]):=by
   rcases Dh (t:=t) ag with⟨e1,e2⟩|⟨z,q,e1,e2,e3⟩
   .exact .inl #[e1,e2]
   .exact .inr #[z,q,_,e1,e2,e3]
  have W:eO Z ds m ns (.call t) ks.length=(match ds.find? (λd=>decide (d.1=t))with
    |none=>Except.error (Er.nn,t)
    |some y=>if ks.length=y.2 then Except.ok m else .error (.wr,t)):=rfl
  rcases core with⟨e1,e2⟩|⟨y,q,nm,e1,e2,e3⟩
  .rw[e1]at W;rw[e2]at dg;ext;intro J R;have o:=ae R (.lst [.str "tags",.str "defs"]);have h6:bQ K (upd H J (.lst [.str "tags",.str "defs"])) J [.str "tags",.str "defs"]:=bQ.of af;generalize upd H J (.lst [.str "tags",.str "defs"])=H6 at o h6|-;have ai:=fh (S:=S) (o _ _ C.sd) (lX S)
   have aj:cu H6 S.dd (.str t) none:=by
    have:=cu.k (k:=Sum.inr t) (o _ _ M);rw[e2]at this;exact this
   have Y:=l.same o;have e6:decide (V.str "call"=V.str "call")=true:=by decide
   have a6:eK [V.str "tags",.str "defs"] (if(true=true)then(1:Int)else 0)=some (.str "defs"):=aG (j:=1) rfl;ext;rw[e6];refine .inr #[_,rfl,?_];ext;intro p7 O;exact kf (.nn,t) W _ _ (o.trans (ae O _)) #[p7,rfl,af]
  .rw[e1]at W;have G:eO Z ds m ns (.call t) ks.length=(if ks.length=y.2 then Except.ok m else .error (.wr,t)):=W;ext;intro J R;have o:=ae R (.lst [.str "tags",.str "defs"]);have h6:bQ K (upd H J (.lst [.str "tags",.str "defs"])) J [.str "tags",.str "defs"]:=bQ.of af;generalize upd H J (.lst [.str "tags",.str "defs"])=H6 at o h6|-;have ai:=fh (S:=S) (o _ _ C.sd) (lX S)
   have aj:cu H6 S.dd (.str t) (some (.ref q)):=by
    have:=cu.k (k:=Sum.inr t) (o _ _ M);rw[e2]at this;exact this
   have Y:=l.same o;have al:=aa.same o;have an:cH K H6 q [.str nm,.int ((y.2:Nat):Int)]:=cH.of (o _ _ e3);have aq:eK [V.str nm,.int ((y.2:Nat):Int)] 1=some (.int ((y.2:Nat):Int)):=aG (j:=1) rfl;have e6:decide (V.str "call"=V.str "call")=true:=by decide
   have a6:eK [V.str "tags",.str "defs"] (if(true=true)then(1:Int)else 0)=some (.str "defs"):=aG (j:=1) rfl;ext;rw[e6];refine .inr #[_,rfl,?_];ext;refine cg (λc=>?_) (λc=>?_)
   .have hn:¬ks.length=y.2:=λz=>by rw[lu,z,decide_eq_true rfl]at c;cases c
    rw[if_neg hn]at G;ext;intro p7 O;exact kf (.wr,t) G _ _ (o.trans (ae O _)) #[p7,rfl,af]
   .have hn:ks.length=y.2:=by
     by_cases z:ks.length=y.2
     .exact z
     .refine absurd ?_ c;rw[lu,decide_eq_false (λq=>z (by have q':=V.int.inj q;exact_mod_cast q'.symm))];rfl
    rw[if_pos hn]at G;have fin:=L m G H6 (C.ext o) (iA.of o);ext;exact fin
 |mat arms =>
  obtain⟨k0,kr,rfl⟩:∃k0 kr,ks=k0::kr:=by
   cases ks with
   |nil=>simp[eR]at ar
   |cons x y=>exact#[x,y,rfl]
  have ax:arms.length=(kr.map enc).length:=by
   rw[bM];have:(k0::kr).length=arms.length+1:=by simpa[eR]using ar
   rw[Np]at this;omega
  have(U,T,w2,w3,rfl,l,B,p2,p3):=(show Rp K H (.t [.s "match",enc k0,.t (Og oV arms (kr.map enc))]) v from r).t3;obtain rfl:=B.aJ;have(ua,ak,rfl,aa,ab):=p3.aS;have(ay,lx):=ap arms rfl
  have fin:∀v' H',aT H H'->mO H' (gx Z arms) v'->Q v' H':=λv' H' s' ft=>by
   have W:eO Z ds m ns (.mat arms) (k0::kr).length=(match gx Z arms with
    |some f=>Except.error f
    |none=>Except.ok m):=rfl
   cases ef:gx Z arms with
   |some f =>
    rw[ef]at W ft;exact kf f W v' H' s' ft
   |none =>
    rw[ef]at W ft;obtain rfl:v'=.eN:=ft;exact L m W H' (C.ext s') (iA.of s')
  ext;exact fin
 |ife =>
  have(U,D,rfl,l,g):=(show Rp K H (.t (.s "if"::ks.map enc)) v from r).aS;have(T,I,rfl,B,_):=g.inv;obtain rfl:=B.aJ;have a0:eK (V.str "if"::I) 0=some (.str "if"):=aG (j:=0) rfl;have fin:=L m rfl H C (iA.refl _ _);ext;exact fin
 |lt z =>
  have(U,D,rfl,l,g):=(show Rp K H (.t (.s "let"::.s z::ks.map enc)) v from r).aS;have(T,I,rfl,B,_):=g.inv;obtain rfl:=B.aJ;have a0:eK (V.str "let"::I) 0=some (.str "let"):=aG (j:=0) rfl;have fin:=L m rfl H C (iA.refl _ _);ext;exact fin
 |fold x y =>
  have(U,D,rfl,l,g):=(show Rp K H (.t [.s "fold",(ks.map enc).getD 0 .n,.s x,.s y,(ks.map enc).getD 1 .n,(ks.map enc).getD 2 .n]) v from r).aS;have(T,q1,rfl,B,t1):=g.inv;have(w2,q2,rfl,p2,t2):=t1.inv;have(w3,q3,rfl,p3,t3):=t2.inv;have(w4,q4,rfl,p4,t4):=t3.inv;obtain rfl:=B.aJ;obtain rfl:=p3.aJ;obtain rfl:=p4.aJ;have a0:eK (V.str "fold"::w2::.str x::.str y::q4) 0=some (.str "fold"):=aG (j:=0) rfl;have a2:eK (V.str "fold"::w2::.str x::.str y::q4) 2=some (.str x):=aG (j:=2) rfl;have a3:eK (V.str "fold"::w2::.str x::.str y::q4) 3=some (.str y):=aG (j:=3) rfl;ext;refine cg (λc=>?_) (λc=>?_)
  .have ah:x=y:=V.str.inj (of_decide_eq_true c);ext;intro p hp;exact kf (.tw,x) (if_pos ah) _ _ (ae hp _) #[p,rfl,af]
  .have ah:¬x=y:=λz=>c (decide_eq_true (by rw[z]));have fin:=L m (if_neg ah) H C (iA.refl _ _);ext;exact fin
noncomputable def placesOf:List (Str×List Nat):=[("num",[]),("name",[]),("gap",[]),("op",[2,3]),("more",[1,2]),("first",[1]),("others",[1]),("long",[1]),("if",[1,2,3])]
noncomputable def tY:List (Str×V):=[("row",.int 1),("tag",.int 2),("call",.int 2)]
structure Kd(K:bN) (w:Ni) (mg:Str->Option eF) (dP dM:Addr) (pl:List (Str×V)):Prop where
 mP:mg "PLACES"=some (.ref dP)
 mM:mg "PLACE_OF_MANY"=some (.ref dM)
 kP:KD K w dP pl
 kM:KD K w dM tY
 at_:∀f ps,(f,ps)∈placesOf->∃a,pl.lookup f=some (.ref a)/\∀H,cH K H a (ps.map λ(j:Nat)=>V.int (j:Int))
def vf(K:bN):Sp:=λl H Q _=>∃(v:V) (d:Tm),l=[v]/\Rp K H (enc d) v/\Wf d/\d.ks.length<=900 /\
 ∀(p:Addr) (e:Hp) (g:List V),aT H e->e p=some (.lst g)->bO K e ((right d).map sV) g->Q (.ref p) e
theorem vg :∀ks:List Tm,((Nb ks.length ([]:List Str)).zip ks).map sV=(ks.map enc).map λk=>.t [.t [],k]
 | []=>rfl
 |k::r=>by rw[Np,Pf,P8,Nr,Nr,Nr,vg r];rfl
theorem rH (e:bnd h ks.length=Nb ks.length []):(right (.mk h ks)).map sV=(ks.map enc).map λk=>.t [.t [],k]:=by
 unfold right;show((bnd h ks.length).zip ks).map sV=_;rw[e];exact vg ks
theorem yj :∀(arms:List (Str×List Str)) (d:List Tm),arms.length=d.length->((arms.map (·.2)).zip d).map sV=Og (λ(a:Str×List Str) k=>T.t [.t (a.2.map .s),k]) arms (d.map enc)
 | [],d,h=>rfl
 |x::r,[],h=>rfl
 |x::r,y::q,h=>by rw[Nr,P8,Nr,Nr,List.zipWith_cons_cons,yj r q (by simpa using h)];rfl
theorem Jp (v:d)(q:List d):eK (v::q) 0=some v:=aG (j:=0) rfl
theorem l1 {d:Type}:∀{xs:List d},xs.length=1->∃a,xs=[a]
 | [a],_=>#[a,rfl]
theorem l2 {d:Type}:∀{xs:List d},xs.length=2->∃a b,xs=[a,b]
 | [a,b],_=>#[a,b,rfl]
theorem l3 {d:Type}:∀{xs:List d},xs.length=3->∃a b c,xs=[a,b,c]
 | [a,b,c],_=>#[a,b,c,rfl]
theorem Ft (h:a≠b):decide (V.str a=V.str b)=false:=decide_eq_false λz=>h (V.str.inj z)
theorem Di :∀p∈placesOf,p.1≠"match"/\p.1≠"let"/\p.1≠"fold"/\(O6 p.1 tY).isSome=false:=by decide
theorem By (d:(e,ps)∈placesOf):ps.length<=1000:=(show ∀p∈placesOf,p.2.length<=1000 by decide) _ d
theorem Fv :∀p∈([("row",1),("tag",2),("call",2)]:List (Str×Nat)),p.1≠"match"/\p.1≠"let"/\p.1≠"fold"/\tY.lookup p.1=some (.int (p.2:Int)):=by decide
def IB(hd:Hd)(ks:List Tm):Prop:=∃(d:Str) (r:List T) (e:List Nat),(d,e)∈placesOf/\qI hd (ks.map enc)=.t (.s d::r)/\e.map (λ(j:Nat)=>(T.s d::r)[j]?)=(ks.map enc).map some/\bnd hd ks.length=Nb ks.length []
def Ke(hd:Hd)(ks:List Tm):Prop:=∃(d:Str) (r:List T) (j:Nat),(d,j)∈([("row",1),("tag",2),("call",2)]:List (Str×Nat))/\qI hd (ks.map enc)=.t (.s d::r)/\(T.s d::r)[j]?=some (.t (ks.map enc))/\bnd hd ks.length=Nb ks.length []
theorem Fw (d : eR hd ks.length = true): IB hd ks ∨ Ke hd ks ∨ (∃ arms, hd = .mat arms) ∨ (∃ x, hd = .lt x) ∨ ∃ x y, hd = .fold x y := by
  cases hd
  case num n => obtain rfl : ks = [] := by simpa [eR] using d
                exact .inl #["num", [.i n], [], by decide, rfl, rfl, rfl]
  case name x => obtain rfl : ks = [] := by simpa [eR] using d
                 exact .inl #["name", [.s x], [], by decide, rfl, rfl, rfl]
  case gap n => obtain rfl : ks = [] := by simpa [eR] using d
                exact .inl #["gap", [.i n], [], by decide, rfl, rfl, rfl]
  case op s => have(a, b, rfl) := l2 (show ks.length = 2 by simpa [eR] using d)
               exact .inl #["op", [.s s, enc a, enc b], [2, 3], by decide, rfl, rfl, rfl]
  case more => have(a, b, rfl) := l2 (show ks.length = 2 by simpa [eR] using d)
               exact .inl #["more", [enc a, enc b], [1, 2], by decide, rfl, rfl, rfl]
  case first => have(a, rfl) := l1 (show ks.length = 1 by simpa [eR] using d)
                exact .inl #["first", [enc a], [1], by decide, rfl, rfl, rfl]
  case others => have(a, rfl) := l1 (show ks.length = 1 by simpa [eR] using d)
                 exact .inl #["others", [enc a], [1], by decide, rfl, rfl, rfl]
  case long => have(a, rfl) := l1 (show ks.length = 1 by simpa [eR] using d)
               exact .inl #["long", [enc a], [1], by decide, rfl, rfl, rfl]
  case ife => have(a, b, c, rfl) := l3 (show ks.length = 3 by simpa [eR] using d)
              exact .inl #["if", [enc a, enc b, enc c], [1, 2, 3], by decide, rfl, rfl, rfl]
  case row => exact .inr (.inl #["row", [.t (ks.map enc)], 1, by decide, rfl, rfl, rfl])
  case tag t => exact .inr (.inl #["tag", [.s t, .t (ks.map enc)], 2, by decide, rfl, rfl, rfl])
  case call t => exact .inr (.inl #["call", [.s t, .t (ks.map enc)], 2, by decide, rfl, rfl, rfl])
  case mat arms => exact .inr (.inr (.inl #[_, rfl]))
  case lt x => exact .inr (.inr (.inr (.inl #[_, rfl])))
  case fold x y => exact .inr (.inr (.inr (.inr #[_, _, rfl])))
theorem vh :aZ ["term","form"] ["term"] (ak jl):=#[rfl,rfl,rfl,by decide,rfl,by decide,by decide]
theorem yk (F:jr K "right_in" "right_in" jl f fd)(TB:Kd K w mg dP dM pl):cA P w K mg base gy 1 f fd ["term"] (vf K):=by
 refine F.ok vh (λvs H Q E h=>?_) (λcdv A outer s H vs Q E hr h=>?_)
 .have(v,tm,rfl,_):=h;rfl
 have(v,tm,rfl,I,wf,ai,k):=h
 refine#[_,(eA (lE (i:=1) vh.nd rfl (Or.inl rfl) (Z8 aP (pv 0)))
  (eA (kQ (Zp bV (pv 1) aH) (b7 (cI (bS iT (dF (bI (fH (bI (fH aA) (bI (Z8 aP (pv 0)) aA))) aA)) (kW (ak jl) ["term","form"] Vz [] rfl rfl rfl (by decide) (cz (Z8 aP (pv 0))) (λ_ _ _ _=>(zS (n:=3) K rfl rfl (pI (lD (i:=0) (show(Vz:List Str).Nodup by decide) rfl (Or.inl rfl)) (pI (lD (i:=1) (show(Vz:List Str).Nodup by decide) rfl (Or.inl rfl)) (Zt (lD (i:=2) (show(Vz:List Str).Nodup by decide) rfl (Or.inl rfl))))))) (λ_ _ _ _=>fZ) (λ_ _ _ _=>(fH (bI (pv 1) (bI (pv 2) aA)))))))) j9)
  (eA (kQ (Zp bV (pv 1) aH) (b7 (cI (dF (bI (fH (bI (fH aA) (bI (Z8 aP (pv 0)) aA))) (bI (fH (bI (fH (bI (Z8 aP (pv 0)) aA)) (bI (Z8 aP (pv 0)) aA))) aA))))) j9)
  (eA (kQ (Zp bV (pv 1) aH) (b7 (cI (dF (bI (fH (bI (fH aA) (bI (Z8 aP (pv 0)) aA))) (bI (fH (bI (fH aA) (bI (Z8 aP (pv 0)) aA))) (bI (fH (bI (fH (bI (Z8 aP (pv 0)) (bI (Z8 aP (pv 0)) aA))) (bI (Z8 aP (pv 0)) aA))) aA)))))) j9)
  (eA (kQ (nS EN (pv 1) (iz (v:=.ref dM) (by rfl) TB.mM rfl) (by with_unfolding_all rfl)) (b7 (cI (kW (ak jl) ["term","form"] ["inner"] [] rfl rfl rfl (by decide) (cz (iI aP (pv 0) (zU (iz (v:=.ref dM) (by rfl) TB.mM rfl) (pv 1) (λ_ _=>rfl)) (λ_ _=>rfl))) (λ_ _ _ _=>(lD (i:=0) (show(["inner"]:List Str).Nodup by decide) rfl (Or.inl rfl))) (λ_ _ _ _=>fZ) (λ_ _ _ _=>(fH (bI (fH aA) (bI (pv 0) aA))))))) j9)
  (b7 (cI (kW (ak jl) ["term","form"] ["place"] [0] rfl rfl rfl (by decide) (cz (zU (iz (v:=.ref dP) (by rfl) TB.mP rfl) (pv 1) (λ_ _=>rfl))) (λ_ _ _ _=>(lD (i:=0) (show(["place","term"]:List Str).Nodup by decide) rfl (Or.inl rfl))) (λ_ _ _ _=>fZ) (λ_ _ _ _=>(fH (bI (fH aA) (bI (iI (vV K rfl) (pv 1) (pv 0) (λ_ _=>rfl)) aA)))))))))))),?_]
 right
 have kM:=TB.kM;have kP:=TB.kP;refine tK ?_;intro N1 N2 N3 N4 N5 c1 c2 c3 c4 c5
 cases wf with
 |mk ar wk =>
 rename_i hd ks
 rw[cZ]at I;have M:ks.length<=900:=ai;have nE:(ks.map enc).length=ks.length:=bM _;rcases Fw ar with⟨fm,r,ps,hm,he,hp,hb⟩|⟨fm,r,j,hm,he,hj,hb⟩|⟨arms,rfl⟩|⟨x,rfl⟩|⟨x,y,rfl⟩
 .rw[he]at I;have(a,vs,rfl,D,d):=I.aS;have(v0,q0,rfl,U,B):=d.inv;obtain rfl:=U.aJ;have(pa,lk,ah):=TB.at_ fm ps hm;have ap:=ah H;ext
  .exact Jp _ _
  ext;have(n1,n2,n3,n4):=Di (fm,ps) hm;refine ux (Ft n1) ?_;ext;refine ux (Ft n2) ?_;ext;refine ux (Ft n3) ?_;ext;refine ux n4 ?_;ext;refine xM (ks:=ks.map enc) D d (ah H) (By hm) hp λp H' ws z h1 r1=>k p H' ws z h1 ?_;rw[rH hb];exact r1
 .rw[he]at I;have(a,vs,rfl,D,d):=I.aS;have(u,hu,ru):=d.get hj;have(b,us,rfl,S,aa):=ru.aS;have(v0,q0,rfl,U,B):=d.inv;obtain rfl:=U.aJ;have(n1,n2,n3,n4):=Fv (fm,j) hm;have aq:O6 fm tY=some (.int (j:Int)):=n4;have as:=aG hu;ext
  .exact Jp _ _
  ext;refine ux (Ft n1) ?_;ext;refine ux (Ft n2) ?_;ext;refine ux (Ft n3) ?_;ext;refine Jm (by rw[n4];rfl) ?_;ext;refine A6 (ks:=ks.map enc) S aa () λp H' ws z h1 r1=>k p H' ws z h1 ?_;rw[rH hb];exact r1
 .skip
  have R:ks.length=arms.length+1:=by simpa[eR]using ar
  match ks,R with
  |k0::kr,R =>
  have aj:arms.length=kr.length:=by simpa using R.symm
  unfold qI at I;have(a,vs,rfl,D,d):=I.aS;have(v0,q0,rfl,U,B):=d.inv;obtain rfl:=U.aJ;have(v1,q1,rfl,e1,L):=B.inv;have(v2,q2,rfl,e2,J):=L.inv;obtain rfl:=J.jk;have(b,us,rfl,S,aa):=e2.aS;ext;intro p1 q;have z:=ae q (.tup []);refine#[_,rfl,a,_,1,_,rfl,rfl,D.same z,rfl,(by show 2<=mH;decide),λW o=>?_];have Y:=z.trans (ae o (.tup [.ref p1,v1]));refine#[(by show 1<=mH;decide),λZ m=>?_];have G:=Y.trans (ae m (.lst [.ref W]));refine#[_,rfl,a,_,2,_,rfl,rfl,D.same G,rfl,b,rfl,#[_,S.same G],?_];refine A7 (arms:=arms) (ks:=kr.map enc) (by rw[bM];exact aj) (S.same G) (by exact aa.same G) (by rw[bM];have:=M;simp at this;omega) λp H' ws O h4 r4=>?_;have z3:H' Z=some (.lst [.ref W]):=O _ _ af;refine#[Z,p,_,_,rfl,rfl,z3,h4,?_,λp5 g=>?_]
  .have l:=r4.length;rw[Oz,bM]at l;rw[l];exact small (by have:=M;simp at this;show 1+_<=1000;omega)
  have V:=O.trans (ae g (.lst ([.ref W]++ws)));refine k p5 _ _ (G.trans V) af ?_
  have e:(right (.mk (.mat arms) (k0::kr))).map sV=T.t [.t [],enc k0]::Og (λ(a:Str×List Str) k=>T.t [.t (a.2.map .s),k]) arms (kr.map enc):=by
   unfold right;show((([]:List Str)::arms.map (·.2)).zip (k0::kr)).map sV=_;rw[P8,Nr];rw[yj arms kr aj];rfl
  rw[e];refine .cons ?_ (r4.same (ae g _));refine Rp.same ((ae m _).trans V) (Rp.new o (.cons (Rp.new q .nil) (.one (e1.same z))))
 .skip
  have R:ks.length=2:=by simpa[eR]using ar
  match ks,R with
  | [k0,k1],R =>
  unfold qI at I;have(a,vs,rfl,D,d):=I.aS;have(v0,q0,rfl,U,B):=d.inv;obtain rfl:=U.aJ;have(v1,q1,rfl,e1,L):=B.inv;have(v2,q2,rfl,e2,J):=bO.inv L;have(v3,q3,rfl,e3,ab):=bO.inv J;obtain rfl:=ab.jk;ext;intro p1 q;have z:=ae q (.tup []);refine#[_,rfl,a,_,2,_,rfl,rfl,D.same z,rfl,(by show 2<=mH;decide),λW o=>?_];have Y:=z.trans (ae o (.tup [.ref p1,v2]));refine#[_,rfl,a,_,1,_,rfl,rfl,D.same Y,rfl,(by show 1<=mH;decide),λZ m=>?_];have G:=Y.trans (ae m (.tup [v1]));refine#[_,rfl,a,_,3,_,rfl,rfl,D.same G,rfl,(by show 2<=mH;decide),λp4 C=>?_];have O:=G.trans (ae C (.tup [.ref Z,v3]));refine#[(by show 2<=mH;decide),λp5 g=>?_];have V:=O.trans (ae g (.lst [.ref W,.ref p4]));refine k p5 _ _ V af ?_;refine .cons (Rp.same ((ae m _).trans ((ae C _).trans (ae g _))) (Rp.new o (.cons (Rp.new q .nil) (.one (e2.same z))))) (.one ?_);exact Rp.same (ae g _) (Rp.new C (.cons (Rp.new m (.one (e1.same Y))) (.one (e3.same G))))
 .skip
  have R:ks.length=3:=by simpa[eR]using ar
  match ks,R with
  | [k0,k1,k2],R =>
  unfold qI at I;have(a,vs,rfl,D,d):=I.aS;have(v0,q0,rfl,U,B):=d.inv;obtain rfl:=U.aJ;have(v1,q1,rfl,e1,L):=B.inv;have(v2,q2,rfl,e2,J):=L.inv;have(v3,q3,rfl,e3,ab):=J.inv;have(v4,q4,rfl,e4,ao):=ab.inv;have(v5,q5,rfl,e5,an):=ao.inv;obtain rfl:=an.jk;ext;intro p1 q;have z:=ae q (.tup []);refine#[_,rfl,a,_,1,_,rfl,rfl,D.same z,rfl,(by show 2<=mH;decide),λW o=>?_];have Y:=z.trans (ae o (.tup [.ref p1,v1]));refine#[Nn _,λZ m=>?_];have G:=Y.trans (ae m (.tup []));refine#[_,rfl,a,_,4,_,rfl,rfl,D.same G,rfl,(by show 2<=mH;decide),λp4 C=>?_];have O:=G.trans (ae C (.tup [.ref Z,v4]));refine#[_,rfl,a,_,2,_,rfl,rfl,D.same O,rfl,_,rfl,a,_,3,_,rfl,rfl,D.same O,rfl,(by show 2<=mH;decide),λp5 g=>?_];have V:=O.trans (ae g (.tup [v2,v3]));refine#[_,rfl,a,_,5,_,rfl,rfl,D.same V,rfl,(by show 2<=mH;decide),λp6 ad=>?_];have s6:=V.trans (ae ad (.tup [.ref p5,v5]));refine#[(by show 3<=mH;decide),λp7 ac=>?_];have s7:=s6.trans (ae ac (.lst [.ref W,.ref p4,.ref p6]));refine k p7 _ _ s7 af ?_;have al:=(ae ad (.tup [.ref p5,v5])).trans (ae ac (.lst [.ref W,.ref p4,.ref p6]));have ag:=(ae g (.tup [v2,v3])).trans al;have am:=(ae m (.tup [])).trans ((ae C (.tup [.ref Z,v4])).trans ag);refine .cons (Rp.same am (Rp.new o (.cons (Rp.new q .nil) (.one (e1.same z))))) (.cons (Rp.same ag (Rp.new C (.cons (Rp.new m .nil) (.one (e4.same G))))) (.one ?_));exact Rp.same (ae ac _) (Rp.new ad (.cons (Rp.new g (.cons (e2.same O) (.one (e3.same O)))) (.one (e5.same V))))
end G14
namespace L2
open PySem PySem.Spec PyProof.Rows
theorem Dj :mK X (PN .Add) (λx y H Q=>∃a b ys,x=.ref a/\y=.ref b/\cH X.K H a []/\cH X.K H b ys/\Q (.ref b) H):=by
 intro t s Y H x y u v Q I L J h;have(a,b,ys,rfl,rfl,U,T,q):=h
 cases L
 cases J
 have(R,M,S,_):=I.tuple U;have(m,r2,o,_):=I.tuple T
 cases M
 have((W,V,C,G),z,B,n,hd):=id S;have((D,p,r,l),d,g,O,e):=id o;simp only at B hd g e;subst B hd g e
 exact Us #[_,z,rfl] #[_,d,rfl] SI T6 Q0 QM (QA _ _)
   (tuple_addW0 a b _ m.toArray n O V p G l (by simp)) #[z,d,#[.ref b,H,I,rfl,q]]
def GU(K:bN):R2:=λx y H Q=>∃a b e d,x=.ref a/\y=.ref b/\cH K H a e/\cH K H b d/\e.length+d.length<=mH/\∀p g,aT H g->cH K g p (e++d)->Q (.ref p) g
theorem jB :mK X (PN .Add) (GU X.K):=by
 intro d s l H x y u v Q I q o h;have(a,b,t,m,rfl,rfl,g,e,B,k):=h
 cases t with
 |nil=>exact Dj d s l H _ _ u v Q I q o #[a,b,m,rfl,rfl,g,e,k b H (aT.refl _) e]
 |cons x r =>
  exact Et d s l H _ _ u v Q I q o #[a,b,_,m,rfl,rfl,g,e,(by simp),B,(λz=>by subst z;have:=k a H (aT.refl _);rw[Ny]at this;exact this g),λ_ p C=>k p _ (ae C _) (cH.of af)]
end L2
namespace L2
open PySem
theorem Kf (q:PI X g l o)(p:PI X g l m):PI X g l (λe H R=>o e H R\/m e H R):=λd s e H R I h=>h.elim (q d s e H R I) (p d s e H R I)
end L2
namespace G14
open PySem L2
noncomputable def qp(ns:List Str)(o:Str):List Str:=ns.filter (λn=>decide (n≠o))++[o]
noncomputable def gj(ns d:List Str):List Str:=d.foldl qp ns
theorem BA (ns d:List Str)(o:Str):gj ns (d++[o])=qp (gj ns d) o:=by unfold gj;rw[List.foldl_append];rfl
theorem Dk (ns:List Str)(o:Str):(qp ns o).length<=ns.length+1:=by
 unfold qp;rw[i4];exact Nat.add_le_add_right (Rl _ _) 1
theorem nK :∀(d ns:List Str),(gj ns d).length<=ns.length+d.length
 | [],ns=>i5 _
 |o::r,ns=>by
  have h:=nK r (qp ns o);have e:=Dk ns o;show(gj (qp ns o) r).length<=_;rw[Np];omega
def Dl(K:bN):Sp:=λm H Q _=>∃(l:V) (b:Addr) (e d:List Str),m=[l,.ref b]/\Rp K H (.t (e.map .s)) l/\(H b=some (.lst (d.map V.str))\/cH K H b (d.map V.str))/\e.length+d.length<=900 /\
 ∀(v:V) (g:Hp),aT H g->Rp K g (.t ((gj e d).map .s)) v->Q v g
theorem nL :Nm VU (ak nT):=by decide
theorem yl :Lm VU (ak nT):=by decide
theorem tZ :aZ VU ["names","others"] (ak nT):=#[rfl,rfl,rfl,by decide,rfl,by decide,by decide]
theorem Dm (F:jr K "bound" "bound" nT f fd)(r:mg "tuple"=none):cA P w K mg base gy 1 f fd ["names","others"] (Dl K):=by
 refine F.ok tZ (λvs H Q E h=>?_) (λcdv A outer s H vs Q E hr h=>?_)
 .have(_,_,_,_,rfl,_):=h;rfl
 have(Y,b,u,g,rfl,hv,hb,hl,k):=h;refine#[_,(Z5 (Zh NC (Kf (lF (va nL 1)) (cz (va nL 1))) (ga tZ.nd yl 2) (Ze (Z4 tZ.nd yl 0 (Zn jB (Z7 cS r NX (Z1 (@kW _ _ _ _ _ _ _ _ _ _ _ (ak nT) VU ["name"] [2] rfl rfl rfl (by decide) (cz (va nL 0)) (λ_ _ _ _=>(Z3 (i:=0) (show(Wb:List Str).Nodup by decide))) (λ_ _ _ _=>(@xH _ _ _ (Zp pK (va (show Nm Wb _ by left) 0) (va (show Nm Wb _ by left) 1)))) (λ_ _ _ _=>(va (show Nm Wb _ by left) 0)) (by intro _;rfl)) aA)) (Zm (Zd (va nL 2))))))) (Ze (cI (va nL 0)))),?_]
 right
 right
 refine lS ?_;intro N0 c0;ext
 have fin:∀e d,(∃(v:V) (m:Option V),e=[some v,some (.ref b),m]/\aT H d/\Rp K d (.t ((gj u (g.take g.length)).map .s)) v)->N0 e d:=by
  rintro e d ⟨v,m,rfl,B,G⟩;rw[Nl]at G;ext;exact k v d B G
 have lo:(g.map V.str).length=g.length:=bM _
 have step:∀(i:Nat) (x:V) (e:St) (d:Hp),(g.map V.str)[i]?=some x->(∃(v:V) (m:Option V),e=[some v,some (.ref b),m]/\aT H d/\Rp K d (.t ((gj u (g.take i)).map .s)) v) ->
   iF 2 x e d λM H2=>(vI (GB (GU K) (Lh (λxs H Q=>∃p O,xs=[V.ref p]/\((bQ K H p O/\∀(l:Addr),H l=none->Q (V.ref l) (upd H l (HO.tup O)))\/cH K H p O/\Q (V.ref p) H)) (oB (uU [Of "name"].length [2] (Hu K (mR 0)) (iF 0) (B8 (GB LR (mR 0) (mR 1))) (mR 0)) xu)) (yR (oB (mR 2) xu))) (iF 0))
    {nx:=λe d=>∃(v:V) (m:Option V),e=[some v,some (.ref b),m]/\aT H d/\Rp K d (.t ((gj u (g.take (i+1))).map .s)) v,rt:=Q,bk:=N0,ct:=λe d=>∃(v:V) (m:Option V),e=[some v,some (.ref b),m]/\aT H d/\Rp K d (.t ((gj u (g.take (i+1))).map .s)) v} M H2:=by
  rintro i x e d hi ⟨v,m,rfl,B,G⟩;rw[EF]at hi;have(o,ho,rfl):=xn.mp hi;have U:i<g.length:=(bH.mp ho).1;have eo:g[i]=o:=(bH.mp ho).2;have eb:gj u (g.take (i+1))=qp (gj u (g.take i)) o:=by rw[mu U,eo,BA]
  have J:=nK (g.take i) u;rw[L1]at J;rw[eb];generalize gj u (g.take i)=L at G J|-;have(a1,C,rfl,sq,R):=G.aS;obtain rfl:=R.qb;ext;refine gb (xs:=L.map V.str) (λj e C Hd=>(∃y,e=[y,some (.str o)])/\Hd=d/\C=((L.take j).filter (λn=>decide (n≠o))).map V.str) #[#[_,rfl],rfl,rfl] ?_ (by rw[bM];exact Ol (bq ())) ?_ ?_ ?_
  .rintro j e C Hd hj ⟨_,_,rfl⟩;rw[bM];exact Nu (Rl _ _) (by rw[L1];omega)
  .rintro j e C Hd hj ⟨_,rfl,_⟩;exact sq
  .rintro j x e C Hd hj ⟨⟨x0,rfl⟩,rfl,rfl⟩;rw[EF]at hj;have(n,hn,rfl):=xn.mp hj;have S:j<L.length:=(bH.mp hn).1;have en:L[j]=n:=(bH.mp hn).2
   have et:(L.take (j+1)).filter (λn=>decide (n≠o))=(L.take j).filter (λn=>decide (n≠o))++(if n=o then []else [n]):=by
    rw[mu S,List.filter_append,en]
    by_cases c:n=o<;>simp[c]
   ext;refine cg (λc=>?_) (λc=>?_)
   .have W:¬n=o:=λz=>by subst z;simp at c
    ext;rw[et,if_neg W,lj];rfl
   .have W:n=o:=by simpa using c
    ext;rw[et,if_pos W,Ny]
  .rintro e C Hd ⟨_,rfl,rfl⟩ p hp;rw[bM,Nl]at *;have sp:=ae hp (.lst ((L.filter (λn=>decide (n≠o))).map V.str));ext;refine .inl #[bQ.of af,λl hl=>?_];have Z:=sp.trans (ae hl (.tup ((L.filter (λn=>decide (n≠o))).map V.str)));have I:=af (H:=upd Hd p (.lst ((L.filter (λn=>decide (n≠o))).map V.str))) (a:=l) (o:=.tup ((L.filter (λn=>decide (n≠o))).map V.str));generalize upd (upd Hd p (.lst ((L.filter (λn=>decide (n≠o))).map V.str))) l (.tup ((L.filter (λn=>decide (n≠o))).map V.str))=H3 at Z I|-;ext;intro q hq;have D:=ae hq (.tup [.str o]);have aa:=D _ _ I;have fl:(L.filter (λn=>decide (n≠o))).length<=L.length:=Rl _ _
   have hz:((L.filter (λn=>decide (n≠o))).map V.str).length+[V.str o].length<=mH:=by
    rw[bM];exact Ol (bq (by show(L.filter (λn=>decide (n≠o))).length+1<=1000;omega))
   ext;intro p4 H4 s4 q4;refine#[_,_,rfl,B.trans (Z.trans (D.trans s4)),?_];have e4:(qp L o).map T.s=((L.filter (λn=>decide (n≠o))).map T.s)++[T.s o]:=by unfold qp;rw[lj];rfl
   rw[e4];exact Rp.t q4 (by have:=bO.strs (K:=K) (H:=H4) (qp L o);unfold qp at this;rw[lj,lj]at this;exact this)
 rcases hb with hb|hb
 .refine .inl ?_;ext;refine xo (xs:=g.map V.str) (λi e d=>∃(v:V) (m:Option V),e=[some v,some (.ref b),m]/\aT H d/\Rp K d (.t ((gj u (g.take i)).map .s)) v) #[Y,none,rfl,aT.refl _,hv] (λi e d _ h=>?_) step (by rw[lo];exact fin);have(_,_,_,B,_):=h;exact bQ.of (B _ _ hb)
 .refine .inr ?_;ext;refine eY (xs:=g.map V.str) (λi e d=>∃(v:V) (m:Option V),e=[some v,some (.ref b),m]/\aT H d/\Rp K d (.t ((gj u (g.take i)).map .s)) v) #[Y,none,rfl,aT.refl _,hv] (λi e d _ h=>?_) step (by rw[lo];exact fin);have(_,_,_,B,_):=h;exact hb.same B
mutual
noncomputable def vj(ns:List Str):Tm->List (List Str×Tm)
 |.mk h ks=>(ns,.mk h ks)::qq ns (bnd h ks.length) ks
noncomputable def qq(ns:List Str):List (List Str)->List Tm->List (List Str×Tm)
 |b::bs,k::ks=>vj (gj ns b) k++qq ns bs ks
 |_,_=>[]
end
inductive Wn:Tm->Prop
 |mk {h:Hd}{ks:List Tm}:eR h ks.length=true->(∀b∈bnd h ks.length,b.length<=5)->(∀k∈ks,Wn k)->Wn (.mk h ks)
theorem Wn.wf :Wn d->Wf d:=by
 refine Tm.induct (P:=λt=>Wn t->Wf t) (λh ks g w=>?_) d
 cases w with
 |mk a b c=>exact .mk a λk e=>g k e (c k e)
noncomputable abbrev Pl:=List Str×Tm
noncomputable def IC(p:Pl):T:=.t [.t (p.1.map .s),enc p.2]
noncomputable def GV(st:List Pl):List Pl:=st.flatMap λp=>vj p.1 p.2
noncomputable def rJ:List Pl->Nat
 | []=>0
 |p::r=>p.2.size+rJ r
theorem jn :∀a b:List Pl,rJ (a++b)=rJ a+rJ b
 | [],b=>by simp[rJ]
 |x::r,b=>by rw[Qq,rJ,rJ,jn r b];omega
theorem wL :∀a:List Pl,rJ a.reverse=rJ a
 | []=>rfl
 |x::r=>by rw[PR,jn,wL r];simp only[rJ];omega
theorem Am :∀st:List Pl,st.length<=rJ st
 | []=>i5 _
 |(ns,.mk h ks)::r=>by
  have:=Am r;rw[Np,rJ,Tm.ik];omega
theorem vm (d:Tm)(wf:Wf d):(right d).map (·.2)=d.ks:=by
 cases wf with
 |mk ar wk =>
 rename_i h ks
 show(((bnd h ks.length).zip ks).map Prod.snd)=ks;refine List.map_snd_zip ?_
 cases h<;>simp_all[bnd,eR]
theorem qR (d:Tm)(wf:Wf d):(right d).length=d.ks.length:=by
 have z:=congrArg QL (vm d wf)
 rwa [bM]at z
theorem An (d:Tm):d.ks.length<d.size:=by
 cases d with
 |mk h ks =>
  rw[Tm.ik];show ks.length<_
  have:ks.length<=Tm.sizes ks:=by
   induction ks with
   |nil=>exact i5 _
   |cons k r ih=>rw[Tm.eB,Np];have:=Tm.size_pos k;omega
  omega
noncomputable def rK(ns:List Str)(d:Tm):List Pl:=(right d).map λq=>(gj ns q.1,q.2)
theorem Ao (ns:List Str):∀(bs:List (List Str)) (ks:List Tm),qq ns bs ks=GV ((bs.zip ks).map λq=>(gj ns q.1,q.2))
 | [],ks=>by cases ks<;>(unfold qq;rfl)
 |b::bs,[]=>by unfold qq;rfl
 |b::bs,k::ks=>by
  unfold qq;rw[P8,Nr,Ao ns bs ks];rfl
theorem Dn (ns:List Str)(d:Tm):vj ns d=(ns,d)::GV (rK ns d):=by
 cases d with
 |mk h ks=>unfold vj;rw[Ao];rfl
theorem Aq (ns:List Str):∀(l:List (List Str×Tm)),rJ (l.map λq=>(gj ns q.1,q.2))=Tm.sizes (l.map (·.2))
 | []=>rfl
 |q::r=>by rw[Nr,rJ,Nr,Tm.eB,Aq ns r]
theorem Fx (w:Wf d):rJ (rK ns d)+1=d.size:=by
 unfold rK;rw[Aq,vm d w]
 cases d with
 |mk h ks=>rw[Tm.ik];rfl
theorem nX :∀{ks:List Tm}{k:Tm},k∈ks->k.size<=Tm.sizes ks
 |x::r,k,h=>by
  rw[Tm.eB]
  cases h with
  |head=>omega
  |tail _ h=>have:=nX h;omega
theorem Ar (w:Wn d)(h:ns.length+5*d.size<=900):∀p∈rK ns d,Wn p.2/\p.1.length+5*p.2.size<=900:=by
 intro p m;have(q,l,rfl):=ND.mp m
 cases w with
 |mk a b c =>
  rename_i hd ks
  have e:q∈(bnd hd ks.length).zip ks:=l;have t:=b _ (Pc e).1;have g:=(Pc e).2;have r:=nK q.1 ns;have o:=nX g;rw[Tm.ik]at h;exact#[c _ g,by show(gj ns q.1).length+5*q.2.size<=900;omega]
theorem BB (w:Wn d):∀q∈right d,q.1.length<=5:=by
 cases w with
 |mk a b c=>exact λq e=>b _ (Pc (show q∈(bnd _ _).zip _ from e)).1
noncomputable def ID(ps:List (Str×T)):T:=.t (ps.map λp=>.t [.s p.1,p.2])
noncomputable def ym(K:bN):Sp:=λq H Q _=>∃(o m:V) (g:List (Str×T)) (d:Tm),q=[o,m]/\Rp K H (ID g) o/\Rp K H (enc d) m/\Wn d/\d.size<=160/\g.length<=50 /\
 ∀(p:Addr) (e:Hp) (l:List V),aT H e->H p=none->e p=some (.lst l)->bO K e ((vj (gj [] (g.map (·.1))) d).map IC) l->Q (.ref p) e
noncomputable def Kg(K:bN)(H:Hp)(v u:V)(lt r:Addr)(ns:List Str)(q:Tm)(m:Nat)(t:St)(e:Hp):Prop :=
 ∃(g d:List Pl) (l o:List V) (z y:Option V),t=[some v,some u,some (.ref lt),some (.ref r),z,y]/\aT H e/\e lt=some (.lst l)/\bO K e (g.map IC) l/\e r=some (.lst o)/\bO K e (d.map IC) o/\(∀p∈d,Wn p.2/\p.1.length+5*p.2.size<=900)/\g++GV d.reverse=vj ns q/\g.length+rJ d=q.size/\m=rJ d
theorem gu :Nm Vt (ak jX):=by decide
theorem nY :Lm Vt (ak jX):=by decide
theorem lz :aZ Vt ["params","term"] (ak jX):=#[rfl,rfl,rfl,by decide,rfl,by decide,by decide]
theorem BC (F:jr K "places" "places" jX f fd)(bn:eL P w K mg base "bound" 1 ["names","others"] (Dl K) gB bfd)(RI:eL P w K mg base "right_in" 1 ["term"] (vf K) gR rfd):cA P w K mg base gy 2 f fd ["params","term"] (ym K):=by
 refine F.ok lz (λvs H Q E h=>?_) (λcdv A outer s H vs Q E hr h=>?_)
 .have(_,_,_,_,rfl,_):=h;rfl
 have(vp,vt,I,tm,rfl,hp,ht,wf,ch,cl,k):=h;refine#[_,(Z5 (sa lz.nd nY 2 (dF aA)) (Z5 (Z4 lz.nd nY 3 (Zu (Z1 (Zm (Z1 (Z0 bn (Z1 (fH aA) (Z1 (Zg (ak jX) Vt Wc [] (cz (va gu 0)) (λ_ _ _ _=>(Z9 (2) (Zf (Z3 (i:=0) (show(Wc:List Str).Nodup by decide)) (Zt (Z3 (i:=1) (show(Wc:List Str).Nodup by decide)))))) (λ_ _ _ _=>(va (show Nm Wc _ by left) 0))) aA))) (Zd (va gu 1)))) aA))) (Z5 (@sE _ _ _ _ _ _ NC (xq (va gu 3) (λ_=>rfl)) (Z5 (Zq (HQ P1 PySem.F.slot_list_pop PySem.F.type_list_pop HS (va gu 3)) (Z9 (2) (Zf (ga lz.nd nY 4) (Zt (ga lz.nd nY 5))))) (Z5 (Zo (Z6 (va gu 2) (Z1 (Zm (Z1 (va gu 4) (Zd (va gu 5)))) aA))) (Ze (Zo (@xx _ _ _ _ _ _ _ _ _ _ _ _ P1 SD SE uQ (va gu 3) (Z1 (@A4 _ _ _ _ _ _ _ _ _ _ _ (Zg (ak jX) Vt ["others","inner"] [4] (@lF _ _ _ _ (Z0 RI (Zd (va gu 5)))) (λ_ _ _ _=>(Z9 (2) (Zf (Z3 (i:=0) (show(VP:List Str).Nodup by decide)) (Zt (Z3 (i:=1) (show(VP:List Str).Nodup by decide)))))) (λ_ _ _ _=>(Zm (Z1 (Z0 bn (Z1 (va (show Nm VP _ by left) 2) (Zd (va (show Nm VP _ by left) 0)))) (Zd (va (show Nm VP _ by left) 1)))))) eZ eZ (dm (pJ lH aC))) aA) (by rfl) (by rfl) (by rfl) (by rfl) (by rfl))))))) (Ze (cI (va gu 2)))))),?_]
 right
 right
 have(pa,a4,rfl,bv,a5):=hp.aS;have lp:=a5.length;rw[bM]at lp;ext;intro lt aq;have s1:=ae aq (.lst []);ext;intro p0 a9;have s2:=s1.trans (ae a9 (.tup []));have bl:upd (upd H lt (.lst [])) p0 (.tup []) lt=some (.lst []):=ae a9 _ _ _ af;have av:upd (upd H lt (.lst [])) p0 (.tup []) p0=some (.tup []):=af;generalize upd (upd H lt (.lst [])) p0 (.tup [])=H2 at s2 bl av|-;have ad:=cH.same s2 bv;have ag:=a5.same s2;ext;refine gb (xs:=a4) (λi J us Hd=>(∃x y,J=[x,y])/\Hd=H2/\us=((I.take i).map (·.1)).map V.str) #[#[_,_,rfl],rfl,rfl] ?_ (Ol (bq ())) ?_ ?_ ?_
 .rintro j J us Hd hj ⟨_,_,rfl⟩;rw[bM,bM,L1];omega
 .rintro j J us Hd hj ⟨_,rfl,_⟩;exact ad
 .rintro j x J us Hd hj ⟨⟨x0,y0,rfl⟩,rfl,rfl⟩;have(y,hy,ry):=ag.get' hj;rw[EF]at hy;have(q,hq,rfl):=xn.mp hy;have b2:j<I.length:=(bH.mp hq).1;have ac:I[j]=q:=(bH.mp hq).2;have(qa,u1,u2,rfl,a3,g1,g2):=ry.t2;obtain rfl:=g1.aJ;ext;rw[mu b2,ac,lj,lj];rfl
 .rintro J us Hd ⟨_,rfl,rfl⟩ lc hlc;have ec:((I.take a4.length).map (·.1)).map V.str=(I.map (·.1)).map V.str:=by rw[lp,Nl]
  rw[ec];have s3:=ae hlc (.lst ((I.map (·.1)).map V.str));ext
  .exact(Rp.t (cH.of (s3 _ _ av)) .nil:Rp K _ (.t (([]:List Str).map .s)) _)
  refine#[.inl af,by rw[bM,Qa];omega,λv1 H3 s4 bs=>?_];have a1:=s3.trans s4;have s5:=s2.trans a1;have bk:=a1 _ _ bl;clear s3 s4 ad ag av;ext;intro p1 a8;have Y:=ae a8 (.tup [v1,vt]);have D:=Y _ _ bk;have as:upd H3 p1 (.tup [v1,vt]) p1=some (.tup [v1,vt]):=af;have am:=bs.same Y;have s7:=s5.trans Y;generalize upd H3 p1 (.tup [v1,vt])=H4 at D as am Y s7|-;ext;intro v M;have U:=ae M (.lst [.ref p1]);have ao:lt≠v:=ay D M
  have ah:H v=none:=by
   cases e:H v with
   |none=>rfl
   |some o=>rw[s7 _ _ e]at M;cases M
  ext;refine#[Kg K H (.ref pa) vt lt v (gj [] (I.map (·.1))) tm,#[tm.size,[],[(gj [] (I.map (·.1)),tm)],[],[.ref p1],none,none,rfl,s7.trans U,U _ _ D,.nil,af,.one (Rp.t (cH.of (U _ _ as)) (.cons (am.same U) (.one (ht.same (s7.trans U))))),?_,?_,?_,?_],?_]
  .intro p hp;have hb:=nK (I.map (·.1)) [];rw[bM,Qa]at hb
   cases hp with
   |head=>exact#[wf,by show(gj [] (I.map (·.1))).length+5*tm.size<=900;omega]
   |tail _ h=>cases h
  .simp[GV]
  .simp[rJ]
  .simp[rJ]
  clear U M am as D a8 s7 Y H4;rintro m J H' ⟨dn,st,O,us,o1,o2,rfl,sm,h1,r1,h2,r2,aw,e1,e2,rfl⟩;have l1:=r1.length;rw[bM]at l1;refine#[_,rfl,_,.inl #[us,bQ.of h2,rfl],?_];rcases Qg st with rfl|⟨st',hd,rfl⟩
  .obtain rfl:=r2.jk;refine ux rfl ?_;ext;have z:dn=vj (gj [] (I.map (·.1))) tm:=by simpa[GV]using e1
   exact k lt H' O sm aq h1 (by rw[<-z];exact r1)
  .rw[Tj]at *;rw[lj]at r2;have(g,ul,rfl,r3,r4):=r2.split;have(u,q,rfl,ru,rq):=(show bO K H' [IC hd] ul from r4).inv;obtain rfl:=rq.jk;have(wh,R):=aw hd (by simp);have(B,d):=hd
   replace wh:Wn d:=wh
   replace R:B.length+5*d.size<=900:=R
   have(G,nv,tv,rfl,bp,rn,rt):=(show Rp K H' (.t [.t (B.map .s),enc d]) u from ru).t2
   have hz:dn.length+rJ st'+d.size=tm.size:=by
    rw[jn]at e2;simp only[rJ]at e2;omega
   have hk:=An d;refine Jm (by simp) ?_;refine#[λbo b9=>∃m',m' < rJ (st'++[(B,d)])/\Kg K H (.ref pa) vt lt v (gj [] (I.map (·.1))) tm m' bo b9,λ_ _ z=>z,?_];have b1:(g++[V.ref G])[(g++[V.ref G]).length-1]?=some (V.ref G):=by simp
   have b6:(g++[V.ref G]).dropLast=g:=List.dropLast_concat;have k3:Kt H' (upd H' v (.lst (g++[V.ref G]).dropLast)):=Kt.lst h2 _;have b5:upd H' v (.lst (g++[V.ref G]).dropLast) lt=some (.lst O):=by rw[au ao];exact h1
   have b4:upd H' v (.lst (g++[V.ref G]).dropLast) v=some (.lst (g++[V.ref G]).dropLast):=af;have cb:=bp.kt k3;have cg:O.length<mH:=bq ();ext;intro L ab;have k4:Kt (upd H' v (.lst (g++[V.ref G]).dropLast)) (upd (upd H' v (.lst (g++[V.ref G]).dropLast)) L (.tup [nv,tv])):=Kt.same (ae ab _);have bg:=ae ab (.tup [nv,tv]) _ _ b5;have ar:=ae ab (.tup [nv,tv]) _ _ b4;have bh:upd (upd H' v (.lst (g++[V.ref G]).dropLast)) L (.tup [nv,tv]) L=some (.tup [nv,tv]):=af
   have a0:aT H (upd (upd H' v (.lst (g++[V.ref G]).dropLast)) L (.tup [nv,tv])):=λb o e=>by
    refine ae ab _ b o ?_;have n2:b≠v:=ay e ah;rw[au n2];exact sm b o e
   have a6:=k3.trans k4;generalize upd (upd H' v (.lst (g++[V.ref G]).dropLast)) L (.tup [nv,tv])=H4 at a6 bg ar bh a0|-;rw[b6]at ar;have k5:Kt H4 (upd H4 lt (.lst (O++[V.ref L]))):=Kt.lst bg _;have be:upd H4 lt (.lst (O++[V.ref L])) v=some (.lst g):=by rw[au ao.symm];exact ar
   have aa:=a6.trans k5;have bt:=rt.kt aa;have S:=wh.wf;have co:d.ks.length<=900:=()
   ext;intro p6 H6 ax Y h6 r6
   have az:aT H (upd H4 lt (.lst (O++[V.ref L]))):=λb o e=>by
    have n2:b≠lt:=ay e aq;rw[au n2];exact a0 b o e
   have bf:upd H4 lt (.lst (O++[V.ref L])) lt=some (.lst (O++[V.ref L])):=af;generalize upd H4 lt (.lst (O++[V.ref L]))=H5 at aa k5 be bf az bt Y|-;ext;have l6:=r6.length;rw[bM,qR d S]at l6;have bu:=(rn.kt aa).same Y;refine kX (K:=K) (a:=p6) (xs:=ax) (λi J l Hd=>(∃x y,J=[x,y,some nv])/\aT H6 Hd/\bO K Hd (((right d).take i).map λq=>IC (gj B q.1,q.2)) l) #[#[_,_,rfl],aT.refl _,.nil] ?_ (Ol (bq ())) ?_ ?_ ?_
   .rintro i J l Hd hi ⟨_,_,r⟩;rw[r.length,bM,L1];omega
   .rintro i J l Hd hi ⟨_,T,_⟩;exact bQ.of (T _ _ h6)
   .rintro i x J l Hd hi ⟨⟨x0,y0,rfl⟩,T,r⟩;have(y,hy,ry):=r6.get' hi;rw[EF]at hy;have(q,hq,rfl):=xn.mp hy;have ba:i<(right d).length:=(bH.mp hq).1;have ac:(right d)[i]=q:=(bH.mp hq).2;have bz:q∈right d:=by rw[<-ac];exact NP ba
    have ck:q.1.length<=5:=BB wh q bz;have(qa,u1,u2,rfl,a3,g1,g2):=(show Rp K H6 (.t [.t (q.1.map .s),enc q.2]) x from ry).t2;have(oa,cf,rfl,bw,bx):=g1.aS;obtain rfl:=bx.qb;have cc:=cH.same T a3;have cd:=cH.same T bw;have ce:=bu.same T;have cj:=Tm.size_pos d;have ca:B.length+5*d.size<=900:=R;have cn:B.length+q.1.length<=900:=()
    ext;intro v7 H7 s7 br;ext;intro p8 b0;have U:=ae b0 (.tup [v7,u2]);have al:=s7.trans U;ext
    .exact T.trans al
    rw[mu ba,ac,lj];exact(r.same al).snoc (Rp.t (cH.of af) (.cons (br.same U) (.one ((g2.same T).same al))))
   .rintro J l Hd ⟨_,T,r⟩ p9 hp9;have e9:(right d).take ax.length=right d:=by rw[l6,<-qR d S,Nl]
    rw[e9]at r;have s9:=ae hp9 (.lst l);have W:=Y.trans (T.trans s9);have l9:=r.length;rw[bM,qR d S]at l9;have bb:=W _ _ be;have bc:=W _ _ bf;have b3:upd Hd p9 (.lst l) p9=some (.lst l):=af;have r9:=r.same s9;generalize upd Hd p9 (.lst l)=H9 at W bb bc b3 r9|-;ext
    .rw[xN,Pg];exact small ()
    rw[xN];intro an a7;have Z:=ae a7 (.lst l.reverse);have ai:=Z _ _ bb;have aj:=Z _ _ bc;have bi:upd H9 an (.lst l.reverse) an=some (.lst l.reverse):=af;have C:=W.trans Z;have a2:=r9.same Z;generalize upd H9 an (.lst l.reverse)=H10 at C ai aj bi a2|-;have l3:=r3.length;rw[bM]at l3;have ci:=Am st';have cm:g.length+l.reverse.length<=mH:=by rw[Pg];exact small ()
    have ap:Kt H10 (upd H10 v (.lst (g++l.reverse))):=Kt.lst ai _;have kA:=aa.trans ((Kt.same C).trans ap);have kz:=Fx (ns:=B) S;ext
    .exact(show rJ st'+rJ (rK B d)<rJ (st'++[(B,d)]) by rw[jn];have:rJ [(B,d)]=d.size:=rfl;omega)
    refine#[dn++[(B,d)],st'++(rK B d).reverse,O++[.ref L],g++l.reverse,_,_,rfl,?_,?_,?_,af,?_,?_,?_,?_,?_]
    .intro b o e;have n2:b≠v:=ay e ah;rw[au n2];exact C b o (az b o e)
    .rw[au ao];exact aj
    .rw[lj];exact(r1.kt kA).snoc (Rp.t ((cH.of bh).kt (k5.trans ((Kt.same C).trans ap))) (.cons (rn.kt kA) (.one (rt.kt kA))))
    .rw[lj,UL];refine(r3.kt kA).append ?_;have b8:(rK B d).map IC=(right d).map λq=>IC (gj B q.1,q.2):=by unfold rK;rw[NZ];rfl
     rw[b8];exact(a2.kt ap).reverse
    .intro p hp;rcases M7.mp hp with h|h
     .exact aw p (NG _ h)
     .exact Ar wh R p (List.mem_reverse.mp h)
    .rw[T3,List.reverse_reverse];have bm:dn++GV (st'++[(B,d)]).reverse=vj (gj [] (I.map (·.1))) tm:=e1;rw[T3]at bm;rw[<-bm];simp only[GV,NQ,PR,List.reverse_nil,PF,OT,SM,Ny,Oa,Qq];rw[Dn];simp[GV]
    .rw[i4,jn,wL];have:[(B,d)].length=1:=rfl;omega
    .rw[jn,wL]
end G14
namespace G14
open PySem L2
def Un(xs:List Str):Prop:=∀(i j:Nat) (x:Str),xs[i]?=some x->xs[j]?=some x->i=j
noncomputable def lets:List Nat:=(Of "abcdefghijklmnopqrstuvwxyz").cps.toList
theorem Fy :∀i<26,∀j<26,lets[i]?=lets[j]?->i=j:=by decide
theorem Dp :lets.length=26:=by decide
def uv(e:List Nat)(d:Int)(i:Nat)(x:Str):Prop:=∃c r,eK lets ((d+7*(i:Int)) % 26)=some c/\x.cps.toList=e++c::r
theorem uv.un (hi:i<26)(y:j<26)(a:uv g d i x)(b:uv g d j x):i=j:=by
 have(c,r,p,t):=a;have(B,v,o,m):=b;rw[t]at m;have e:=List.append_cancel_left m;injection e with e _;subst e
 have f:∀n:Int,0<=n->n<26->eK lets n=lets[n.toNat]?:=λn z h=>by
  have l:n.toNat<lets.length:=by rw[Dp];omega
  have u:n=((n.toNat:Nat):Int):=()
  have q:eK lets ((n.toNat:Nat):Int)=some lets[n.toNat]:=aG (my l);rw[<-u]at q;rw[q,my l]
 rw[f _ () ()]at p o;have:=Fy _ () _ () (p.trans o.symm);omega
theorem uv.snoc (a:uv e d i x)(y:Str):uv e d i (x++y):=by
 have(c,r,l,g):=a;refine#[c,r++y.cps.toList,l,?_];show(x.cps++y.cps).toList=_;rw[RO,g];simp
theorem uv.MW (m:xs.length<=26)(h:∀j x,xs[j]?=some x->uv e d j x):Un xs:=λi j x l g=>by
 have:=(bH.mp l).1;have:=(bH.mp g).1;exact uv.un () () (h i x l) (h j x g)
theorem uv.last (I:(xs++[g,t]).length<=26)(M:0<y.length)(h:∀j x,(xs++[g,t])[j]?=some x->uv l d j x):Un (xs++[g,g++y]):=by
 have H:xs.length+2<=26:=by simpa using I
 have L:uv l d xs.length g:=h xs.length g (by simp);have v:uv l d xs.length (g++y):=L.snoc y
 have u:g++y≠g:=λz=>by
  have:=congrArg S1 z;rw[Rv]at this;omega
 have m:∀j x,j<xs.length+1->(xs++[g,g++y])[j]?=some x->uv l d j x:=λj x O e=>by
  refine h j x ?_
  by_cases c:j<xs.length
  .rw[NY c]at e|-;exact e
  .have:j=xs.length:=()
   subst this;simp at e|-;exact e
 intro i j x p o;have G:=(bH.mp p).1;have D:=(bH.mp o).1;have C:(xs++[g,g++y]).length=xs.length+2:=by simp
 rw[C]at G D
 have lst:∀k x,k=xs.length+1->(xs++[g,g++y])[k]?=some x->x=g++y:=λk x J e=>by
  subst J;rw[NN ()]at e;simp at e;exact e.symm
 by_cases B:i<xs.length+1
 .by_cases r:j<xs.length+1
  .exact uv.un () () (m i x B p) (m j x r o)
  .have q:=lst j x () o;subst q;have:=uv.un () () (m i _ B p) v;subst this;exact absurd (by simpa using p) u.symm
 .by_cases r:j<xs.length+1
  .have q:=lst i x () p;subst q;have:=uv.un () () (m j _ r o) v;subst this;exact absurd (by simpa using o) u.symm
  .omega
def Lo(x:Str):Prop:=∀c∈x.cps.toList,c<1000
theorem Lo.append (a:Lo x)(b:Lo y):Lo (x++y):=λc h=>by
 have d:c∈(x.cps++y.cps).toList:=h;rw[RO]at d;rcases M7.mp d with h|h
 .exact a c h
 .exact b c h
theorem Lo.slice (a:Lo x)(l u:Option Int):Lo (O4 x l u):=λc h=>by
 unfold O4 at h
 split at h
 .exact a c h
 .rw[List.toList_toArray]at h;have(i,_,e):=RY.mp h;refine a c ?_;rw[Ry];exact Array.mem_of_getElem? e
theorem As :∀c∈lets,c<1000:=by decide
theorem Lo.one (h:c∈lets):Lo ⟨#[c]⟩:=λd hd=>by
 have:d=c:=by simpa using hd
 rw[this];exact As c h
theorem Lo.q (b:Bool):Lo (Sl "q" (if b then 1 else 0)):=by
 have h:∀b:Bool,((Sl "q" (if b then 1 else 0)).cps.toList.all (· < 1000))=true:=by decide
 intro c d;have:=NO.mp (h b) c d
 simpa using this
theorem Lo.q1 :Lo (Of "q"):=by
 have h:((Of "q").cps.toList.all (· < 1000))=true:=by decide
 intro c d;have:=NO.mp h c d
 simpa using this
def Au:Sp:=λg H Q _=>∃(f:Addr) (m:Nat),g=[.ref f,.int m]/\1<=m/\m<=26/\cP H f /\
 ∀(r:Addr) (e:Hp) (d:List Str),Ext f H e->H r=none->e r=some (.lst (d.map V.str))->d.length=m->(∀x∈d,x.length<=20/\Lo x)->Un d->Q (.ref r) e
theorem Ext.free (e:Ext f H d)(h:d l=none):H l=none:=by
 cases q:H l with
 |none=>rfl
 |some o =>
  by_cases n:l=f
  .subst n;have(a,b,z):=e.2;rw[h]at z;cases z
  .rw[e.1 l o n q]at h;cases h
structure Kh(P:I0) (w:Ni) (K:bN) (mg:Str->Option eF) (base:Heap) (C:Addr) (m:Str) (k:Nat) (ps:List Str) (sp:Sp) (f:Addr) (fd:M5):Prop where
 ok:cA P w K mg base gy k f fd ps sp
 m:Meth K C m f
 bd:Binds K fd ps []
 c:GC K C
abbrev Df:=Str×List (Str×Kk)×Tm
def Wo(x:Str):Prop:=x.length<=20/\Lo x
def HW:Hd->Prop
 |.name x=>Wo x
 |.tag t=>Wo t
 |.call f=>Wo f
 |.mat arms=>∀a∈arms,Wo a.1/\∀x∈a.2,Wo x
 |.fold x _=>Wo x
 |_=>True
inductive Ta:Tm->Prop
 |mk {h:Hd}{ks:List Tm}:tW h->HW h->(∀k∈ks,Ta k)->Ta (.mk h ks)
def Km(d:Df):Prop:=Wn d.2.2/\Ta d.2.2/\d.2.2.size<=80/\d.2.1.length<=10
noncomputable def jC(kl:Kl):List (Str×Nat)->List Int->List Int->List Df->Option Flt
 |_,_,_,[]=>none
 |ds,gs,os,d::r=>if d.1∈ds.map (·.1)then some (.tw,d.1)else match cY (kl.map (·.1)) [] os d.2.1 with
  |.error f=>some f
  |.ok os'=>match iN kl ds gs (vj (gj [] (d.2.1.map (·.1))) d.2.2)with
   |.error f=>some f
   |.ok gs'=>jC kl (ds++[(d.1,d.2.1.length)]) gs' os' r
theorem vy {kl:Kl}{ds:List (Str×Nat)}{gs g:List Int}{dl:List Df}{i:Nat}{d:Df}(h:dl[i]?=some d):jC kl ds gs g (dl.drop i)=if d.1∈ds.map (·.1)then some (.tw,d.1)else match cY (kl.map (·.1)) [] g d.2.1 with
  |.error f=>some f
  |.ok os'=>match iN kl ds gs (vj (gj [] (d.2.1.map (·.1))) d.2.2)with
   |.error f=>some f
   |.ok gs'=>jC kl (ds++[(d.1,d.2.1.length)]) gs' os' (dl.drop (i+1)):=by
 have e:=(bH.mp h).1;have l:dl.drop i=d::dl.drop (i+1):=by rw[NF e,(bH.mp h).2]
 rw[l];rfl
noncomputable def cy(kl:Kl)(dl:List Df):Option Flt:=match cQ [] [] kl with
 |some f=>some f
 |none=>jC kl [] [] [] dl
theorem BD {kl:Kl}{ds:List (Str×Nat)}{gs:List Int}{ps:List (List Str×Tm)}{i:Nat}{p:List Str×Tm}(h:ps[i]?=some p):iN kl ds gs (ps.drop i)=match eO kl ds gs p.1 p.2.hd p.2.ks.length with
  |.error f=>.error f
  |.ok gs'=>iN kl ds gs' (ps.drop (i+1)):=by
 have d:=(bH.mp h).1;have e:ps.drop i=p::ps.drop (i+1):=by rw[NF d,(bH.mp h).2]
 rw[e];rfl
theorem yn (e:eO kl ds gs ns h n=.ok l):l.length<=gs.length+1:=by
 have same:∀{g:List Int},(Except.ok (ε:=Flt) gs)=.ok g->g.length<=gs.length+1:=λ{g} q=>by cases q;exact Ot _
 cases h with
 |name x =>
  have e:(if x∈ns then Except.ok gs else .error (Er.nn,x))=.ok l:=e
  by_cases c:x∈ns
  .rw[if_pos c]at e;exact same e
  .rw[if_neg c]at e;cases e
 |tag t =>
  have e:(match jK kl t with
   |none=>Except.error (Er.nn,t)
   |some y=>if n=y.2.2.length then Except.ok gs else .error (.wr,t))=.ok l:=e
  cases q:jK kl t with
  |none=>rw[q]at e;cases e
  |some y =>
   rw[q]at e;have e:(if n=y.2.2.length then Except.ok gs else .error (Er.wr,t))=.ok l:=e
   by_cases c:n=y.2.2.length
   .rw[if_pos c]at e;exact same e
   .rw[if_neg c]at e;cases e
 |call t =>
  have e:(match ds.find? (λd=>decide (d.1=t))with
   |none=>Except.error (Er.nn,t)
   |some y=>if n=y.2 then Except.ok gs else .error (.wr,t))=.ok l:=e
  cases q:ds.find? (λd=>decide (d.1=t))with
  |none=>rw[q]at e;cases e
  |some y =>
   rw[q]at e;have e:(if n=y.2 then Except.ok gs else .error (Er.wr,t))=.ok l:=e
   by_cases c:n=y.2
   .rw[if_pos c]at e;exact same e
   .rw[if_neg c]at e;cases e
 |mat arms =>
  have e:(match gx kl arms with
   |some f=>Except.error f
   |none=>Except.ok gs)=.ok l:=e
  cases q:gx kl arms with
  |none=>rw[q]at e;exact same e
  |some y=>rw[q]at e;cases e
 |fold x y =>
  have e:(if x=y then .error (Er.tw,x)else Except.ok gs)=.ok l:=e
  by_cases c:x=y
  .rw[if_pos c]at e;cases e
  .rw[if_neg c]at e;exact same e
 |gap m =>
  have e:(if m∈gs then .error (Er.tw,("?":Str))else Except.ok (gs++[m]))=.ok l:=e
  by_cases c:m∈gs
  .rw[if_pos c]at e;cases e
  .rw[if_neg c]at e
   cases e
   rw[i4];exact i5 _
 |num _=>exact same e
 |op _=>exact same e
 |row=>exact same e
 |more=>exact same e
 |first=>exact same e
 |others=>exact same e
 |long=>exact same e
 |ife=>exact same e
 |lt _=>exact same e
def LI(p:List Str×Tm):Prop:=eR p.2.hd p.2.ks.length=true/\tW p.2.hd/\p.2.size<=80/\p.1.length+5*p.2.size<=900
theorem Fz :Wn d->Ta d->d.size<=80->∀ns:List Str,ns.length+5*d.size<=900->∀p∈vj ns d,LI p:=by
 refine Tm.induct (P:=λd=>Wn d->Ta d->d.size<=80->∀ns:List Str,ns.length+5*d.size<=900->∀p∈vj ns d,LI p) (λh ks r w t g ns m p hp=>?_) d;rw[Dn]at hp;rcases M8.mp hp with rfl|hp
 .cases w with
  |mk a b c =>
   cases t with
   |mk x _ y=>exact#[a,x,g,m]
 .have(q,l,hp):=Pr.mp hp;have(o,l2):=Ar w m q l;have(z,u,rfl):=ND.mp l;have e:z.2∈ks:=(Pc (show z∈(bnd h ks.length).zip ks from u)).2
  cases t with
  |mk x _ y =>
   have:=nX e;rw[Tm.ik]at g;exact r _ e o (y _ e) () _ l2 p hp
theorem FA (ns:List Str)(d:Tm)(w:Wn d):(vj ns d).length=d.size:=by
 revert ns
 refine Tm.induct (P:=λd=>Wn d->∀ns,(vj ns d).length=d.size) (λh ks q w ns=>?_) d w
 have g:∀(bs:List (List Str)) (l:List Tm),bs.length=l.length->(∀k∈l,k∈ks)->(∀k∈l,Wn k)->(qq ns bs l).length=Tm.sizes l:=by
  intro bs
  induction bs with
  |nil=>intro l e _ _;obtain rfl:l=[]:=P0.mp e.symm;unfold qq;rfl
  |cons b bs ihb =>
   intro l e p o
   cases l with
   |nil=>cases e
   |cons k l =>
    unfold qq;rw[i4,q k (p k (.head _)) (o k (.head _)),ihb l (by simpa using e) (λx m=>p x (.tail _ m)) (λx m=>o x (.tail _ m)),Tm.eB]
 cases w with
 |mk a b c =>
  unfold vj;rw[Np,Tm.ik,g _ ks ?_ (λ_ h=>h) c]
  cases h<;>simp_all[bnd,eR]
mutual
noncomputable def uE(kl:Kl)(ds:List (Str×Nat)):List Int->List Str->Tm->Except Flt (List Int)
 |gs,ns,.mk h ks=>match eO kl ds gs ns h ks.length with
  |.error f=>.error f
  |.ok gs'=>jG kl ds gs' ns (bnd h ks.length) ks
noncomputable def jG(kl:Kl)(ds:List (Str×Nat)):List Int->List Str->List (List Str)->List Tm->Except Flt (List Int)
 |gs,ns,b::bs,k::ks=>match uE kl ds gs (ns++b) k with
  |.error f=>.error f
  |.ok gs'=>jG kl ds gs' ns bs ks
 |gs,_,_,_=>.ok gs
end
theorem uc (kl:Kl)(ds:List (Str×Nat))(gs:List Int)(ns:List Str)(h:Hd)(ks:List Tm):uE kl ds gs ns (.mk h ks)=match eO kl ds gs ns h ks.length with
  |.error f=>.error f
  |.ok gs'=>jG kl ds gs' ns (bnd h ks.length) ks:=by unfold uE;rfl
theorem jo (kl:Kl)(ds:List (Str×Nat))(gs:List Int)(ns b:List Str)(bs:List (List Str))(k:Tm)(ks:List Tm):jG kl ds gs ns (b::bs) (k::ks)=match uE kl ds gs (ns++b) k with
  |.error f=>.error f
  |.ok gs'=>jG kl ds gs' ns bs ks:=by
 conv=>lhs;unfold jG
theorem j6 (kl:Kl)(ds:List (Str×Nat))(gs:List Int)(ns:List Str)(bs:List (List Str)):jG kl ds gs ns bs []=.ok gs:=by
 unfold jG
 cases bs<;>rfl
theorem Dq {kl:Kl}{ds:List (Str×Nat)}{gs:List Int}{ns:List Str}{bs:List (List Str)}{ks:List Tm}{i:Nat}{b:List Str}{k:Tm}(e:bs[i]?=some b)(d:ks[i]?=some k):jG kl ds gs ns (bs.drop i) (ks.drop i)=match uE kl ds gs (ns++b) k with
  |.error f=>.error f
  |.ok gs'=>jG kl ds gs' ns (bs.drop (i+1)) (ks.drop (i+1)):=by
 have l:bs.drop i=b::bs.drop (i+1):=by rw[NF (bH.mp e).1,(bH.mp e).2]
 have g:ks.drop i=k::ks.drop (i+1):=by rw[NF (bH.mp d).1,(bH.mp d).2]
 rw[l,g,jo]
theorem yo (kl:Kl)(ds:List (Str×Nat)):∀(a b:List (List Str×Tm)) (gs:List Int),iN kl ds gs (a++b)=match iN kl ds gs a with
  |.error f=>.error f
  |.ok gs'=>iN kl ds gs' b
 | [],b,gs=>rfl
 |p::r,b,gs=>by
  show(match eO kl ds gs p.1 p.2.hd p.2.ks.length with
   |.error f=>Except.error f
   |.ok gs'=>iN kl ds gs' (r++b))=match(match eO kl ds gs p.1 p.2.hd p.2.ks.length with
   |.error f=>Except.error f
   |.ok gs'=>iN kl ds gs' r)with
   |.error f=>Except.error f
   |.ok gs'=>iN kl ds gs' b
  cases eO kl ds gs p.1 p.2.hd p.2.ks.length with
  |error f=>rfl
  |ok gs'=>exact yo kl ds r b gs'
theorem Dr :x∈qp ns o↔x∈ns\/x=o:=by
 unfold qp;rw[M7,S9,IF];constructor
 .rintro(⟨h,_⟩|h)
  .exact .inl h
  .exact .inr h
 .rintro(h|h)
  .by_cases c:x=o
   .exact .inr c
   .exact .inl #[h,decide_eq_true c]
  .exact .inr h
theorem ud :∀{d ns:List Str}{x:Str},x∈gj ns d↔x∈ns\/x∈d
 | [],ns,x=>by
  show x∈ns↔_;exact#[.inl,λh=>h.elim id nofun]
 |o::r,ns,x=>by
  show x∈gj (qp ns o) r↔_;rw[ud,Dr,M8,or_assoc]
theorem BE (e:∀x,x∈ns↔x∈d):eO kl ds gs ns h n=eO kl ds gs d h n:=by
 cases h with
 |name x =>
  show(if x∈ns then Except.ok gs else .error (Er.nn,x))=if x∈d then Except.ok gs else .error (Er.nn,x)
  by_cases c:x∈ns
  .rw[if_pos c,if_pos ((e x).mp c)]
  .rw[if_neg c,if_neg (λz=>c ((e x).mpr z))]
 |_=>rfl
theorem IE (g:Tm):∀(gs:List Int) (ns d:List Str),(∀x,x∈ns↔x∈d)->iN kl ds gs (vj ns g)=uE kl ds gs d g:=by
 refine Tm.induct (P:=λg=>∀(gs:List Int) (ns d:List Str),(∀x,x∈ns↔x∈d)->iN kl ds gs (vj ns g)=uE kl ds gs d g) (λh ks p gs ns d e=>?_) g
 have m:∀(l:List Tm),(∀k∈l,k∈ks)->∀(bs:List (List Str)) (gs:List Int),iN kl ds gs (qq ns bs l)=jG kl ds gs d bs l:=by
  intro l
  induction l with
  |nil=>intro _ bs gs;rw[j6];cases bs<;>(unfold qq;rfl)
  |cons k r ihl =>
   intro o bs gs
   cases bs with
   |nil=>unfold qq jG;rfl
   |cons b bs =>
    unfold qq;rw[yo,jo,p k (o k (.head _)) gs (gj ns b) (d++b) (λx=>by rw[ud,M7,e x])]
    cases uE kl ds gs (d++b) k with
    |error f=>rfl
    |ok gs'=>exact ihl (λx q=>o x (.tail _ q)) bs gs'
 rw[uc];unfold vj
 show(match eO kl ds gs ns h ks.length with
   |.error f=>Except.error f
   |.ok gs'=>iN kl ds gs' (qq ns (bnd h ks.length) ks))=_
 rw[BE e]
 cases eO kl ds gs d h ks.length with
 |error f=>rfl
 |ok gs'=>exact m ks (λ_ h=>h) _ gs'
noncomputable def nN(S:mF)(H:Hp)(ns:List Str)(bs:List (List Str))(vs:List V):Prop:=vs.length=bs.length/\∀(i:Nat) (b:List Str),bs[i]?=some b->∃a,vs[i]?=some (.ref a)/\(a≠S.lg/\a≠S.lo)/\H a=some (.lst ((ns++b).map V.str))
theorem FE (d:H a=some (.lst (ns.map V.str)))(e:a≠S.lg/\a≠S.lo):nN S H ns (Nb m []) (Nb m (.ref a)):=by
 refine#[by rw[OM,OM],λi b g=>?_];have l:i<m:=by have:=(bH.mp g).1;rwa [OM]at this
 have o:b=[]:=(Ul.mp (M9 g)).2;subst o;exact#[a,by rw[PY,if_pos l],e,by rw[Ny];exact d]
theorem wM :nN S H ns [] []:=#[rfl,λi b d=>by simp at d]
theorem lA (n:a≠S.lg/\a≠S.lo)(h:H a=some (.lst ((ns++b).map V.str)))(o:nN S H ns bs vs):nN S H ns (b::bs) (.ref a::vs):=by
 refine#[by rw[Np,Np,o.1],λi c d=>?_]
 cases i with
 |zero =>
  obtain rfl:b=c:=by simpa using d
  exact#[a,rfl,n,h]
 |succ i=>rw[List.getElem?_cons_succ]at d|-;exact o.2 i c d
theorem nN.same (o:nN S H ns bs vs)(s:aT H H'):nN S H' ns bs vs:=#[o.1,λi b d=>by
 have(a,l,g,e):=o.2 i b d;exact#[a,l,g,s _ _ e]]
theorem Ds (o:nN S H ns bs vs)(n:a≠S.lg/\a≠S.lo)(h:H a=some (.lst ((ns++b).map V.str))):nN S H ns (bs++[b]) (vs++[.ref a]):=by
 refine#[by rw[i4,i4,o.1];rfl,λi c d=>?_]
 by_cases g:i<bs.length
 .rw[NY g]at d;rw[NY (by rw[o.1];exact g)];exact o.2 i c d
 .rw[NN ()]at d
  have e:i-bs.length=0:=by
   have:=(bH.mp d).1;rw[Rg]at this;omega
  rw[e]at d;obtain rfl:b=c:=by simpa using d
  refine#[a,?_,n,h];rw[NN (by rw[o.1];omega),o.1,e];rfl
theorem eG.yp (h:eG p S m g ds gs l H)(x:iA S H d)(e:H a=some (.lst xs))(n:a≠S.lg/\a≠S.lo):d a=some (.lst xs):=by
 have(r,t1,_):=h.ht;have(t,o,_):=h.hd;exact x a _ (λq=>by rw[q,h.hk]at e;cases e) (λq=>by rw[q,t1]at e;cases e) (λq=>by rw[q,o]at e;cases e) n.2 n.1 e
noncomputable def ue(K:bN)(n:Nat):Sp:=λz H Q _=>∃(t:Hp) (S:mF) (v:V) (d r:Addr) (g:Kl) (p:List (Str×Nat)) (o y:List Int) (e:Tm) (q:List Str),z=[.ref d,v,.ref r]/\eG t S g (rG g) p o y H/\S.d=d/\Rp K H (enc e) v/\Wn e/\Ta e/\e.depth<n/\e.size<=80/\H r=some (.lst (q.map V.str))/\(r≠S.lg/\r≠S.lo)/\q.length+5*e.size<=900/\o.length+e.size<=900/\wY g/\(je g).Nodup /\
 (∀f,uE g p o q e=.error f->∀u l,rW t S p.length l->iA S H l->mO l (some f) u->Q u l)/\(∀m,uE g p o q e=.ok m->∀l,eG t S g (rG g) p m y l->iA S H l->m.length<=o.length+e.size->Q .eN l)
structure L3(H0:Hp) (S:mF) (kl:Kl) (ds:List (Str×Nat)) (gs gs' os:List Int) (ns:List Str) (bs:List (List Str)) (ks:List Tm) (i:Nat) (H H2:Hp):Prop where
 k:eG H0 S kl (rG kl) ds gs' os H2
 t:iA S H H2
 e:jG kl ds gs ns bs ks=jG kl ds gs' ns (bs.drop i) (ks.drop i)
 l:gs'.length+Tm.sizes (ks.drop i)<=gs.length+Tm.sizes ks
end G14
namespace G14
open PySem L2
def qt(K:bN):Sp:=λl H Q _=>∃(v:V) (d:Tm),l=[v]/\Rp K H (enc d) v/\Wf d/\d.size<=900 /\
 ∀(p:Addr) (e:Hp) (g:List V),aT H e->H p=none->e p=some (.lst g)->bO K e (d.ks.map enc) g->Q (.ref p) e
theorem Dt (xs:List V)(j:Nat):jv xs (some (j:Int)) none=xs.drop j:=by
 unfold jv;rw[HT.kg,HT.sH];rcases Uv j xs.length with h|h
 .rw[PJ h,Oh (by rw[NW];omega)]
 .rw[SN h,P6 h,P6 (i5 _)];simp
theorem FF (xs:List V)(j:Nat)(e:1<=j)(d:1<=xs.length):¬(HT.ir xs.length 0 (some (j:Int))=0/\HT.ir xs.length xs.length none=xs.length):=λz=>by
 have:=z.1;rw[HT.kg]at this;omega
theorem yq (L:arms.length=ks.length)(M:cH K H0 v vs)(hr:bO K H0 (Og oV arms ks) vs)(C:ks.length<=1000)(k:∀(p:Addr) (u:List V),H0 p=none->bO K H0 ks u->Q (.ref p) (upd H0 p (.lst u))):
  mC (zH K v) (El K 3 (sD (iF 0) (sD (iF 1) (sD (iF 2) Ho)))) uT (mR 2) Q [none,none,none] H0:=by
 have l:=hr.length;rw[Oz,L,Q7]at l;refine gb (xs:=vs) (λi g e o=>(∃x y z,g=[x,y,z])/\o=H0/\bO K H0 (ks.take i) e) #[#[none,none,none,rfl],rfl,.nil] ?_ (small ()) ?_ ?_ ?_
 .rintro i g e o D ⟨_,_,r⟩;rw[r.length,L1];omega
 .rintro i g e o D ⟨_,rfl,_⟩;exact M
 .rintro i x g e o hx ⟨⟨U,S,R,rfl⟩,rfl,r⟩;have(y,B,H):=hr.get' hx;have D:i<vs.length:=(bH.mp hx).1;have q:i<arms.length:=()
  have m:i<ks.length:=()
  rw[Ri,my q,my m]at B
  cases B
  have(J,I,rfl,G,d):=(show Rp K _ (.t [_,_,_]) x from H).aS;have(t1,q1,rfl,h1,d):=d.inv;have(t2,Y,rfl,Z,d):=d.inv;have(t3,W,rfl,O,d):=d.inv;obtain rfl:=d.jk;refine#[J,_,rfl,G,rfl,_,_,rfl,_,_,rfl,_,_,rfl,rfl,?_];refine#[_,rfl,#[_,_,_,rfl],rfl,?_];rw[mu m];exact r.snoc O
 .rintro g e o ⟨_,rfl,r⟩ p hp;rw[Oh ()]at r;exact k p e hp r
theorem FG (xs:List d)(y:d):eK (xs++[y]) (-1)=some y:=by
 unfold eK vM;rw[if_neg (by decide),if_pos (by rw[i4];simp;omega),Pp,show(-1+(((xs++[y]).length:Nat):Int)).toNat=xs.length by rw[i4];simp;omega];simp
abbrev nW(d:Str)(b:Bool):Prop:=oj (.str d) [.str "row",.str "tag",.str "call"]=false/\decide (V.str d=.str "match")=false/\decide (V.str d=.str "fold")=false/\oj (.str d) [.str "num",.str "name",.str "gap"]=b
theorem FH {ks: List Tm}(l : eR hd ks.length = true):
    (∃ e d, (∀ g, qI hd g = .t ((.s e :: d) ++ [.t g])) ∧ oj (.str e) [.str "row", .str "tag", .str "call"] = true) ∨ (∃ arms, hd = .mat arms) ∨ (∃ x y, hd = .fold x y) ∨
    (∃ e r, ks = [] ∧ qI hd [] = .t (.s e :: r) ∧ nW e true) ∨
    (∃ e d, (∀ g, qI hd g = .t ((.s e :: d) ++ g)) ∧ nW e false ∧ (d.length = 0 ∧ oj (.str e) [.str "op", .str "let"] = false ∨ d.length = 1 ∧ oj (.str e) [.str "op", .str "let"] = true)) := by
  cases hd
  case row => exact .inl #["row", [], λ_ => rfl, by decide]
  case tag t => exact .inl #["tag", [.s t], λ_ => rfl, by decide]
  case call t => exact .inl #["call", [.s t], λ_ => rfl, by decide]
  case mat arms => exact .inr (.inl #[_, rfl])
  case fold x y => exact .inr (.inr (.inl #[_, _, rfl]))
  case num n => obtain rfl : ks = [] := by simpa [eR] using l
                exact .inr (.inr (.inr (.inl #["num", _, rfl, rfl, by decide])))
  case name n => obtain rfl : ks = [] := by simpa [eR] using l
                 exact .inr (.inr (.inr (.inl #["name", _, rfl, rfl, by decide])))
  case gap n => obtain rfl : ks = [] := by simpa [eR] using l
                exact .inr (.inr (.inr (.inl #["gap", _, rfl, rfl, by decide])))
  case op s => exact .inr (.inr (.inr (.inr #["op", [.s s], λ_ => rfl, by decide, .inr #[rfl, by decide]])))
  case lt s => exact .inr (.inr (.inr (.inr #["let", [.s s], λ_ => rfl, by decide, .inr #[rfl, by decide]])))
  case more => exact .inr (.inr (.inr (.inr #["more", [], λ_ => rfl, by decide, .inl #[rfl, by decide]])))
  case first => exact .inr (.inr (.inr (.inr #["first", [], λ_ => rfl, by decide, .inl #[rfl, by decide]])))
  case others => exact .inr (.inr (.inr (.inr #["others", [], λ_ => rfl, by decide, .inl #[rfl, by decide]])))
  case long => exact .inr (.inr (.inr (.inr #["long", [], λ_ => rfl, by decide, .inl #[rfl, by decide]])))
  case ife => exact .inr (.inr (.inr (.inr #["if", [], λ_ => rfl, by decide, .inl #[rfl, by decide]])))
theorem cU :Nm VW (ak jZ):=by decide
theorem yr :aZ VW VW (ak jZ):=#[rfl,rfl,rfl,by decide,rfl,by decide,by decide]
theorem BF (F:jr K "_law_within" "_law_within" jZ f fd)(D:mg "list"=none)(T:mg "int"=none):cA P w K mg base gy 1 f fd VW (qt K):=by
 refine F.ok yr (λvs H Q E h=>?_) (λcdv A outer s H vs Q E hr h=>?_)
 .have(v,tm,rfl,_):=h;rfl
 have(v,tm,rfl,L,wf,ab,k):=h;refine#[_,(Z5 (Zb (Zi gq (Z8 aP (va cU 0)) (Zm (Z1 aH (dc aH (Zd aH)))) (by with_unfolding_all rfl)) (Ze (Zv (Z7 iS D OW (Z1 (iI aP (va cU 0) (pJ lH aC) (λ_ _=>rfl)) aA))))) (Z5 (Zb (Zi bV (Z8 aP (va cU 0)) aH (bG _)) (Ze (Zv (Zn iT (Zu (Z1 (Z8 aP (va cU 0)) aA)) (Zg (ak jZ) VW Vh [] (@cz _ _ _ _ (Z8 aP (va cU 0))) (λ_ _ _ _=>(Z9 (3) (Zf (Z3 (i:=0) (show(Vh:List Str).Nodup by decide)) (Zf (Z3 (i:=1) (show(Vh:List Str).Nodup by decide)) (Zt (Z3 (i:=2) (show(Vh:List Str).Nodup by decide))))))) (λ_ _ _ _=>(va (show Nm Vh _ by left) 2))))))) (Z5 (Zb (Zi bV (Z8 aP (va cU 0)) aH (bG _)) (Ze (Zv (Zu (Z1 (Z8 aP (va cU 0)) (Z1 (Z8 aP (va cU 0)) (Z1 (Z8 aP (va cU 0)) aA))))))) (Z5 (Zb (Zi gq (Z8 aP (va cU 0)) (Zm (Z1 aH (dc aH (Zd aH)))) (by with_unfolding_all rfl)) (Ze (cI (dF aA)))) (Ze (Zv (Z7 iS D OW (Z1 (@dY _ _ _ _ _ _ _ _ _ _ vK (va cU 0) (@dm _ _ _ (Zn dS aC (Z7 iH T OB (Z1 (@jq _ _ _ _ _ _ _ _ gq (Z8 aP (va cU 0)) (Zm (dc aH (Zd aH))) (by with_unfolding_all rfl)) aA)))) eZ) aA)))))))),?_]
 right
 cases wf with
 |mk ar wk =>
 rename_i hd ks
 have wf:Wf (.mk hd ks):=.mk ar wk;rw[cZ]at L;have M:ks.length<900:=Nd (An (.mk hd ks)) ab;have nE:(ks.map enc).length=ks.length:=bM _;have S0:∀(p:Addr) (o:HO) (H:Hp),H p=none->aT H (upd H p o):=λp o H h=>ae h o;rcases FH ar with⟨fm,pre,he,hin⟩|⟨arms,rfl⟩|⟨x,y,rfl⟩|⟨fm,r,rfl,he,n1,n2,n3,n4⟩|⟨fm,pre,he,⟨n1,n2,n3,n4⟩,hp⟩
 .rw[he]at L;have(a,vs,rfl,g,hr):=L.aS;have(Z,G,rfl,C,B):=bO.split hr;have(vb,_,rfl,eb,u):=B.inv;obtain rfl:=u.jk;have(b,G,rfl,R,U):=eb.aS;have(v0,wr,rfl,S,_):=C.inv;obtain rfl:=S.aJ;refine#[_,rfl,a,_,0,_,rfl,rfl,g,aG (j:=0) rfl,(by show 3<=mH;decide),λI m=>#[I,_,rfl,.inr (cH.of af),rfl,rfl,_,rfl,Jm hin ?_]];have d:=S0 I (.tup [.str "row",.str "tag",.str "call"]) H m;refine#[_,rfl,_,rfl,a,_,-1,_,rfl,rfl,g.same d,FG _ _,b,_,rfl,.inr (R.same d),λl hl=>?_];exact k l _ G (d.trans (ae hl _)) (d.free hl) af (U.same (d.trans (ae hl _)))
 .have hk:ks.length=arms.length+1:=by simpa[eR]using ar
  match ks,hk with
  |k0::kr,hk =>
  have ah:arms.length=kr.length:=by simpa using hk.symm
  unfold qI at L;have(a,vs,rfl,g,W):=L.aS;have(v0,q0,rfl,S,C):=bO.inv W;have(v1,q1,rfl,e1,B):=bO.inv C;have(v2,q2,rfl,e2,u):=bO.inv B;obtain rfl:=S.aJ;obtain rfl:=u.jk;have(b,G,rfl,R,U):=e2.aS;refine#[_,rfl,a,_,0,_,rfl,rfl,g,rfl,(by show 3<=mH;decide),λI m=>#[I,_,rfl,.inr (cH.of af),rfl,rfl,_,rfl,ux (by decide) ?_]];have d:=ae m (.tup [.str "row",.str "tag",.str "call"]);refine#[_,rfl,a,_,0,_,rfl,rfl,g.same d,rfl,rfl,_,rfl,Jm (by decide) ?_];refine#[_,rfl,a,_,1,_,rfl,rfl,g.same d,rfl,(by show 1<=mH;decide),λJ t=>?_];have q:=d.trans (ae t (.lst [v1]));refine#[_,rfl,a,_,2,_,rfl,rfl,g.same q,rfl,b,rfl,#[_,R.same q],?_];refine yq (arms:=arms) (ks:=kr.map enc) (by rw[bM];exact ah) (R.same q) (by exact U.same q) (by rw[bM];have:=M;simp at this;omega) λp Z hp r4=>?_;have z2:upd (upd (upd H I (.tup [.str "row",.str "tag",.str "call"])) J (.lst [v1])) p (.lst Z) J=some (.lst [v1]):=(ae hp _) _ _ af;have l4:=r4.length;rw[bM]at l4;refine#[J,p,_,_,rfl,rfl,z2,af,small (by have:=M;simp at this;show 1+_<=1000;omega),λp5 Y=>?_];have s5:=q.trans ((ae hp (.lst Z)).trans (ae Y (.lst ([v1]++Z))));refine k p5 _ _ s5 ((q.trans (ae hp (.lst Z))).free Y) af ?_;exact .cons (e1.same s5) (r4.same ((ae hp _).trans (ae Y _)))
 .have hk:ks.length=3:=by simpa[eR]using ar
  match ks,hk with
  | [k0,k1,k2],hk =>
  unfold qI at L;have(a,vs,rfl,g,W):=L.aS;have(v0,q0,rfl,S,C):=bO.inv W;have(v1,q1,rfl,e1,B):=bO.inv C;have(v2,q2,rfl,e2,u):=bO.inv B;have(v3,q3,rfl,e3,ag):=bO.inv u;have(v4,q4,rfl,e4,ad):=bO.inv ag;have(v5,q5,rfl,e5,ac):=bO.inv ad;obtain rfl:=S.aJ;obtain rfl:=ac.jk;refine#[_,rfl,a,_,0,_,rfl,rfl,g,rfl,(by show 3<=mH;decide),λI m=>#[I,_,rfl,.inr (cH.of af),rfl,rfl,_,rfl,ux (by decide) ?_]];have d:=ae m (.tup [.str "row",.str "tag",.str "call"]);refine#[_,rfl,a,_,0,_,rfl,rfl,g.same d,rfl,rfl,_,rfl,ux (by decide) ?_];refine#[_,rfl,a,_,0,_,rfl,rfl,g.same d,rfl,rfl,_,rfl,Jm (by decide) ?_];refine#[_,rfl,a,_,1,_,rfl,rfl,g.same d,rfl,_,rfl,a,_,4,_,rfl,rfl,g.same d,rfl,_,rfl,a,_,5,_,rfl,rfl,g.same d,rfl,(by show 3<=mH;decide),λJ t=>?_];have q:=d.trans (ae t (.lst [v1,v4,v5]));exact k J _ _ q (d.free t) af (.cons (e1.same q) (.cons (e4.same q) (.one (e5.same q))))
 .rw[show([]:List Tm).map enc=[]from rfl,he]at L;have(a,vs,rfl,g,hr):=L.aS;have(v0,wr,rfl,S,_):=hr.inv;obtain rfl:=S.aJ;refine#[_,rfl,a,_,0,_,rfl,rfl,g,aG (j:=0) rfl,(by show 3<=mH;decide),λI m=>#[I,_,rfl,.inr (cH.of af),rfl,rfl,_,rfl,ux n1 ?_]];have d:=S0 I (.tup [.str "row",.str "tag",.str "call"]) H m;refine#[_,rfl,a,_,0,_,rfl,rfl,g.same d,aG (j:=0) rfl,rfl,_,rfl,ux n2 ?_];refine#[_,rfl,a,_,0,_,rfl,rfl,g.same d,aG (j:=0) rfl,rfl,_,rfl,ux n3 ?_];refine#[_,rfl,a,_,0,_,rfl,rfl,g.same d,aG (j:=0) rfl,(by show 3<=mH;decide),λJ t=>#[J,_,rfl,.inr (cH.of af),rfl,rfl,_,rfl,Jm n4 ?_]];have q:=d.trans (S0 J (.tup [.str "num",.str "name",.str "gap"]) _ t);refine#[Nn _,λp3 O=>?_];exact k p3 _ _ (q.trans (ae O _)) (q.free O) af .nil
 .rw[he]at L;have(a,vs,rfl,g,hr):=L.aS;have(Z,G,rfl,C,B):=bO.split hr;have(v0,wr,rfl,S,u):=C.inv;obtain rfl:=S.aJ;have lw:=u.length;refine#[_,rfl,a,_,0,_,rfl,rfl,g,aG (j:=0) rfl,(by show 3<=mH;decide),λI m=>#[I,_,rfl,.inr (cH.of af),rfl,rfl,_,rfl,ux n1 ?_]];have d:=S0 I (.tup [.str "row",.str "tag",.str "call"]) H m;refine#[_,rfl,a,_,0,_,rfl,rfl,g.same d,aG (j:=0) rfl,rfl,_,rfl,ux n2 ?_];refine#[_,rfl,a,_,0,_,rfl,rfl,g.same d,aG (j:=0) rfl,rfl,_,rfl,ux n3 ?_];refine#[_,rfl,a,_,0,_,rfl,rfl,g.same d,aG (j:=0) rfl,(by show 3<=mH;decide),λJ t=>#[J,_,rfl,.inr (cH.of af),rfl,rfl,_,rfl,ux n4 ?_]];have q:=d.trans (S0 J (.tup [.str "num",.str "name",.str "gap"]) _ t)
  have hn:(1+(if oj (.str fm) [.str "op",.str "let"]=true then 1 else 0):Int)=((pre.length+1:Nat):Int):=by
   rcases hp with⟨l,e⟩|⟨l,e⟩<;>rw[l,e]<;>rfl
  have hc:∀X:Int,X=((pre.length+1:Nat):Int)->jv (.str fm::wr++G) (some X) none=G/\¬(HT.ir (V.str fm::wr++G).length 0 (some X)=0/\HT.ir (V.str fm::wr++G).length (V.str fm::wr++G).length none=(V.str fm::wr++G).length):=λX e=>by
   rw[e];refine#[?_,FF _ _ () (by simp)];rw[Dt,<-lw];exact List.drop_left (l₁:=.str fm::wr)
  refine#[_,rfl,_,rfl,a,_,0,_,rfl,rfl,g.same q,aG (j:=0) rfl,(by show 2<=mH;decide),λp3 O=>#[p3,_,rfl,.inr (cH.of af),rfl,rfl,.inr #[_,rfl,_,_,rfl,rfl,_,rfl,?_]]];have s3:=q.trans (S0 p3 (.tup [.str "op",.str "let"]) _ O);refine#[a,_,rfl,g.same s3,(hc _ hn).2,λp4 aa=>?_];refine#[p4,G,rfl,.inr (cH.of (af.trans (congrArg (λz=>some (HO.tup z)) (hc _ hn).1))),λl hl=>?_];have s5:=(s3.trans (ae aa _)).trans (ae hl (.lst G));exact k l _ G s5 ((s3.trans (ae aa _)).free hl) af (B.same s5)
theorem aO :Nm Vd (ak bX):=by decide
theorem eV :Lm Vd (ak bX):=by decide
theorem dU :aZ Vd Ve (ak bX):=#[rfl,rfl,rfl,by decide,rfl,by decide,by decide]
theorem rX {P:I0}{w:Ni}{K:bN}{mg:Str->Option eF}{base:Heap}{gW gH:Addr}{wfd hfd:M5}{n j:Nat}(hj:1<=j){f:Addr}{cdv:eF}{A:Nq}{outer:List OE}{s:fy}{H1:Hp}{E:XK}(WI:eL P w K mg base "_law_within" 1 VW (qt K) gW wfd)(an:eL P w K mg base "_law_term_fault" j Ve (ue K n) gH hfd)(I:mg "zip"=none)(hr:dj j (A.deeper (Nj "_law_term_fault" (ak bX) s.heap.objs.size f cdv))){D:L2.Ends}{H0 H:Hp}{S:mF}{kl:Kl}{ds:List (Str×Nat)}{gs os:List Int}{v fv:V}{la ls:Addr}{h:Hd}{ks:List Tm}{ns:List Str}{vs:List V}{o1 o2:Option V}(sc:eG H0 S kl (rG kl) ds gs os H)(hv:Rp K H (enc (.mk h ks)) v)(wf:Wn (.mk h ks))(ta:Ta (.mk h ks))(hd:(Tm.mk h ks).depth<n+1)(hz:(Tm.mk h ks).size<=80)(hl:ns.length+5*(Tm.mk h ks).size<=900)(hg:gs.length+Tm.sizes ks<=900)(hB:wY kl)(hnd:(je kl).Nodup)(hs:H ls=some (.lst vs))(hsf:ls≠S.lg/\ls≠S.lo)(L:nN S H ns (bnd h ks.length) vs)(kf:∀f,jG kl ds gs ns (bnd h ks.length) ks=.error f->∀z m,rW H0 S ds.length m->iA S H m->mO m (some f) z->D.rt z m)(ko:∀g,jG kl ds gs ns (bnd h ks.length) ks=.ok g->∀m,eG H0 S kl (rG kl) ds g os m->iA S H m->g.length<=gs.length+Tm.sizes ks->D.rt .eN m):
  jb (Zj gy Vd "_law_term_fault" (ak bX) H1).nR ((bg bX).drop 6) D [some (.ref S.d),some v,some (.ref la),some fv,some (.ref ls),o1,o2] H:=by
 refine d7 ((Z5 (Zh NC (Ie K rfl (by left) I (Z1 (Z0 WI (Zd (va aO 1))) (Zd (va aO 4)))) (Z9 (2) (Zf (ga dU.nd eV 5) (Zt (ga dU.nd eV 6)))) (Z5 (Z4 dU.nd eV 3 (Z0 an (Z1 (va aO 0) (Z1 (va aO 5) (Zd (va aO 6)))))) (Ze (Zb (Zp rQ (va aO 3) gv) (Ze (cI (va aO 3))))))) (b7 (cI gv)))) ?_
 right
 right
 have aa:=wf.wf;have aq:(Tm.mk h ks).size<=900:=()
 ext;intro lw H2 ws Q W h2 r2;have l2:=r2.length;rw[bM]at l2;have ao:ws.length=ks.length:=l2;have R:=Q _ _ hs;have b1:nU K false H2 lw ws:=bQ.of h2;have b2:nU K false H2 ls vs:=bQ.of R;have r:=sc.ext Q;have ad:lw≠S.lg/\lw≠S.lo:=#[(ay sc.hg W).symm,(ay sc.ho W).symm];have(az,L):=L
 have ai:(bnd h ks.length).length=ks.length:=by
  cases aa with
  |mk ar wk=>cases h<;>simp_all[bnd,eR]
 have U:min ws.length vs.length=ks.length:=()
 ext;refine E2 (xs:=ws) (ys:=vs) (λi M u=>(∃o3 o1 o2,M=[some (.ref S.d),some v,some (.ref la),o3,some (.ref ls),o1,o2])/\∃g,L3 H0 S kl ds gs g os ns (bnd h ks.length) ks i H2 u) #[#[_,_,_,rfl],gs,r,iA.refl _ _,rfl,i5 _] ?_ ?_ ?_ ?_
 .rintro i M u hi ⟨_,g,o⟩;exact bQ.of (r.yp o.t h2 ad)
 .rintro i M u hi ⟨_,g,o⟩;exact bQ.of (r.yp o.t R hsf)
 .rintro i x y M u p hx hy ⟨⟨_,_,_,rfl⟩,g,o⟩ hp;have(t,ht,rt):=r2.get' hx;rw[EF]at ht;have(kd,Y,rfl):=xn.mp ht;have C:ks[i]?=some kd:=Y;have Z:i<ks.length:=(bH.mp C).1;obtain⟨b,hb⟩:∃b,(bnd h ks.length)[i]?=some b:=#[_,my (by rw[ai];exact Z)];have G:=o.e;rw[Dq hb C]at G;have(J,ho,ag,T):=L i b hb;rw[hy]at ho;obtain rfl:=Ng ho;have B:kd∈ks:=M9 C
  have a1:b.length<=5:=by
   cases wf with
   |mk a bb c=>exact bb b (M9 hb)
  have as:Wn kd:=by
   cases wf with
   |mk a b c=>exact c kd B
  have aw:Ta kd:=by
   cases ta with
   |mk a _ b=>exact b kd B
  have a0:kd.depth<n:=by have:=Tm.A3 (h:=h) (ks:=ks) B;omega
  have ax:=nX B;have av:Tm.sizes ks+1=(Tm.mk h ks).size:=by rw[Tm.ik]
  have ap:kd.size<=80:=()
  have sp:=ae hp (.tup [x,.ref J]);have ab:=o.k.ext sp;have ac:=(rt.kt (r.uA o.t)).same sp;have g4:upd u p (.tup [x,.ref J]) J=some (.lst ((ns++b).map V.str)):=sp _ _ (r.yp o.t (Q _ _ T) ag);have z1:(ns++b).length+5*kd.size<=900:=by rw[i4];omega
  have am:ks.drop i=kd::ks.drop (i+1):=by rw[NF Z,(bH.mp C).2]
  have l3:=o.l;rw[am,Tm.eB]at l3;have z2:g.length+kd.size<=900:=()
  have t3:iA S H u:=(iA.of Q).trans o.t
  have fE:∀f,uE kl ds g (ns++b) kd=.error f->∀z m,rW H0 S ds.length m->iA S (upd u p (.tup [x,.ref J])) m->mO m (some f) z->D.rt z m:=λf hf z m w' O ft=>by
   rw[hf]at G;exact kf f G z m w' ((t3.same sp).trans O) ft
  have aj:upd u p (.tup [x,.ref J]) p=some (.tup [x,.ref J]):=af;generalize upd u p (.tup [x,.ref J])=H4 at sp ab ac g4 fE aj|-;ext
  .intro f hf z m w' O ft;have fin:=fE f hf z m w' O ft;have(q,rfl,hq):=ft;ext;exact fin
  .intro al ah m k' O l';rw[ah]at G;have fin:L3 H0 S kl ds gs al os ns (bnd h ks.length) ks (i+1) H2 m:=#[k',(o.t.same sp).trans O,G,()];ext;exact fin
 .rintro M u ⟨⟨_,_,_,rfl⟩,g,o⟩;have G:=o.e;rw[U,NH,j6]at G;have l3:=o.l;rw[U,NH]at l3;have fin:=ko g G u o.k ((iA.of Q).trans o.t) (Nu (Po _ _) l3);ext;exact fin
theorem Du {ks: List Tm}(e : eR h ks.length = true): (∃ (d : Str) (r : List T), qI h (ks.map enc) = .t (.s d :: r) ∧ d ≠ "let" ∧ d ≠ "fold" ∧ d ≠ "match" ∧ bnd h ks.length = Nb ks.length []) ∨ (∃ arms, h = .mat arms) ∨ (∃ x, h = .lt x) ∨ ∃ x y, h = .fold x y := by
  cases h
  case mat arms => exact .inr (.inl #[_, rfl])
  case lt x => exact .inr (.inr (.inl #[_, rfl]))
  case fold x y => exact .inr (.inr (.inr #[_, _, rfl]))
  case num n => obtain rfl : ks = [] := by simpa [eR] using e
                exact .inl #[_, _, rfl, by decide, by decide, by decide, rfl]
  case name x => obtain rfl : ks = [] := by simpa [eR] using e
                 exact .inl #[_, _, rfl, by decide, by decide, by decide, rfl]
  case gap n => obtain rfl : ks = [] := by simpa [eR] using e
                exact .inl #[_, _, rfl, by decide, by decide, by decide, rfl]
  all_goals exact .inl #[_, _, rfl, by decide, by decide, by decide, rfl]
theorem Dv (h:m a=some (.lst vs))(g:vs.length<=1000)(k:∀(p:Addr),m p=none->Q (.ref p) (upd m p (.lst (Nb vs.length (.ref o))))):mC (GA K a) (iF 0) uT (mR 1) Q [none,some (.ref o)] m:=by
 refine kX (xs:=vs) (λi d e l=>(∃x,d=[x,some (.ref o)])/\l=m/\e=Nb i (.ref o)) #[#[none,rfl],rfl,rfl] ?_ (small g) ?_ ?_ ?_
 .rintro i d e l hi ⟨_,_,rfl⟩;rw[OM];exact i5 _
 .rintro i d e l hi ⟨_,rfl,_⟩;exact bQ.of h
 .rintro i x d e l hx ⟨⟨q,rfl⟩,rfl,rfl⟩;ext;rw[List.replicate_succ']
 .rintro d e l ⟨_,rfl,rfl⟩ p hp;exact k p hp
theorem IG (hj:4<=j)(F:jr K "_law_term_fault" "_law_term_fault" bX f fd)(WI:eL P w K mg base "_law_within" 1 VW (qt K) gW wfd)(cm:eL P w K mg base "_law_itself_fault" 4 Ve (tX K) gI ifd)(az:eL P w K mg base "_law_term_fault" j Ve (ue K n) gH hfd)(D:mg "zip"=none)(ap:mg "list"=none):
  cA P w K mg base gy (j+1) f fd Ve (ue K (n+1)):=by
 refine F.ok dU (λvs H Q E h=>?_) (λcdv A outer s H vs Q E hr h=>?_)
 .have(_,_,_,_,_,_,_,_,_,_,_,rfl,_):=h;rfl
 have(H0,S,v,d,e,kl,ds,gs,os,tm,g,rfl,sc,rfl,hv,wf,ta,hd,hz,ca,ah,hl,hg,hB,ax,kf,ko):=h;refine#[_,(Z5 (Z4 dU.nd eV 3 (Z0 cm (Z1 (va aO 0) (Z1 (va aO 1) (Zd (va aO 2)))))) (Z5 (Zb (Zp rQ (va aO 3) gv) (Ze (cI (va aO 3)))) (Z5 (@nj _ _ _ _ _ _ _ _ _ _ _ _ _ _ _ (ak bX) Vd ["_law_inner"] [2] rfl rfl rfl (by decide) (@lF _ _ _ _ (Z0 WI (Zd (va aO 1)))) (λ_ _ _ _=>(Z3 (i:=0) (show(["_law_inner","_law_around"]:List Str).Nodup by decide))) (λ_ _ _ _=>fZ) (λ_ _ _ _=>(va (show Nm ["_law_inner","_law_around"] _ by left) 1)) (ga dU.nd eV 4) (by kernel_rfl) (by intro _;rfl)) (Z5 (Zb (Zi bV (Z8 aP (va aO 1)) aH (bG _)) (Ze (Zq (Zn iT (va aO 2) (Zu (Z1 (Z8 aP (va aO 1)) aA))) (mT (va aO 4) aC set_list)))) (Z5 (Zb (Zi bV (Z8 aP (va aO 1)) aH (bG _)) (Ze (Zq (Zn iT (va aO 2) (Zu (Z1 (Z8 aP (va aO 1)) (Z1 (Z8 aP (va aO 1)) aA)))) (mT (va aO 4) aC set_list)))) (Z5 (Zb (Zi bV (Z8 aP (va aO 1)) aH (bG _)) (Ze (Z4 dU.nd eV 4 (Zn iT (Zu (Zd (va aO 2))) (Zg (ak bX) Vd Vh [2] (@cz _ _ _ _ (Z8 aP (va aO 1))) (λ_ _ _ _=>(Z9 (3) (Zf (Z3 (i:=0) (show(Vq:List Str).Nodup by decide)) (Zf (Z3 (i:=1) (show(Vq:List Str).Nodup by decide)) (Zt (Z3 (i:=2) (show(Vq:List Str).Nodup by decide))))))) (λ_ _ _ _=>(Zn iT (va (show Nm Vq _ by left) 3) (Z7 (uC K rfl) ap OW (Zd (va (show Nm Vq _ by left) 1)))))))))) cO)))))),?_]
 right
 right
 have bz:=wf.wf;have hk:=An tm;have(h,ks):=tm;have ao:eR h ks.length=true:=by cases bz with|mk a b=>exact a
 have cl:tW h:=by cases ta with|mk a _ b=>exact a
 have cv:Tm.sizes ks+1=(Tm.mk h ks).size:=by rw[Tm.ik]
 have cd:ks.length<(Tm.mk h ks).size:=hk;have lk:ks.length<=900:=()
 have l:g.length<=900:=()
 have lg:gs.length<=900:=()
 have cu:(Tm.mk h ks).size<=900:=()
 have eT:=uc kl ds gs g h ks;ext
 .intro f hf v' H' s' ft;rw[hf]at eT;have fin:=kf f eT v' H' ((sc.ext s').w (i5 _)) (iA.of s') ft;have(q,rfl,hq):=ft;ext;exact fin
 intro al bs H1 m t1;rw[bs]at eT;have bg:uE kl ds gs g (.mk h ks)=jG kl ds al g (bnd h ks.length) ks:=eT;have cs:=yn bs;have aw:=hv.kt (sc.uA t1);have ac:=sc.yp t1 ca ah;have ad:al.length+Tm.sizes ks<=900:=()
 have av:∀{Ha:Hp},iA S H1 Ha->∀f,jG kl ds al g (bnd h ks.length) ks=.error f->∀v' H',rW H0 S ds.length H'->iA S Ha H'->mO H' (some f) v'->Q v' H':=λta f hf v' H' w' t' ft=>kf f (bg.trans hf) v' H' w' ((t1.trans ta).trans t') ft;have ar:∀{Ha:Hp},iA S H1 Ha->∀an,jG kl ds al g (bnd h ks.length) ks=.ok an->∀H',eG H0 S kl (rG kl) ds an os H'->iA S Ha H'->an.length<=al.length+Tm.sizes ks->Q .eN H':=λta an hf H' k' t' l'=>ko an (bg.trans hf) H' k' ((t1.trans ta).trans t') ();clear kf ko eT bg;ext;intro lw H2 ws s2 cy h2 r2;have l2:=r2.length;rw[bM]at l2;have bl:ws.length=ks.length:=l2;have c2:bQ K H2 lw ws:=bQ.of h2;ext;refine Dv h2 (by rw[bl];omega) λp bm=>?_;rw[bl];have s3:=ae bm (.lst (Nb ks.length (.ref e)));have J:=s2.trans s3;have O:upd H2 p (.lst (Nb ks.length (.ref e))) p=some (.lst (Nb ks.length (.ref e))):=af;have C:H1 p=none:=s2.free bm;have a5:p≠S.lg/\p≠S.lo:=#[(ay m.hg C).symm,(ay m.ho C).symm];generalize upd H2 p (.lst (Nb ks.length (.ref e)))=H3 at s3 J O|-;have b1:=m.ext J;have aj:=aw.same J;have ab:=J _ _ ac;rcases Du ao with⟨fm,r,he,n1,n2,n3,hb⟩|⟨arms,rfl⟩|⟨x,rfl⟩|⟨x,y,rfl⟩
 .have B:=aj;rw[cZ,he]at B;have(a,cq,rfl,hS,b9):=B.aS;have(v0,q0,rfl,e0,cw):=b9.inv;obtain rfl:=e0.aJ;have a0:=Jp (V.str fm) q0;ext;refine ux (Ft n1) ?_;ext;refine ux (Ft n2) ?_;ext;refine ux (Ft n3) ?_;ext;refine rX () WI az D (hr.mono ()) b1 aj wf ta hd hz hl ad hB ax O a5 (by rw[hb];exact FE ab ah) (av (iA.of J)) (ar (iA.of J))
 .obtain⟨k0,kr,rfl⟩:∃k0 kr,ks=k0::kr:=by
   cases ks with
   |nil=>simp[eR]at ao
   |cons k0 kr=>exact#[_,_,rfl]
  have br:arms.length=kr.length:=by
   have:kr.length+1=arms.length+1:=by simpa[eR]using ao
   omega
  have B:=aj;rw[cZ]at B;have(a,u1,u2,u3,rfl,hS,g1,g2,g3):=(show Rp K H3 (.t [.s "match",enc k0,.t (Og oV arms (kr.map enc))]) v from B).t3;obtain rfl:=g1.aJ;have(aa,cj,rfl,ck,bx):=g3.aS;have a1:=bx.length;rw[Oz,bM,br,Q7]at a1;ext;intro l1 cc;have M:=ae cc (.lst [.ref e]);have a4:=J.trans M;have bu:upd H3 l1 (.lst [.ref e]) l1=some (.lst [.ref e]):=af;generalize upd H3 l1 (.lst [.ref e])=H4 at M a4 bu|-;have bv:=ck.same M;have bw:=bx.same M;have bp:=M _ _ ab;have b0:=m.ext a4;have c1:=hS.same M;have c0:kr.length+1<(Tm.mk (Hd.mat arms) (k0::kr)).size:=cd;ext;refine gb (K:=K) (xs:=cj) (λi σ R Hd=>(∃x y z,σ=[x,y,z,some (.ref e)])/\aT H4 Hd/\nN S Hd g ((arms.map (·.2)).take i) R) #[#[_,_,_,rfl],aT.refl _,wM] ?_ (Ol (bq ())) ?_ ?_ ?_
  .rintro i σ R Hd hi ⟨_,_,o⟩;rw[o.1,L1];omega
  .rintro i σ R Hd hi ⟨_,sd,_⟩;exact bv.same sd
  .rintro i u σ R Hd hi ⟨⟨x0,y0,z0,rfl⟩,sd,ow⟩;have(y,hy,ry):=bw.get' hi;have(am,kj,bb,rfl):=jO hy;have ce:=(bH.mp bb).1
   have ci:(arms.map (·.2)).take (i+1)=(arms.map (·.2)).take i++[am.2]:=by
    rw[mu (by rw[bM];exact ce),Ro,(bH.mp bb).2]
   have ct:=(cl arms rfl).2 am (M9 bb);have(qa,w1,w2,w3,rfl,b2,e1,e2,e3):=ry.t3;obtain rfl:=e1.aJ;have(na,cr,rfl,b3,b4):=e2.aS;obtain rfl:=b4.qb;have cn:=b2.same sd;have co:=b3.same sd;have bn:=sd _ _ bp;have lc:(g.map V.str).length+(am.2.map V.str).length<=mH:=small (by rw[bM,bM];omega);ext;intro l5 cb;have T:=ae cb (.lst (am.2.map V.str));have h5:upd Hd l5 (.lst (am.2.map V.str)) l5=some (.lst (am.2.map V.str)):=af;generalize upd Hd l5 (.lst (am.2.map V.str))=H5 at T h5|-;have cp:=T _ _ bn;ext;intro l6 ba;have ea:g.map V.str++am.2.map V.str=(g++am.2).map V.str:=by rw[lj]
   rw[ea];have s6:=ae ba (.lst ((g++am.2).map V.str));have h6:upd H5 l6 (.lst ((g++am.2).map V.str)) l6=some (.lst ((g++am.2).map V.str)):=af;have bh:=(b0.ext sd).ext T;have b6:l6≠S.lg/\l6≠S.lo:=#[(ay bh.hg ba).symm,(ay bh.ho ba).symm];generalize upd H5 l6 (.lst ((g++am.2).map V.str))=H6 at s6 h6|-;refine#[#[_,_,_,rfl],sd.trans (T.trans s6),?_];rw[ci];exact Ds (ow.same (T.trans s6)) b6 h6
  .rintro σ R Hd ⟨_,sd,ow⟩ lc hlc;have s7:=ae hlc (.lst R);have ch:upd Hd lc (.lst R) lc=some (.lst R):=af;have aq:=ow.same s7;have cg:=s7 _ _ (sd _ _ bu);have a3:=a4.trans (sd.trans s7);rw[a1,<-br,<-bM (as:=arms) (·.2),Nl]at aq;have b8:=aq.1;rw[bM]at b8;have cx:[V.ref e].length+R.length<=mH:=small (by show 1+R.length<=1000;omega);generalize upd Hd lc (.lst R)=H7 at s7 ch aq cg a3|-;ext;intro l8 a9;have s8:=ae a9 (.lst ([.ref e]++R));have ag:=a3.trans s8;have bt:upd H7 l8 (.lst ([.ref e]++R)) l8=some (.lst (.ref e::R)):=af;have bi:=m.ext a3;have b5:l8≠S.lg/\l8≠S.lo:=#[(ay bi.hg a9).symm,(ay bi.ho a9).symm];have bk:=aq.same s8;generalize upd H7 l8 (.lst ([.ref e]++R))=H8 at s8 ag bt bk|-;have bo:H8 e=some (.lst ((g++[]).map V.str)):=by rw[Ny];exact ag _ _ ac
   ext;refine rX () WI az D (hr.mono ()) (m.ext ag) (aw.same ag) wf ta hd hz hl ad hB ax bt b5 (lA (b:=[]) ah bo bk) (av (iA.of ag)) (ar (iA.of ag))
 .have(k0,k1,rfl):=G14.l2 (show ks.length=2 by simpa[eR]using ao);have B:=aj;rw[cZ]at B;have(a,u1,u2,u3,u4,rfl,hS,g1,g2,g3,g4):=(show Rp K H3 (.t [.s "let",.s x,enc k0,enc k1]) v from B).t4;obtain rfl:=g1.aJ;obtain rfl:=g2.aJ
  replace O:H3 p=some (.lst [.ref e,.ref e]):=O
  ext;intro lx a8;have M:=ae a8 (.lst [.str x]);have be:upd H3 lx (.lst [.str x]) lx=some (.lst [.str x]):=af;have Y:=M _ _ O;have bf:=M _ _ ab;have I:=J.trans M;generalize upd H3 lx (.lst [.str x])=H4 at M be bf Y I|-;have lc:(g.map V.str).length+([.str x]:List V).length<=mH:=small (by rw[bM];show g.length+1<=_;omega);ext;intro l L;have ea:g.map V.str++[.str x]=(g++[x]).map V.str:=by simp
  rw[ea];have T:=ae L (.lst ((g++[x]).map V.str));have h5:upd H4 l (.lst ((g++[x]).map V.str)) l=some (.lst ((g++[x]).map V.str)):=af;have ai:p≠l:=ay Y L;have W:=T _ _ Y;have U:=I.trans T;have a6:l≠S.lg/\l≠S.lo:=#[(ay (m.ext I).hg L).symm,(ay (m.ext I).ho L).symm];generalize upd H4 l (.lst ((g++[x]).map V.str))=H5 at T h5 W U|-;have a2:=(m.ext U).other m C W [.ref e,.ref l];have k6:Kt H5 (upd H5 p (.lst [.ref e,.ref l])):=Kt.lst W _;have cf:cH K (upd H5 p (.lst ([V.ref e,V.ref e].set 1 (V.ref l)))) a _:=((hS.same M).same T).kt k6;have G:aT H1 (upd H5 p (.lst [.ref e,.ref l])):=U.oq C _;have h6:upd H5 p (.lst [.ref e,.ref l]) p=some (.lst [.ref e,.ref l]):=af;have bc:upd H5 p (.lst [.ref e,.ref l]) l=some (.lst ((g++[x]).map V.str)):=by rw[au ai.symm];exact h5
  have Z:upd H5 p (.lst [.ref e,.ref l]) e=some (.lst ((g++[]).map V.str)):=by rw[Ny];exact G _ _ ac
  have a7:=aw.same G;ext;refine rX () WI az D (hr.mono ()) a2 a7 wf ta hd hz hl ad hB ax h6 a5 (lA ah Z (lA a6 bc wM)) (av (iA.of G)) (ar (iA.of G))
 .have(k0,k1,k2,rfl):=G14.l3 (show ks.length=3 by simpa[eR]using ao);have B:=aj;rw[cZ]at B;have(a,R,rfl,hS,rs):=(show Rp K H3 (.t [.s "fold",enc k0,.s x,.s y,enc k1,enc k2]) v from B).aS;have(u1,q1,rfl,g1,rs):=rs.inv;have(u2,q2,rfl,g2,rs):=rs.inv;have(u3,q3,rfl,g3,rs):=rs.inv;have(u4,q4,rfl,g4,rs):=rs.inv;have(u5,q5,rfl,g5,rs):=rs.inv;have(u6,q6,rfl,g6,rs):=rs.inv;obtain rfl:=rs.jk;obtain rfl:=g1.aJ;obtain rfl:=g3.aJ;obtain rfl:=g4.aJ
  replace O:H3 p=some (.lst [.ref e,.ref e,.ref e]):=O
  ext;intro lx a8;have M:=ae a8 (.lst [.str x,.str y]);have be:upd H3 lx (.lst [.str x,.str y]) lx=some (.lst [.str x,.str y]):=af;have Y:=M _ _ O;have bf:=M _ _ ab;have I:=J.trans M;generalize upd H3 lx (.lst [.str x,.str y])=H4 at M be bf Y I|-;have lc:(g.map V.str).length+([.str x,.str y]:List V).length<=mH:=small (by rw[bM];show g.length+2<=_;omega);ext;intro l L;have ea:g.map V.str++[.str x,.str y]=(g++[x,y]).map V.str:=by simp
  rw[ea];have T:=ae L (.lst ((g++[x,y]).map V.str));have h5:upd H4 l (.lst ((g++[x,y]).map V.str)) l=some (.lst ((g++[x,y]).map V.str)):=af;have ai:p≠l:=ay Y L;have W:=T _ _ Y;have U:=I.trans T;have a6:l≠S.lg/\l≠S.lo:=#[(ay (m.ext I).hg L).symm,(ay (m.ext I).ho L).symm];generalize upd H4 l (.lst ((g++[x,y]).map V.str))=H5 at T h5 W U|-;have a2:=(m.ext U).other m C W [.ref e,.ref e,.ref l];have k6:Kt H5 (upd H5 p (.lst [.ref e,.ref e,.ref l])):=Kt.lst W _;have cf:cH K (upd H5 p (.lst ([V.ref e,V.ref e,V.ref e].set 2 (V.ref l)))) a _:=((hS.same M).same T).kt k6;have G:aT H1 (upd H5 p (.lst [.ref e,.ref e,.ref l])):=U.oq C _;have h6:upd H5 p (.lst [.ref e,.ref e,.ref l]) p=some (.lst [.ref e,.ref e,.ref l]):=af;have bc:upd H5 p (.lst [.ref e,.ref e,.ref l]) l=some (.lst ((g++[x,y]).map V.str)):=by rw[au ai.symm];exact h5
  have Z:upd H5 p (.lst [.ref e,.ref e,.ref l]) e=some (.lst ((g++[]).map V.str)):=by rw[Ny];exact G _ _ ac
  have a7:=aw.same G;ext;refine rX () WI az D (hr.mono ()) a2 a7 wf ta hd hz hl ad hB ax h6 a5 (lA ah Z (lA ah Z (lA a6 bc wM))) (av (iA.of G)) (ar (iA.of G))
def K0(n:Nat)(dl:List Df):Prop:=dl.length<=8/\∀d∈dl,Km d/\d.2.2.depth<n
def Dw(K:bN)(n:Nat):Sp:=λm H Q _=>∃(v:V) (d:Kl) (e:List Df),m=[v]/\Rp K H (.t [.t (d.map gZ),.t (e.map jm)]) v/\wY d/\K0 n e/\∀l g,aT H g->mO g (cy d e) l->Q l g
noncomputable def oO(kl:Kl)(ds:List (Str×Nat))(gs:List Int)(d:Df)(r:List Df):Except Flt (List Int)->Option Flt
 |.error f=>some f
 |.ok os'=>match uE kl ds gs (d.2.1.map (·.1)) d.2.2 with
  |.error f=>some f
  |.ok gs'=>jC kl (ds++[(d.1,d.2.1.length)]) gs' os' r
theorem vz {dl:List Df}(h:dl[i]?=some d):jC kl ds gs e (dl.drop i)=if d.1∈ds.map (·.1)then some (.tw,d.1)else oO kl ds gs d (dl.drop (i+1)) (cY (kl.map (·.1)) [] e d.2.1):=by
 rw[vy h]
 by_cases c:d.1∈ds.map (·.1)
 .rw[if_pos c,if_pos c]
 .rw[if_neg c,if_neg c]
  cases cY (kl.map (·.1)) [] e d.2.1 with
  |error f=>rfl
  |ok os' =>
   unfold oO;dsimp only;rw[IE d.2.2 gs (gj [] (d.2.1.map (·.1))) (d.2.1.map (·.1)) (λx=>by rw[ud];exact#[λh=>h.elim nofun id,.inr])]
   first|done|rfl
inductive II(H0:Hp) (S:mF) (kl:Kl) (dl:List Df) (i:Nat) (v:V) (H:Hp):Prop
 |bad (f:Flt):cy kl dl=some f->rW H0 S i H->mO H (some f) v->II H0 S kl dl i v H
 |good (ds:List (Str×Nat)) (gs os:List Int):v=.eN->eG H0 S kl (rG kl) ds gs os H->ds.length<=i->gs.length<=80*i->os.length<=10*i->(je kl).Nodup->cy kl dl=jC kl ds gs os (dl.drop i)->II H0 S kl dl i v H
inductive Kn(H0:Hp) (S:mF) (kl:Kl) (dl:List Df) (i:Nat) (d:Df) (l:Option Addr) (j:Nat) (v:V) (H:Hp):Prop
 |bad (f:Flt) (p:Addr):cy kl dl=some f->rW H0 S i H->v=.ref p->H p=some (.lst [.str (Iv f.1),.str f.2])->l≠some p->Kn H0 S kl dl i d l j v H
 |good (ds:List (Str×Nat)) (gs os:List Int):v=.eN->eG H0 S kl (rG kl) ds gs os H->ds.length<=i->gs.length<=80*i->os.length<=10*i+j->(je kl).Nodup->d.1∉ds.map (·.1)->(∀a,l=some a->∃ds' gs' os' HB,eG H0 S kl (rG kl) ds' gs' os' HB/\HB a=none)->cy kl dl=oO kl ds gs d (dl.drop (i+1)) (cY (kl.map (·.1)) ((d.2.1.take j).map (·.1)) os (d.2.1.drop j))->Kn H0 S kl dl i d l j v H
structure L4(H0:Hp) (S:mF) (kl:Kl) (dl:List Df) (i:Nat) (H2:Hp) (fv:V) (H3:Hp):Prop where
 k:Kt H2 H3
 s:II H0 S kl dl i fv H3
structure LJ(H0:Hp) (S:mF) (kl:Kl) (dl:List Df) (i:Nat) (d:Df) (l:Addr) (q:Nat) (H2:Hp) (fv:V) (H3:Hp):Prop where
 k:Kt H2 H3
 h:H3 l=some (.lst (((d.2.1.take q).map (·.1)).map V.str))
 s:Kn H0 S kl dl i d (some l) q fv H3
theorem BG (h:fM g e k=.ok d):d.length<=e.length+1:=by
 unfold fM at h
 split at h
 .split at h
  .cases h;exact Ot _
  .cases h
 .split at h
  .cases h
  .cases h
   rw[i4];exact i5 _
 .cases h;exact Ot _
theorem rW.other {n:Nat}(h:rW d S n H)(e:d b=none)(m:H b=some (.lst xs))(o:HO):rW d S n (upd H b o):=by
 have(p,l,r):=h.hd;have g:∀{c:Addr}{u:List (Key×V)},H c=some (.dK u)->c≠b:=λq z=>by rw[z,m]at q;cases q
 exact#[h.n,h.sm.oq e o,by rw[au (g h.sd)];exact h.sd,p,by rw[au (g l)];exact l,r]
theorem Dy {kvs:List (Key×V)}:(putK kvs k v).length<=kvs.length+1:=by
 unfold putK
 split
 .rw[bM];exact Ot _
 .rw[i4];exact i5 _
@[irreducible] noncomputable def Dz:Stmt:=(bg c8).getD 4 (.Pass #[0,0,0,0])
@[irreducible] noncomputable def DA:Stmt:=(bg c8).getD 5 (.Pass #[0,0,0,0])
@[irreducible] noncomputable def FI:List Expr:=match(bg c8).getD 4 (.Pass #[0,0,0,0])with
 |.Assign _ (.List es _) _=>es
 |_=>[]
@[irreducible] noncomputable def FJ:List Expr:=match(bg c8).getD 5 (.Pass #[0,0,0,0])with
 |.Assign _ (.BinOp _ _ (.List es _) _) _=>es
 |_=>[]
@[irreducible] noncomputable def posK (i:Nat):Pos:=match(bg c8).getD 4 (.Pass #[0,0,0,0]),(bg c8).getD 5 (.Pass #[0,0,0,0])with
 |.Assign [.Name _ a] (.List _ b) c,.Assign [.Name _ d] (.BinOp (.Name _ e) _ (.List _ f) g) h=>[a,b,c,d,e,f,g,h].getD i a
 |_,_=>#[0,0,0,0]
noncomputable def Av:List Str:=["num","row","kind","def","more","first","others","long","match","if","let","fold","call"]
noncomputable def Aw:List Str:=["gap","in","world","fault","left"]
theorem FL :Dz=.Assign [.Name "_law_kept" (posK 0)] (.List FI (posK 1)) (posK 2):=by unfold Dz FI posK;kernel_rfl
theorem FN :DA=.Assign [.Name "_law_kept" (posK 3)] (.BinOp (.Name "_law_kept" (posK 4)) .Add (.List FJ (posK 5)) (posK 6)) (posK 7):=by unfold DA FJ posK;kernel_rfl
theorem MX :strsOf FI=some Av:=by unfold FI;kernel_rfl
theorem MY :strsOf FJ=some Aw:=by unfold FJ;kernel_rfl
theorem zu :bg c8=(bg c8).take 4++(Dz::DA::(bg c8).drop 6):=by unfold Dz DA;kernel_rfl
theorem Ko (hn:X.N.Nodup)(d:Lm X.N X.env.scope)(g:X.N[7]?=some ("_law_kept":Str))(e:X.fn "_law_kept"=true):PS X Dz (vI (HG (Ct Av)) (iF 7)):=by
 rw[FL];exact sa hn d 7 (dF (zQ MX)) g rfl (.inl e)
theorem Kp (hn:X.N.Nodup)(g:Lm X.N X.env.scope)(e:Nm X.N X.env.scope)(d:X.N[7]?=some ("_law_kept":Str))(l:X.fn "_law_kept"=true):PS X DA (vI (GB JQ (mR 7) (HG (Ct Aw))) (iF 7)):=by
 rw[FN];exact sa hn g 7 (bS iT (va e 7 d) (dF (zQ MY))) d rfl (.inl l)
theorem IJ (xs:List d)(a b:d):eK (xs++[a,b]) (-2)=some a:=by
 unfold eK vM;have l:(xs++[a,b]).length=xs.length+2:=by simp
 rw[l,if_neg (by decide),if_pos ()];have e:(-2+((xs.length+2:Nat):Int)).toNat=xs.length:=()
 rw[Pp,e];simp
theorem IK (n m:Nat)(h:n=m+1):vM n (-1)=some m:=by
 unfold vM;rw[if_neg (by decide),if_pos ()]
 congr 1
 omega
theorem bh :Nm Va (ak c8):=by decide
theorem fV :Lm Va (ak c8):=by decide
theorem eI :aZ Va U6 (ak c8):=#[rfl,rfl,rfl,by decide,rfl,by decide,by decide]
theorem DB (F:jr K "_law_names" "_law_names" c8 f fd)(TK:eL P w K mg base "_law_take" 1 U6 cD gT tfd)(z_range:mg "range"=none)(L:mg "len"=none)(ad:mg "int"=none):
  cA P w K mg base gy 2 f fd U6 Au:=by
 refine F.ok eI (λvs H Q E h=>?_) (λcdv A outer s H vs Q E hr h=>?_)
 .have(v,tm,rfl,_):=h;rfl
 have(r,m,rfl,m1,m2,hf,k):=h;rw[zu];refine#[_,(Z5 (sa eI.nd fV 2 aH) (Z5 (Z4 eI.nd fV 3 (@xx _ _ _ _ _ _ _ _ _ _ _ _ PySem.F.plainAttrs_str PySem.F.slot_str_join PySem.F.type_str_join EH aH (Z1 (Zg (ak c8) Va ["_law_k"] [0,2] (Zr (Z1 (Z0 TK (dc (va bh 0) (Zd aC))) aA)) (λ_ _ _ _=>(Z3 (i:=0) (show(VR:List Str).Nodup by decide))) (λ_ _ _ _=>(Zl vO (va (show Nm VR _ by left) 2) (Z0 TK (dc (va (show Nm VR _ by left) 1) (Zd aC)))))) aA) (by kernel_rfl) (by kernel_rfl) (by kernel_rfl) (by kernel_rfl) (by kernel_rfl))) (Z5 (@yJ _ _ (4) (5) _ _ _ _ _ _ _ _ _ _ _ rfl eI.nd rfl rfl (by decide) rfl rfl (Z1 (Z0 TK (dc (va bh 0) (Zd aC))) (Z1 (Z0 TK (Z1 (va bh 0) (Z1 (Zn dS (Z2 pS L Nh (Zd (va bh 3))) aC) aA))) aA)) (by rfl) (by rfl)) (Z5 (Z4 eI.nd fV 6 (Z0 TK (dc (va bh 0) (Zd aC)))) (Z5 (Ko eI.nd fV rfl rfl) (Z5 (Kp eI.nd fV bh rfl rfl) (Z5 (sa eI.nd fV 8 (dF aA)) (Z5 (Zh NC (Zr (Zd (va bh 1))) (ga eI.nd fV 9) (Z5 (Z4 eI.nd fV 10 (Zl vO (va bh 2) (Zn iR (Zn dS (va bh 4) (bS kG aC (va bh 9))) aC))) (Z5 (Z4 eI.nd fV 11 (Zn lI (Zn lI (@dY _ _ _ _ _ _ _ _ _ _ Cs (va bh 3) eZ (dm (va bh 5))) (va bh 10)) (@dY _ _ _ _ _ _ _ _ _ _ Cs (va bh 3) (dm (va bh 5)) (@dm _ _ _ (Zn iR (bS dS (va bh 6) (va bh 9)) aC))))) (Ze (Zo (Z6 (va bh 8) (Z1 (Zn lI (va bh 11) (Zn y9 aH (Z7 iH ad OB (Z1 (jq gq (va bh 11) (va bh 7) (by with_unfolding_all rfl)) aA)))) aA))))))) (Z5 (Zb (PW.pt (@gz _ _ _ _ _ _ _ (Zp pL (va bh 1) aC) (@gz _ _ _ _ _ _ _ (Zi mU (Z2 pS L Nh (Z1 (iI br (va bh 8) (pJ lH aC) (λ_ _=>rfl)) aA)) aC (bG _)) (@fz _ _ _ _ (Zi bV (Z0 TK (dc (va bh 0) (Zd aC))) aC (bG _)))))) (Ze (Zq (Zn lI (iI br (va bh 8) (pJ lH aC) (λ_ _=>rfl)) aH) (mT (va bh 8) (pJ lH aC) set_list)))) (Ze (cI (va bh 8)))))))))))),?_]
 right
 refine#[rfl,_,rfl,r,5,rfl,by decide,by decide,hf,λq H2 q0 q6 e2=>?_];refine#[_,rfl,(),(),?_];have n7:(q:Int).toNat<=4:=()
 refine lN (n:=q.toNat) (λi σ vs Hc=>(∃v,σ=[v,some (.ref r),some (.str "abcdefghijklmnopqrstuvwxyz")])/\Ext r H2 Hc/\∃J:List Nat,vs=(J.map λc=>(⟨#[c]⟩:Str)).map V.str/\J.length=i/\∀c∈J,c<1000)
  #[#[none,rfl],Ext.refl e2.2,[],rfl,rfl,λ_ h=>nomatch h] (λi σ vs Hc _ ⟨_,_,J,e,el,_⟩=>by rw[e,bM,bM];omega) (small ()) ?_ ?_
 .rintro i' σ vs Hc hi' ⟨⟨v,rfl⟩,ext,J,rfl,aw,aj⟩;refine#[_,rfl,_,rfl,r,26,rfl,by decide,by decide,ext.2,λd H3 d0 d1 ax=>?_];have(c,S,an):=atS (z:="abcdefghijklmnopqrstuvwxyz") d0 d1;refine#[_,d,c,rfl,rfl,(by decide),S,?_];exact#[#[_,rfl],ext.trans ax,J++[c],by rw[lj,lj];rfl,by rw[i4,aw];rfl,λc' h=>by rcases M7.mp h with h|h;exact aj c' h;rw[IF.mp h];exact As c an]
 rintro σ vs Hc ⟨⟨v,rfl⟩,ext,J,rfl,aw,aj⟩ p hp;refine#[_,p,_,rfl,rfl,bQ.of af,?_,?_]
 .have z:(Of "").length=0:=by decide
  rw[Cz,z];omega
 rw[ES];have ah:Ext r H (upd Hc p (.lst ((J.map λc=>(⟨#[c]⟩:Str)).map V.str))):=(e2.trans ext).new hp _;have ly:(⟨J.toArray⟩:Str).length<=4:=by rw[HZ];omega
 have hy:Lo ⟨J.toArray⟩:=λc h=>aj c (by simpa using h);generalize upd Hc p (.lst ((J.map λc=>(⟨#[c]⟩:Str)).map V.str))=H4 at ah|-;generalize(⟨J.toArray⟩:Str)=y at ly hy|-;refine#[_,rfl,r,26,rfl,by decide,by decide,ah.2,λd1 H5 b1 c1 e5=>?_];refine#[_,rfl,_,rfl,_,rfl,small (),_,_,rfl,rfl,r,_,rfl,(),(),e5.2,λB H6 b2 c2 e6=>?_];refine#[_,_,rfl,?_];refine#[_,rfl,r,5,rfl,by decide,by decide,e6.2,λd3 H7 b3 c3 e7=>?_];have x7:Ext r H H7:=ah.trans (e5.trans (e6.trans e7));have a3:Av.length<=100:=by decide
 have a1:Aw.length<=100:=by decide
 refine#[by rw[bM];exact small (),λp8 a4=>?_];refine#[_,rfl,by rw[bM];exact small (),λp9 ab=>?_];generalize Av=ks1 at a3 ab|-;generalize Aw=ks2 at a1 ab|-;refine#[p8,p9,_,_,rfl,rfl,(ae ab _) _ _ af,af,by rw[bM,bM];exact small (),λg ar=>?_];have U:Ext r H (upd (upd (upd H7 p8 (.lst (ks1.map V.str))) p9 (.lst (ks2.map V.str))) g (.lst (ks1.map V.str++ks2.map V.str))):=((x7.new a4 _).new ab _).new ar _;have ao:upd (upd (upd H7 p8 (.lst (ks1.map V.str))) p9 (.lst (ks2.map V.str))) g (.lst (ks1.map V.str++ks2.map V.str)) g=some (.lst ((ks1++ks2).map V.str)):=by rw[af,lj]
 generalize upd (upd (upd H7 p8 (.lst (ks1.map V.str))) p9 (.lst (ks2.map V.str))) g (.lst (ks1.map V.str++ks2.map V.str))=H10 at U ao|-;refine#[Nn _,λl hl=>?_];have am:H l=none:=Ext.free U hl;have ag:l≠r:=λz=>by subst z;have(a,b,z):=U.2;rw[hl]at z;cases z
 have ap:g≠l:=ay ao hl;have a0:Ext r H (upd H10 l (.lst [])):=U.new hl _;refine#[_,rfl,_,rfl,(),(),?_]
 refine iG (n:=m) (λi σ Hi=>∃(I:List Str) (v9 Y W:Option V),σ=[some (.ref r),some (.int m),some (.str "abcdefghijklmnopqrstuvwxyz"),some (.str y),some (.int d1),some (.int B),some (.int d3),some (.ref g),some (.ref l),v9,Y,W]/\I.length=i/\((∀x∈I,x.length<=10)/\(∀x∈I,Lo x)/\∀j x,I[j]?=some x->uv (O4 y none (some B)).cps.toList d1 j x)/\Hi l=some (.lst (I.map V.str))/\Hi g=some (.lst ((ks1++ks2).map V.str))/\Ext r H Hi)
  #[[],none,none,none,rfl,rfl,#[(λ_ h=>nomatch h),(λ_ h=>nomatch h),(λj x h=>by simp at h)],af,by rw[au ap];exact ao,a0] ?_ ?_
 .rintro i σ Hi hi ⟨I,v9,Y,W,rfl,t,⟨aa,R,ac⟩,D,ai,xi⟩;have hm:0<=(d1+7*(0+(i:Int))) % 26/\(d1+7*(0+(i:Int))) % 26<26:=()
  have(c,S,an):=atS (z:="abcdefghijklmnopqrstuvwxyz") (r:=(d1+7*(0+(i:Int))) % 26) hm.1 hm.2;refine#[_,rfl,_,rfl,_,rfl,_,_,rfl,rfl,.inl #[by decide,by decide],_,_,rfl,rfl,_,_,rfl,rfl,(by show(0:Int)<26;decide),_,_,c,rfl,rfl,(by decide),S,?_];have la:=Um y none (some B);have lb:=Um y (some B) (some ((d3+(0+(i:Int))) % 5));refine#[_,rfl,_,rfl,_,rfl,_,rfl,small (),_,rfl,_,_,rfl,rfl,small (by show _+1<=1000;omega),?_];refine#[_,rfl,_,rfl,_,rfl,_,rfl,_,rfl,_,_,rfl,rfl,_,_,rfl,rfl,(by show(0:Int)<5;decide),_,rfl,_,rfl,small (),?_];have lc:(O4 y none (some B)++(⟨#[c]⟩:Str)).length=(O4 y none (some B)).length+1:=by rw[Rv];rfl
  refine#[_,_,rfl,rfl,small (),?_];have ln:(O4 y none (some B)++(⟨#[c]⟩:Str)++O4 y (some B) (some ((d3+(0+(i:Int))) % 5))).length<=9:=by rw[Rv];omega
  have av:Lo (O4 y none (some B)++(⟨#[c]⟩:Str)++O4 y (some B) (some ((d3+(0+(i:Int))) % 5))):=((hy.slice _ _).append (Lo.one an)).append (hy.slice _ _)
  have as:uv (O4 y none (some B)).cps.toList d1 i (O4 y none (some B)++(⟨#[c]⟩:Str)++O4 y (some B) (some ((d3+(0+(i:Int))) % 5))):=by
   refine uv.snoc #[c,[],?_,?_] _
   .rw[Q9]at S;exact S
   .show((O4 y none (some B)).cps++#[c]).toList=_;rw[RO]
  generalize O4 y none (some B)++(⟨#[c]⟩:Str)++O4 y (some B) (some ((d3+(0+(i:Int))) % 5))=nm at ln as av|-;refine#[_,rfl,.inl #[rfl,_,bQ.of D],_,rfl,_,rfl,_,rfl,g,_,rfl,.inl (bQ.of ai),rfl,iM _,.inr #[_,rfl,?_]];generalize oj (V.str nm) ((ks1++ks2).map V.str)=b;have aq:(Of "q").length=1:=by decide
  have lq:(Sl (Of "q") (if b=true then 1 else 0)).length<=1:=by have:=JV b "q";rw[aq]at this;exact this
  have a5:(Sl (Of "q") (if(if false=true then !b else b)=true then 1 else 0)).length<=1:=lq;refine#[_,_,rfl,rfl,by split<;>omega,by split<;>omega,?_,?_]
  .rw[aq];exact small (by cases b<;>decide)
  refine#[_,_,rfl,rfl,small (),?_];refine#[l,_,_,rfl,rfl,D,by rw[bM];exact bq (),?_];refine#[I++[nm++Sl "q" (if b then 1 else 0)],_,_,_,rfl,by rw[i4,t];rfl,#[λx C=>?_,λx C=>?_,λj x C=>?_],by rw[af,lj];rfl,by rw[au ap];exact ai,?_]
  .rcases M7.mp C with h|h
   .exact aa x h
   .rw[IF.mp h,Rv];omega
  .rcases M7.mp C with h|h
   .exact R x h
   .rw[IF.mp h];exact av.append (Lo.q b)
  .by_cases cj:j<I.length
   .rw[NY cj]at C;exact ac j x C
   .have hj:j=i:=by have:=(bH.mp C).1;rw[i4]at this;simp at this;omega
    subst hj;rw[NN (),t,S6]at C;simp at C;rw[<-C];exact as.snoc _
  .refine#[λb o nb e=>?_,?_]
   .rw[au (ay e am)];exact xi.1 b o nb e
   .have(a,b,z):=xi.2;exact#[a,b,by rw[au ag.symm];exact z]
 .rintro σ Hi ⟨I,v9,Y,W,rfl,t,⟨aa,R,ac⟩,D,ai,xi⟩;have fin:∀(Hf:Hp) (G:List Str),Ext r H Hf->Hf l=some (.lst (G.map V.str))->G.length=m->(∀x∈G,x.length<=20/\Lo x)->Un G->Q (.ref l) Hf:=λHf G a b c d=>k l Hf G a am b c d;have Z:∀{Hf:Hp}(G:List Str),Ext r H Hf->Hf l=some (.lst (G.map V.str))->G.length=m->(∀x∈G,x.length<=20/\Lo x)->Un G->Jv (mR 8) {nx:=λ_ H'=>Q .eN H',rt:=Q} [some (.ref r),some (.int m),some (.str "abcdefghijklmnopqrstuvwxyz"),some (.str y),some (.int d1),some (.int B),some (.int d3),some (.ref g),some (.ref l),v9,Y,W] Hf:=λG a b c d u=>#[_,rfl,fin _ G a b c d u];have un:Un I:=uv.MW () ac;have T:∀x∈I,x.length<=20/\Lo x:=λx C=>#[Nu (aa x C) (by decide),R x C];refine#[_,rfl,_,_,rfl,rfl,_,rfl,cg (λc=>?_) (λc=>?_)]
  .have c1:1<m:=by have z:(1:Int)<(m:Int):=of_decide_eq_true c;omega
   obtain⟨M,O,x1,rfl⟩:∃M O x1,I=M++[O,x1]:=by
    rcases Qg I with rfl|⟨a,x1,rfl⟩
    .simp at t;omega
    rcases Qg a with rfl|⟨b,O,rfl⟩
    .simp at t;omega
    exact#[b,O,x1,by simp]
   have l2:O.length<=10:=aa O (by simp);have a2:eK ((M++[O,x1]).map V.str) (-2)=some (.str O):=by rw[lj];exact IJ _ _ _
   refine#[_,rfl,_,rfl,l,_,_,_,rfl,rfl,bQ.of D,a2,_,rfl,small (),_,_,rfl,rfl,_,rfl,cg (λc=>?_) (λc=>?_)]
   .refine#[_,rfl,r,4,rfl,by decide,by decide,xi.2,λd4 a6 _ _ az=>?_];have xj:=xi.trans az;have al:=az.1 l _ ag D;refine#[rfl,_,rfl,cg (λc=>?_) (λc=>?_)]
    .refine#[_,rfl,_,rfl,l,_,_,_,rfl,rfl,bQ.of al,a2,_,_,rfl,rfl,small (by show _+1<=1000;omega),?_];refine#[_,rfl,_,rfl,l,_,_,M.length+1,rfl,rfl,al,?_,?_]
     .exact IK _ _ (by simp)
     refine Z (M++[O,O++Of "q"]) ?_ ?_ ?_ ?_ (uv.last () (by decide) ac)
     .refine#[λb o nb e=>?_,?_]
      .rw[au (ay e am)];exact xj.1 b o nb e
      .have(a,b,z):=xj.2;exact#[a,b,by rw[au ag.symm];exact z]
     .rw[af];simp
     .rw[<-t];simp
     .intro x C;simp at C;rcases C with h|rfl|rfl
      .exact T x (by simp[h])
      .exact#[(),R _ (by simp)]
      .refine#[?_,(R O (by simp)).append Lo.q1];rw[Rv];have:(Of "q").length=1:=by decide
       omega
    .exact Z _ xj al t T un
   .exact Z _ xi D t T un
  .exact Z _ xi D t T un
theorem Ax {xs:List Str}(d:cP H f)(h:H l=some (.lst (xs.map V.str))):l≠f:=λz=>by
 have(p,q,e):=d;rw[<-z,h]at e;injection e with e;injection e with e
 cases xs with
 |nil=>cases e
 |cons y ys=>rw[Nr]at e;injection e with e;cases e
theorem Kk.ku :∀{k:Kk},k.ok xs↔k.core.ok xs
 |.num=>Iff.rfl
 |.kd _=>Iff.rfl
 |.op _=>Iff.rfl
 |.row k=>Kk.ku (k:=k)
def FO(ah:List Str)(e:List Int)(k:Kk)(d:List Int):Prop:=(d=e/\k.ok ah)\/∃o g,e=g++[o]/\e.length<4/\k.core=.op ((o+7) % 100)/\d=e++[(o+7) % 100]
def lY(K:bN):Sp:=λp H Q _=>∃(f o e:Addr) (m:List Str) (l:List Int),p=[.ref f,.ref o,.ref e]/\cP H f/\H o=some (.lst (m.map V.str))/\m.length<=100/\H e=some (.lst (l.map V.int))/\e≠f/\l.length<=100 /\
 ∀(v:V) (g:Hp) (k:Kk) (d:List Int),dZ [e] f H g->g e=some (.lst (d.map V.int))->Rp K g (jJ k) v->FO m l k d->Q v g
theorem bB :Nm Vm (ak dH):=by decide
theorem eW :Lm Vm (ak dH):=by decide
theorem dX :aZ Vm Vk (ak dH):=#[rfl,rfl,rfl,by decide,rfl,by decide,by decide]
theorem FP {P:I0}{w:Ni}{K:bN}{mg:Str->Option eF}{base:Heap}{gT:Addr}{tfd:M5}{f:Addr}{cdv:eF}{A:Nq}{outer:List OE}{s:fy}{R:Hp}{E:XK}(Z:eL P w K mg base "_law_take" 1 U6 cD gT tfd)(z_range:mg "range"=none)(hr:dj 1 (A.deeper (Nj "_law_named_kind" (ak dH) s.heap.objs.size f cdv))){D:L2.Ends}{H:Hp}{fe:Addr}{v:V}{k0:Kk}{o1 o2 o3 B:Option V}(hf:cP H fe)(r:Rp K H (jJ k0) v)(k:∀e I d,Ext fe H I->Rp K I (jJ d) e->d.core=k0.core->D.rt e I):
  jb (Zj gy Vm "_law_named_kind" (ak dH) R).nR ((bg dH).drop 4) D [some (.ref fe),o1,o2,o3,some v,B] H:=by
 refine d7 ((Z5 (Zh NC (Zr (Z1 (Zl br (Zu (Z1 aC (Z1 aC (dc aC (Zd aC))))) (Z0 Z (dc (va bB 0) (Zd aC)))) aA)) (ga dX.nd eW 5) (Ze (Z4 dX.nd eW 4 (Zm (Z1 aH (Zd (va bB 4))))))) (Ze (cI (va bB 4))))) ?_
 right
 right
 ext;intro l M;have y:=ae M (.lst [.int 0,.int 0,.int 1,.int 2]);have O:upd H l (.lst [.int 0,.int 0,.int 1,.int 2]) l=some (.lst [.int 0,.int 0,.int 1,.int 2]):=af;have C:=hf.same y;have T:=bA hf M;generalize upd H l (.lst [.int 0,.int 0,.int 1,.int 2])=R at y O C|-;ext;intro m Q W U J;have h2:bQ K Q l [.int 0,.int 0,.int 1,.int 2]:=bQ.of (J.1 _ _ T O);have g:Ext fe H Q:=((Ext.refl hf).same y).trans J;have(z,hz,o):=oY (xs:=[V.int 0,.int 0,.int 1,.int 2]) (k:=m) W U
 obtain⟨n,rfl,Y⟩:∃n:Nat,z=.int n/\n<=2:=by
  simp only[M8,Nv,or_false]at o;rcases o with rfl|rfl|rfl|rfl
  .exact#[0,rfl,()]
  .exact#[0,rfl,()]
  .exact#[1,rfl,()]
  .exact#[2,rfl,()]
 ext;refine iG (n:=n) (λi t q=>∃e d B,t=[some (.ref fe),o1,o2,o3,some e,B]/\(Ext fe H q/\Rp K q (jJ d) e/\d.core=k0.core)) #[v,k0,_,rfl,g,r.kt (g.kt hf),rfl] ?_ ?_
 .rintro i t q hi ⟨e,d,_,rfl,u,r3,G⟩;ext;intro p L;have S:=ae L (.tup [.str "row",e]);exact#[_,.row d,_,rfl,u.same S,Rp.new (K:=K) L (.cons .s (.one r3)),G]
 .rintro t q ⟨e,d,_,rfl,u,r3,G⟩;ext;exact k _ _ d u r3 G
theorem DC (F:jr K "_law_named_kind" "_law_named_kind" dH f fd)(TK:eL P w K mg base "_law_take" 1 U6 cD gT tfd)(z_range:mg "range"=none)(d:mg "len"=none):cA P w K mg base gy 2 f fd Vk (lY K):=by
 refine F.ok dX (λvs H Q E h=>?_) (λcdv A outer s H vs Q E hr h=>?_)
 .have(_,_,_,_,_,rfl,_):=h;rfl
 have(y,Y,l,T,C,rfl,hf,L,aj,J,u,ag,k):=h;refine#[_,(Z5 (Z4 dX.nd eW 3 (Z0 TK (dc (va bB 0) (Zd aC)))) (Z5 (sa dX.nd eW 4 aH) (Z5 (Zb (PW.pt (@gz _ _ _ _ _ _ _ (Zp bV (va bB 3) aC) (@fz _ _ _ _ (Zi pL (Z2 aL d Nh (Zd (va bB 1))) aC (bG _))))) (Ze (Z4 dX.nd eW 4 (Zm (Z1 aH (Z1 (Zl br (va bB 1) (Z0 TK (Z1 (va bB 0) (Z1 (Z2 aL d Nh (Zd (va bB 1))) aA)))) aA)))))) (Z5 (Zb (PW.pt (@gz _ _ _ _ _ _ _ (Zp bV (va bB 3) aC) (@fz _ _ _ _ (@B9 _ _ _ _ _ _ _ _ _ _ _ _ mU mU aC (Z2 aL d Nh (Zd (va bB 2))) aC (by with_unfolding_all rfl))))) (Z5 (Zo (Z6 (va bB 2) (Z1 (Zn iR (Zn dS (iI br (va bB 2) (pJ lH aC) (λ_ _=>rfl)) aC) aC) aA))) (Ze (Z4 dX.nd eW 4 (Zm (Z1 aH (Z1 (iI br (va bB 2) (pJ lH aC) (λ_ _=>rfl)) aA))))))) cO)))),?_]
 right
 right
 refine xW ?_;intro N1 N2 N3 N4 c1 c2 D R;have I:=Ax hf L;ext;intro fm H1 ap ao z;have am:=z.2;have ac:=z.1 _ _ I L;have an:=z.1 _ _ u J;have f1:dZ [l] y H H1:=Ext.sY hf z
 have fin:∀{v:V}{e:Hp}{k0:Kk}{r:List Int}{G:Option V},dZ [l] y H e->e l=some (.lst (r.map V.int))->Rp K e (jJ k0) v->(∀g:Kk,g.core=k0.core->FO T C g r)->N4 [some (.ref y),some (.ref Y),some (.ref l),some (.int fm),some v,G] e:=λ{v e k0 r G} O h2 r2 ok=>by
  refine Cut.go R ?_;exact FP TK z_range hr O.ff r2 λv' H' g x' r' q=>k v' H' g r (O.ext x') (x'.1 _ _ u h2) r' (ok g q)
 clear R
 have B:∀{v:V}{k0:Kk}{e:Hp}{G:Option V},Ext y H e->Rp K e (jJ k0) v->(∀g:Kk,g.core=k0.core->g.ok T)->N3 [some (.ref y),some (.ref Y),some (.ref l),some (.int fm),some v,G] e:=λ{v k0 e G} x2 r2 ok=>by
  have M:=x2.1 _ _ u J;have O:dZ [l] y H e:=Ext.sY hf x2;have same:N4 [some (.ref y),some (.ref Y),some (.ref l),some (.int fm),some v,G] e:=fin O M r2 λg q=>.inl #[rfl,ok g q];have lm:(C.map V.int).length=C.length:=bM _;ext;refine cg (λc=>?_) (λc=>?_)
  .ext;refine cg (λD=>?_) (λD=>?_)
   .ext;refine cg (λR=>?_) (λR=>?_)
    .have S:(0:Int)<((C.map V.int).length:Int):=of_decide_eq_true D;have aq:((C.map V.int).length:Int)<4:=of_decide_eq_true R
     obtain⟨m,o,rfl⟩:∃m o,C=m++[o]:=by
      rcases Qg C with rfl|⟨a,b,rfl⟩
      .simp at S
      .exact#[a,b,Tj]
     have al:eK ((m++[o]).map V.int) (-1)=some (.int o):=by rw[lj];exact sI _ _
     have ar:eK ((m++[o]).map V.int++[.int ((o+7) % 100)]) (-1)=some (.int ((o+7) % 100)):=sI _ _;have ll:((m++[o]).map V.int).length<mH:=bq ();have ad:bQ K (upd e l (.lst ((m++[o]).map V.int++[.int ((o+7) % 100)]))) l ((m++[o]).map V.int++[.int ((o+7) % 100)]):=bQ.of af;have f3:dZ [l] y H (upd e l (.lst ((m++[o]).map V.int++[.int ((o+7) % 100)]))):=O.upd (IF.mpr rfl) u M;have h3:upd e l (.lst ((m++[o]).map V.int++[.int ((o+7) % 100)])) l=some (.lst ((m++[o]++[(o+7) % 100]).map V.int)):=by rw[af,lj (l₁:=m++[o])];rfl
     ext;intro p hp;have s4:=ae hp (.tup [.str "open",.int ((o+7) % 100)]);exact fin (k0:=.op ((o+7) % 100)) (f3.same s4) (s4 _ _ h3) (Rp.new (K:=K) hp (.cons .s (.one .i))) λg q=>.inr #[o,m,rfl,(),q,rfl]
    .ext;exact same
   .ext;exact same
  .ext;exact same
 clear D;ext;refine cg (λc=>?_) (λc=>?_)
 .ext;refine cg (λD=>?_) (λD=>?_)
  .have S:(0:Int)<((T.map V.str).length:Int):=of_decide_eq_true D;have ai:((T.map V.str).length:Int)<1073741824:=by rw[bM];omega
   ext;intro r5 H5 W U x5;have h5:=x5.1 _ _ I ac;have(v5,ak,ab):=oY (xs:=T.map V.str) W U;have(y5,Z,rfl):=ND.mp ab;ext;intro p6 aa;have s6:=ae aa (.tup [.str "kind",.str y5]);exact B (k0:=.kd y5) (z.trans (x5.same s6)) (Rp.t (cH.of af) (.cons .s (.one .s))) (λg q=>by rw[Kk.ku,q];exact Z)
  .ext;exact B (k0:=.num) z .s (λg q=>by rw[Kk.ku,q];exact True.intro)
 .ext;exact B (k0:=.num) z .s (λg q=>by rw[Kk.ku,q];exact True.intro)
def Kq(xs:List Str)(t:Str×List Kk):Prop:=t.2.length<=2/\∀c∈t.2,c.ok xs
structure BH(xs:List Str) (kl:Kl):Prop where
 nm:kl.map (·.1)=xs.take kl.length
 tg:je kl=(xs.drop 3).take (je kl).length
 pt:∀i k,kl[i]?=some k->1<=k.2.length/\k.2.length<=3/\∀t∈k.2,Kq (xs.take i) t
def Ay(K:bN):Sp:=λm H Q _=>∃(f l:Addr) (d:List Str),m=[.ref f,.ref l]/\cP H f/\H l=some (.lst (d.map V.str))/\d.length=24 /\
 ∀(v:V) (g:Hp) (e:Kl),Ext f H g->BH d e->e.length<=3->Rp K g (.t (e.map gZ)) v->Q v g
structure MZ(K:bN) (f lf:Addr) (xs:List Str) (H:Hp) (i:Nat) (at_:Int) (H':Hp):Prop where
 x:∃(kl:Kl) (vs:List V),dZ [] f H H'/\H' lf=some (.lst vs)/\bO K H' (kl.map gZ) vs/\kl.length=i/\BH xs kl/\at_=3+(je kl).length/\(je kl).length<=3*i
structure HJ(K:bN) (f lo:Addr) (xs:List Str) (H:Hp) (i Jp j:Nat) (at_:Int) (H':Hp):Prop where
 x:∃(own:List (Str×List Kk)) (us:List V),dZ [lo] f H H'/\H' lo=some (.lst us)/\bO K H' (own.map kK) us/\own.length=j/\own.map (·.1)=((xs.drop 3).drop Jp).take j/\(∀t∈own,Kq (xs.take i) t)/\at_=3+Jp+j
structure HP(K:bN) (f:Addr) (xs:List Str) (H:Hp) (i:Nat) (us:List V) (H':Hp):Prop where
 x:∃(ps:List Kk),dZ [] f H H'/\bO K H' (ps.map jJ) us/\ps.length=i/\∀c∈ps,c.ok xs
theorem di :Nm Vi (ak jR):=by decide
theorem iD :Lm Vi (ak jR):=by decide
theorem ie :aZ Vi VS (ak jR):=#[rfl,rfl,rfl,by decide,rfl,by decide,by decide]
theorem DE (F:jr K "_law_heads" "_law_heads" jR f fd)(TK:eL P w K mg base "_law_take" 1 U6 cD gT tfd)(bb:eL P w K mg base "_law_named_kind" 2 Vk (lY K) gA afd)(z_range:mg "range"=none)(p:mg "tuple"=none):cA P w K mg base gy 3 f fd VS (Ay K):=by
 refine F.ok ie (λvs H Q E h=>?_) (λcdv A outer s H vs Q E hr h=>?_)
 .have(_,_,_,rfl,_):=h;rfl
 have(W,ln,xs,rfl,hf,hn,hx,k):=h;refine#[_,(Z5 (sa ie.nd iD 2 (dF aA)) (Z5 (sa ie.nd iD 3 aC) (Z5 (Zh NC (Zr (Z1 (Z0 TK (dc (va di 0) (Zd aC))) aA)) (ga ie.nd iD 4) (Z5 (sa ie.nd iD 5 (dF aA)) (Z5 (Zh NC (Zr (Z1 (Zn dS aC (Z0 TK (dc (va di 0) (Zd aC)))) aA)) (ga ie.nd iD 6) (Z5 (@nj _ _ _ _ _ _ _ _ _ _ _ _ _ _ _ (ak jR) Vi ["_law_i"] [0,1,4] rfl rfl rfl (by decide) (Zr (Z1 (Z0 TK (dc (va di 0) (Zd aC))) aA)) (λ_ _ _ _=>(Z3 (i:=0) (show(Vw:List Str).Nodup by decide))) (λ_ _ _ _=>fZ) (λ_ _ _ _=>(Z0 bb (Z1 (va (show Nm Vw _ by left) 1) (Z1 (@dY _ _ _ _ _ _ _ _ _ _ (Cy K rfl) (va (show Nm Vw _ by left) 2) eZ (dm (va (show Nm Vw _ by left) 3))) (Zd (dF aA)))))) (ga ie.nd iD 7) (by kernel_rfl) (by intro _;rfl)) (Z5 (Zo (Z6 (va di 5) (Z1 (Zm (Z1 (iI br (va di 1) (va di 3) (λ_ _=>rfl)) (Z1 (Z7 cS p NX (Zd (va di 7))) aA))) aA))) (Ze (Z4 ie.nd iD 3 (bS dS (va di 3) aC)))))) (Ze (Zo (Z6 (va di 2) (Z1 (Zm (Z1 (iI br (va di 1) (va di 4) (λ_ _=>rfl)) (Z1 (Z7 cS p NX (Zd (va di 5))) aA))) aA))))))) (Ze (Zv (Z7 cS p NX (Zd (va di 2)))))))),?_]
 right
 right
 ext;intro lf an;have s1:=ae an (.lst []);have h1:upd H lf (.lst []) lf=some (.lst []):=af;generalize upd H lf (.lst [])=H1 at s1 h1|-;have f1:dZ [] W H H1:=(dZ.refl hf).same s1;have bv:=f1.ff;ext;intro m H2 m0 m1 x2;have f2:=f1.ext x2;have ab:=bA hf an;have h2:=x2.1 _ _ ab h1;have C:=Ax hf hn;ext;refine iG (n:=m.toNat) (λi O H3=>(∃(G:Int) (y4 y5 y6 y7:Option V),O=[some (.ref W),some (.ref ln),some (.ref lf),some (.int G),y4,y5,y6,y7]/\G14.MZ K W lf xs H i G H3)) #[3,_,_,_,_,rfl,#[[],[],f2,h2,.nil,rfl,#[rfl,rfl,λi k h=>by cases h],rfl,Nn _]] ?_ ?_
 .rintro i O H3 hi ⟨G,_,_,_,_,rfl,⟨kl,vs,f3,h3,r3,lk,ok,ha,a6⟩⟩;have a3:=f3.ff;ext;intro lo U;have s4:=ae U (.lst []);have h4:upd H3 lo (.lst []) lo=some (.lst []):=af;generalize upd H3 lo (.lst [])=H4 at s4 h4|-;have f4:=f3.same s4;have a2:=f4.ff;ext;intro m5 H5 bk bi x5;have f5:=f4.ext x5;have aa:=bA a3 U;have ah:lf≠lo:=ay h3 U;have h5:=x5.1 _ _ aa h4;have a8:=x5.1 _ _ ab (s4 _ _ h3);have r5:=(r3.same s4).kt (x5.kt a2);have al:=x5.1 _ _ C (s4 _ _ (f3.CD C hn));have L:ln≠lo:=ay (f3.CD C hn) U;ext;refine iG (n:=(1+m5).toNat) (λj O H6=>(∃(G:Int) (y6 y7:Option V),O=[some (.ref W),some (.ref ln),some (.ref lf),some (.int G),some (.int (0+(i:Int))),some (.ref lo),y6,y7]/\HJ K W lo xs H5 i (je kl).length j G H6)) #[G,_,_,rfl,#[[],[],dZ.refl f5.ff,h5,.nil,rfl,rfl,λt h=>(nomatch h),()]] ?_ ?_
  .rintro j O H6 hj ⟨d,_,_,rfl,⟨own,Z,f6,h6,r6,aj,ad,ag,a5⟩⟩;have a1:=f6.ff;ext;intro m7 H7 bh bg x7;have f7:=f6.ext x7;ext;refine lN (n:=m7.toNat) (λi7 O Z H8=>(∃y,O=[y,some (.ref W),some (.ref ln),some (.int (0+(i:Int)))])/\HP K W (xs.take i) H7 i7 Z H8) #[#[_,rfl],#[[],dZ.refl x7.2,.nil,rfl,λc h=>by cases h]] ?_ (small ()) ?_ ?_
   .rintro i7 O Z H8 h ⟨_,⟨ps,_,r,e,_⟩⟩;rw[r.length,bM,e];exact i5 _
   .rintro i7 O us7 H8 hi7 ⟨⟨_,rfl⟩,⟨ps,f8,r8,l8,o8⟩⟩;have bp:H8 ln=some (.lst (xs.map V.str)):=f8.CD C (f7.jF L C al);have bu:=f8.ff;have e0:jv (xs.map V.str) none (some (0+(i:Int)))=(xs.take i).map V.str:=by rw[Q9,iL,Pk]
    ext;intro l9 a0;rw[e0];have s9:=ae a0 (.lst ((xs.take i).map V.str));have h9:upd H8 l9 (.lst ((xs.take i).map V.str)) l9=some (.lst ((xs.take i).map V.str)):=af;generalize upd H8 l9 (.lst ((xs.take i).map V.str))=H9 at s9 h9|-;have f9:=f8.same s9;ext;intro lq am;have sq:=ae am (.lst []);have hq:upd H9 lq (.lst []) lq=some (.lst (([]:List Int).map V.int)):=af;have az:=sq _ _ h9;generalize upd H9 lq (.lst [])=Hq at sq hq az|-;have fq:=f9.same sq;have bt:=fq.ff;have bf:lq≠W:=bA f9.ff am;have bl:(xs.take i).length<=100:=by rw[L1];omega
    have l0:([]:List Int).length<=100:=Nn _;ext;intro be Y aq bc av _ I ax
    have ao:aq.ok (xs.take i):=by
     rcases ax with⟨_,z⟩|⟨o,ot,z,_⟩
     .exact z
     .cases ot<;>cases z
    have ba:dZ [] W H7 Y:=(fq.more.trans av).drop (f9.free am nofun)
    ext;exact#[ps++[aq],ba,by rw[lj];exact(((r8.same s9).same sq).kt av.kt).snoc I,by rw[i4,l8];rfl,λc hc=>(M7.mp hc).elim (o8 c) (λh=>by rw[IF.mp h];exact ao)]
   .rintro O us7 H8 ⟨⟨_,rfl⟩,⟨ps,f8,r8,l8,o8⟩⟩ p9 hp9;have s9:=ae hp9 (.lst us7);have h9:upd H8 p9 (.lst us7) p9=some (.lst us7):=af;have r9:=r8.same s9;generalize upd H8 p9 (.lst us7)=H9 at s9 h9 r9|-;have f9:=f8.same s9;have ap:H9 lo=some (.lst Z):=f9.CD aa (x7.1 _ _ aa h6);have bn:Z.length<mH:=bq (by rw[r6.length,bM];omega);have bo:H9 ln=some (.lst (xs.map V.str)):=f9.CD C (f7.jF L C al);have a4:d.toNat<xs.length:=()
    have as:eK (xs.map V.str) d=some (.str xs[d.toNat]):=by
     have:=aG (xs:=xs.map V.str) (j:=d.toNat) (v:=.str xs[d.toNat]) (by rw[EF,my a4];rfl);rw[show((d.toNat:Nat):Int)=d by omega]at this;exact this
    ext;refine .inl #[bQ.of h9,λB g=>?_];have q:=ae g (.tup us7);have I:=Rp.new (K:=K) g r9;have S:=q _ _ ap;generalize upd H9 B (.tup us7)=Y at q I S|-;ext;intro J D;have u:=ae D (.tup [.str xs[d.toNat],.ref B]);have R:=Rp.new (K:=K) (xs:=[.s xs[d.toNat],.t (ps.map jJ)]) D (.cons .s (.one I));have M:=u _ _ S;generalize upd Y J (.tup [.str xs[d.toNat],.ref B])=H11 at u R M|-;have ac:=(f9.same q).same u;have a9:dZ [lo] W H5 H11:=f7.trans ac.more;have T:=Kt.lst (l:=lo) M (.lst (Z++[.ref J]));ext;refine#[own++[(xs[d.toNat],ps)],Z++[.ref J],a9.upd (IF.mpr rfl) aa M,af,?_,by rw[i4,aj];rfl,?_,λt hm=>(M7.mp hm).elim (ag t) (λh=>by rw[IF.mp h];exact#[by show ps.length<=2;omega,o8]),()]
    .rw[lj];exact(((r6.kt (x7.kt a1)).kt ac.kt).kt T).snoc (R.kt T)
    .rw[lj,ad,mu (by rw[NW,NW];omega),UB,UB];have ei:d.toNat=3+((je kl).length+j):=()
     simp only[ei];rfl
  .rintro O H6 ⟨d,_,_,rfl,⟨own,Z,f6,h6,r6,aj,ad,ag,a5⟩⟩;have a7:=f6.jF ah ab a8;have aw:=r5.kt f6.kt;have bs:H6 ln=some (.lst (xs.map V.str)):=f6.jF L C al;have bm:vs.length<mH:=bq (by rw[r3.length,bM];omega);have ar:i<xs.length:=()
   have as:eK (xs.map V.str) (0+(i:Int))=some (.str xs[i]):=by
    rw[Q9];exact aG (by rw[EF,my ar];rfl)
   ext;refine .inl #[bQ.of h6,λB g=>?_];have q:=ae g (.tup Z);have I:=Rp.new (K:=K) g r6;have S:=q _ _ a7;generalize upd H6 B (.tup Z)=Y at q I S|-;ext;intro J D;have u:=ae D (.tup [.str xs[i],.ref B]);have R:=Rp.new (K:=K) (xs:=[.s xs[i],.t (own.map kK)]) D (.cons .s (.one I));have M:=u _ _ S;generalize upd Y J (.tup [.str xs[i],.ref B])=H11 at u R M|-;have ac:dZ [] W H H11:=((f5.more.trans f6).drop (f3.free U nofun)).same (q.trans u)
   have T:=Kt.lst (l:=lf) M (.lst (vs++[.ref J]));ext
   have et:je (kl++[(xs[i],own)])=je kl++own.map (·.1):=by
    unfold je;rw[NQ];simp
   have ai:(own.map (·.1)).length=own.length:=bM _;refine#[kl++[(xs[i],own)],vs++[.ref J],ac.CC an ab M,af,?_,by rw[i4,lk];rfl,#[?_,?_,?_],?_,?_]
   .rw[lj];exact((aw.same (q.trans u)).kt T).snoc (R.kt T)
   .rw[lj,ok.nm,i4,lk,show [(xs[i],own)].length=1 from rfl,mu ar];rfl
   .rw[et,i4,ai,ad,ok.tg,L1,NW,PJ ()]
    conv=>lhs;rw[aj.symm]
    rw[List.take_add]
   .intro i' k' e'
    by_cases c:i' < kl.length
    .rw[NY c]at e';exact ok.pt i' k' e'
    .rw[NN ()]at e'
     have:i'=i:=by
      have:=(bH.mp e').1;have:[(xs[i],own)].length=1:=rfl;omega
     subst this;rw[lk,S6]at e'
     cases e'
     exact#[by show 1<=own.length;omega,by show own.length<=3;omega,ag]
   .rw[et,i4,ai];omega
   .rw[et,i4,ai];omega
 .rintro O H3 ⟨G,_,_,_,_,rfl,⟨kl,vs,f3,h3,r3,lk,ok,ha,a6⟩⟩;ext;refine .inl #[bQ.of h3,λB g=>?_];have q:=ae g (.tup vs);exact k _ _ kl (f3.same q).ex ok () (Rp.new (K:=K) g r3)
def Gd(kl:Kl)(ds:List (Str×Nat))(ns:List Str)(g g':List Int)(l:Tm):Prop:=∀e:List Int,(∀x∈e,x∈g)->∃d,uE kl ds e ns l=.ok d/\∀x∈d,x∈g'
def GW(kl:Kl)(ds:List (Str×Nat))(ns:List Str)(g g':List Int)(bs:List (List Str))(ks:List Tm):Prop:=∀e:List Int,(∀x∈e,x∈g)->∃d,jG kl ds e ns bs ks=.ok d/\∀x∈d,x∈g'
theorem Az :GW kl ds ns g g bs []:=λd h=>#[d,j6 ..,h]
theorem DF (h:Gd kl ds (ns++b) g g1 k)(hs:GW kl ds ns g1 g2 bs ks):GW kl ds ns g g2 (b::bs) (k::ks):=λp o=>by
 have(e,r,m):=h p o;have(d,q,l):=hs e m;exact#[d,by rw[jo,r];exact q,l]
theorem GX (ht:∀d,eO kl ds d ns h ks.length=.ok d)(hs:GW kl ds ns g g' (bnd h ks.length) ks):Gd kl ds ns g g' (.mk h ks):=λd l=>by
 have(x,e,m):=hs d l;exact#[x,by rw[uc,ht d];exact e,m]
theorem IL (h:n∉g):Gd kl ds ns g (g++[n]) (.mk (.gap n) []):=λd e=>by
 refine#[d++[n],?_,λx hx=>?_]
 .rw[uc]
  show(match(if n∈d then Except.error (Er.tw,("?":Str))else .ok (d++[n]))with
   |.error f=>Except.error f
   |.ok gs'=>jG kl ds gs' ns (bnd (.gap n) 0) [])=_
  rw[if_neg (λz=>h (e n z))];exact j6 ..
 .rcases M7.mp hx with hx|hx
  .exact M7.mpr (.inl (e x hx))
  .exact M7.mpr (.inr hx)
theorem Gd.wk (h:Gd kl ds ns g g1 d)(m:∀x∈g1,x∈g2):Gd kl ds ns g g2 d:=λp o=>by
 have(x,e,q):=h p o;exact#[x,e,λy l=>m y (q y l)]
theorem GW.wk (h:GW kl ds ns g g1 bs ks)(m:∀x∈g1,x∈g2):GW kl ds ns g g2 bs ks:=λo l=>by
 have(x,e,q):=h o l;exact#[x,e,λy d=>m y (q y d)]
noncomputable def pA(f0:Int)(m:Nat):List Int:=(Pa m).map λ(k:Nat)=>(f0+11*(k:Int)) % 100
theorem FQ (h:m<=m'):∀x∈pA f0 m,x∈pA f0 m':=λx d=>by
 have(k,e,rfl):=ND.mp d;exact ND.mpr #[k,Pu.mpr (Nd (Pu.mp e) h),rfl]
theorem wN (f0:Int)(m:Nat):pA f0 (m+1)=pA f0 m++[(f0+11*(m:Int)) % 100]:=by
 unfold pA;rw[RL,lj];rfl
theorem IP (h:m<5):(f0+11*(m:Int)) % 100∉pA f0 m:=λz=>by
 have(k,g,e):=ND.mp z;have d:=Pu.mp g;omega
theorem IQ (f0:Int)(m:Nat):(pA f0 m).length=m:=by
 unfold pA;rw[bM,Ra]
structure lZ(kl:Kl) (ds:List (Str×Nat)) (f0:Int) (ns:List Str) (m m' z d:Nat) (tm:Tm):Prop where
 wn:Wn tm
 ta:Ta tm
 sz:tm.size<=z
 dp:tm.depth<=d
 gd:Gd kl ds ns (pA f0 m) (pA f0 m') tm
 mm:m<=m'
structure jD(kl:Kl) (ds:List (Str×Nat)) (f0:Int) (ns:List Str) (bs:List (List Str)) (m m' z d:Nat) (ks:List Tm):Prop where
 wn:∀k∈ks,Wn k
 ta:∀k∈ks,Ta k
 sz:Tm.sizes ks<=z
 dp:∀k∈ks,k.depth<=d
 gd:GW kl ds ns (pA f0 m) (pA f0 m') bs ks
 mm:m<=m'
theorem jD.nil (h:m<=m1):jD kl ds f0 ns bs m m1 0 d []:=#[(λ_ h=>nomatch h),(λ_ h=>nomatch h),(by simp[Tm.sizes]),(λ_ h=>nomatch h),Az.wk (FQ h),h]
theorem jD.cons {ds:List (Str×Nat)}{f0:Int}{ns:List Str}{m m1 m2 z z1 d:Nat}{b:List Str}{bs:List (List Str)}{k:Tm}{ks:List Tm}(h:lZ kl ds f0 (ns++b) m m1 z d k)(t:jD kl ds f0 ns bs m1 m2 z1 d ks):jD kl ds f0 ns (b::bs) m m2 (z+z1) d (k::ks) :=
 #[λx g=>(M8.mp g).elim (λe=>e▸h.wn) (t.wn x),λx g=>(M8.mp g).elim (λe=>e▸h.ta) (t.ta x),by rw[Tm.eB];have:=h.sz;have:=t.sz;omega,λx g=>(M8.mp g).elim (λe=>e▸h.dp) (t.dp x),DF h.gd t.gd,Nu h.mm t.mm]
theorem jD.ji (h:lZ kl ds f0 ns m m1 z d k)(t:jD kl ds f0 ns bs m1 m2 z1 d ks):jD kl ds f0 ns ([]::bs) m m2 (z+z1) d (k::ks):=jD.cons (b:=[]) (by rw[Ny];exact h) t
theorem qS :∀{ks:List Tm},(∀k∈ks,k.depth<=d)->Tm.m6 ks<=d
 | [],_=>by rw[Tm.m6];exact Nn _
 |k::r,h=>by rw[Tm.m6];exact Nat.max_le.mpr #[h k (.head _),qS λx e=>h x (.tail _ e)]
theorem lZ.FT (o:eR h ks.length=true)(l:∀b∈bnd h ks.length,b.length<=5)(p:tW h)(g:HW h)(ht:∀e,eO kl ds e ns h ks.length=.ok e)(t:jD kl ds f0 ns (bnd h ks.length) m m1 z d ks)(q:z+1<=z1):lZ kl ds f0 ns m m1 z1 (d+1) (.mk h ks):=by
 refine#[.mk o l t.wn,.mk p g t.ta,by rw[Tm.ik];have:=t.sz;omega,?_,GX ht t.gd,t.mm]
 cases ks with
 |nil=>rw[Tm.depth];exact Nn _
 |cons k r=>rw[Tm.oW];exact Pq (qS t.dp)
theorem lZ.leaf (p:eR h 0=true)(o:∀b∈bnd h 0,b.length<=5)(q:tW h)(l:HW h)(ht:∀e,eO kl ds e ns h 0=.ok e)(g:1<=z):lZ kl ds f0 ns m m z d (.mk h []):=by
 refine#[.mk p o (λ_ h=>nomatch h),.mk q l (λ_ h=>nomatch h),by rw[Tm.ik];simp[Tm.sizes];exact g,by rw[Tm.depth];exact Nn _,GX ht Az,i5 _]
theorem lZ.gap (h:m<5)(g:1<=z):lZ kl ds f0 ns m (m+1) z d (.mk (.gap ((f0+11*(m:Int)) % 100)) []):=by
 refine#[.mk rfl (λb l=>by cases l) (λ_ h=>nomatch h),.mk (λ_ e=>nomatch e) True.intro (λ_ h=>nomatch h),by rw[Tm.ik];simp[Tm.sizes];exact g,by rw[Tm.depth];exact Nn _,?_,Ot _]
 rw[wN];exact IL (IP h)
theorem lZ.wk (h:lZ kl ds f0 ns m m1 z d g)(l:z<=e)(hd:d<=d'):lZ kl ds f0 ns m m1 e d' g:=#[h.wn,h.ta,Nu h.sz l,Nu h.dp hd,h.gd,h.mm]
theorem ig (q:∀arms,h≠.mat arms):tW h:=λarms e=>absurd e (q arms)
theorem mh :∀b∈(Nb n ([]:List Str)),b.length<=5:=λb e=>by rw[(Ul.mp e).2];exact Nn _
def yF(k:Kk):Prop:=∀x,k.core=.kd x->Wo x
def Ef(k:Str×List (Str×List Kk)):Prop:=1<=k.2.length/\k.2.length<=3/\(∀t∈k.2,t.2.length<=2)/\Wo k.1/\∀t∈k.2,Wo t.1/\∀c∈t.2,yF c
def GY(d:Df):Prop:=Wo d.1/\∀p∈d.2.1,Wo p.1/\yF p.2
structure GZ(kl:Kl):Prop where
 nk:(kl.map (·.1)).Nodup
 nt:(je kl).Nodup
 l3:kl.length<=3
 pt:∀k∈kl,1<=k.2.length/\k.2.length<=3/\∀t∈k.2,t.2.length<=2
 nw:∀k∈kl,Wo k.1/\∀t∈k.2,Wo t.1
noncomputable def wZ(kl:Kl):List (Str×Nat):=kl.flatMap λk=>k.2.map λt=>(t.1,t.2.length)
theorem mj {g:Type}(d:g->Str):∀{l:List g}{x:g},(l.map d).Nodup->x∈l->l.find? (λy=>decide (d y=d x))=some x
 |y::r,x,hn,hx=>by
  rw[Nr,O0]at hn;rw[Ob];rcases M8.mp hx with rfl|hx
  .rw[decide_eq_true rfl]
  .have:d y≠d x:=λe=>hn.1 (e▸NT hx);rw[decide_eq_false this];exact mj d hn.2 hx
theorem AA (h:GZ kl)(d:k∈kl)(ht:t∈k.2):jK kl t.1=some (t.1,k.1,t.2):=by
 unfold jK;have:=mj (λx:Str×Str×List Kk=>x.1) (l:=tl kl) (x:=(t.1,k.1,t.2)) (by rw[oZ];exact h.nt) (Pr.mpr #[k,d,ND.mpr #[t,ht,rfl]]);exact this
theorem Kr (h:GZ kl)(d:k∈kl):Ad kl k.1=some k:=mj (λk:Str×List (Str×List Kk)=>k.1) h.nk d
theorem IS (h:GZ kl)(d:p∈wZ kl):∃y,jK kl p.1=some y/\y.2.2.length=p.2:=by
 have(k,g,d):=Pr.mp d;have(t,e,rfl):=ND.mp d;exact#[_,AA h g e,rfl]
theorem DG (h:GZ kl):(wZ kl).length<=9:=by
 have:∀l:Kl,(∀k∈l,k.2.length<=3)->(wZ l).length<=l.length*3:=by
  intro l
  induction l with
  |nil=>intro _;exact Nn _
  |cons k r ih =>
   intro d;have o:=d k (.head _);have m:=ih λx e=>d x (.tail _ e);unfold wZ at m|-;rw[OT,i4,bM,Np,S4];omega
 have:=this kl λk g=>(h.pt k g).2.1;have:=h.l3;omega
theorem FU (h:GZ kl)(o:k∈kl){d:List (Str×List Kk)}(B:d.Perm k.2)(G:arms.map (·.1)=d.map (·.1))(O:∀(i:Nat) (a:Str×List Str) (t:Str×List Kk),arms[i]?=some a->d[i]?=some t->a.2.length=t.2.length/\cJ [] a.2=none):gx kl arms=none:=by
 have g:arms.length=d.length:=by have:=congrArg QL G;rwa [bM,bM]at this
 have L:d.length=k.2.length:=B.length_eq;have T:=(h.pt k o).1
 have m:∀a∈arms,∃t,t∈k.2/\t.1=a.1/\a.2.length=t.2.length/\cJ [] a.2=none:=λa M=>by
  have(i,C):=NR M;have p:i<d.length:=by rw[<-g];exact(bH.mp C).1
  have H:=my p
  have e:a.1=(d[i]).1:=by
   have q:=congrArg (λl=>l[i]?) G;simp only[EF,C,H,RH]at q;exact Ng q
  have(q1,u):=O i a _ C H;exact#[d[i],B.mem_iff.mp (NP p),e.symm,q1,u]
 cases arms with
 |nil=>rw[Qa]at g;omega
 |cons a r =>
  have J:(a::r).find? (λb=>decide ((jK kl b.1).isSome=false))=none:=by
   rw[PB];intro b D;have(t,z,e,_):=m b D;rw[<-e,AA h o z];simp
  have(S,v,R,_):=m a (.head _)
  have Q:((((jK kl a.1).bind λy=>Ad kl y.2.1).map λk=>k.2.map (·.1)).getD [])=k.2.map (·.1):=by
   rw[<-R,AA h o v];show(((Ad kl k.1).map λk=>k.2.map (·.1)).getD [])=_;rw[Kr h o];rfl
  have I:((a::r).map (·.1)).isPerm (k.2.map (·.1))=true:=by
   rw[Tg,G];exact B.map _
  have fs:(a::r).findSome? (jA kl)=none:=by
   rw[List.findSome?_eq_none_iff];intro b D;have(t,z,e,q1,u):=m b D;unfold jA;rw[<-e,AA h o z];dsimp only;rw[if_pos q1,u];rfl
  unfold gx;dsimp only;rw[J];dsimp only;rw[Q,if_pos I];exact fs
structure Sn where
 kd:Addr
 ln:Addr
 ld:Addr
 lg:Addr
 lt:Addr
 f0:Int
noncomputable def zw(S:Sn):List (Key×V):=[(ky "kinds",.ref S.kd),(ky "names",.ref S.ln),(ky "defs",.ref S.ld),(ky "gaps",.ref S.lg),(ky "first",.int S.f0),(ky "tags",.ref S.lt)]
noncomputable def DH(p:Str×Nat):T:=.t [.s p.1,.i p.2]
structure fk(K:bN) (H:Hp) (f d:Addr) (S:Sn) (kl:Kl) (nm:List Str) (ds:List (Str×Nat)) (m:Nat):Prop where
 sd:H d=some (.dK (zw S))
 kd:Rp K H (.t (kl.map gZ)) (.ref S.kd)
 ln:H S.ln=some (.lst (nm.map V.str))
 l6:nm.length=6
 un:Un nm
 ld:∃vs,H S.ld=some (.lst vs)/\bO K H (ds.map DH) vs
 lt:∃vs,H S.lt=some (.lst vs)/\bO K H ((wZ kl).map DH) vs
 lg:H S.lg=some (.lst ((pA S.f0 m).map V.int))
 m5:m<=5
 f0:0<=S.f0/\S.f0<100
 ff:cP H f
 nf:d≠f/\S.ln≠f/\S.ld≠f/\S.lg≠f/\S.lt≠f
 ng:S.ln≠S.lg/\S.ld≠S.lg/\S.lt≠S.lg
 kk:GZ kl
 dn:(ds.map (·.1)).Nodup
 dl:ds.length<=8
 d3:∀p∈ds,p.2<=3
 nw:∀x∈nm,Wo x
 dw:∀p∈ds,Wo p.1
theorem fk.go (s:fk K H f d S kl nm ds m)(fr:dZ [S.lg] f H H')(r:H' S.lg=some (.lst ((pA S.f0 m').map V.int)))(t:m'<=5):fk K H' f d S kl nm ds m':=by
 have(q,p,o,G,l):=s.nf;have(y,v,u):=s.ng;have(B,D,C):=s.ld;have(e,t1,t2):=s.lt;have g:d≠S.lg:=jt s.sd s.lg nofun
 exact#[fr.jF g q s.sd,s.kd.kt fr.kt,fr.jF y p s.ln,s.l6,s.un,#[B,fr.jF v o D,C.kt fr.kt],#[e,fr.jF u l t1,t2.kt fr.kt],r,t,s.f0,fr.ff,s.nf,s.ng,s.kk,s.dn,s.dl,s.d3,s.nw,s.dw]
theorem fk.ext (s:fk K H f d S kl nm ds m)(e:Ext f H H'):fk K H' f d S kl nm ds m:=s.go (Ext.sY s.ff e) (e.1 _ _ s.nf.2.2.2.1 s.lg) s.m5
theorem fk.same (s:fk K H f d S kl nm ds m)(e:aT H H'):fk K H' f d S kl nm ds m:=s.ext ((Ext.refl s.ff).same e)
theorem fk.get (s:fk K H f d S kl nm ds m)(e:cX (zw S) (ky y)=some v):cu H d (.str y) (some v):=by
 have h:=cu.k (k:=ky y) s.sd;rw[e]at h;exact h
theorem yu (S:Sn):cX (zw S) (ky "kinds")=some (.ref S.kd):=by kernel_rfl
theorem uf (S:Sn):cX (zw S) (ky "names")=some (.ref S.ln):=by kernel_rfl
theorem wO (S:Sn):cX (zw S) (ky "defs")=some (.ref S.ld):=by kernel_rfl
theorem AB (S:Sn):cX (zw S) (ky "gaps")=some (.ref S.lg):=by kernel_rfl
theorem DI (S:Sn):cX (zw S) (ky "first")=some (.int S.f0):=by kernel_rfl
theorem AD (S:Sn):cX (zw S) (ky "tags")=some (.ref S.lt):=by kernel_rfl
structure Ks(K:bN) (f d:Addr) (S:Sn) (kl:Kl) (nm:List Str) (ds:List (Str×Nat)) (ns:List Str) (m z dp:Nat) (H H':Hp) (v:V) (tm:Tm) (m':Nat):Prop where
 sc:fk K H' f d S kl nm ds m'
 fr:dZ [S.lg] f H H'
 r:Rp K H' (enc tm) v
 g:lZ kl ds S.f0 ns m m' z dp tm
def wQ(K:bN):Sp:=λr H Q _=>∃(f d g:Addr) (S:Sn) (o:Kl) (l:List Str) (p:List (Str×Nat)) (e:List Str) (m:Nat),r=[.ref f,.ref d,.ref g]/\fk K H f d S o l p m/\H g=some (.lst (e.map V.str))/\g≠f/\e.length<=100/\(∀x∈e,Wo x) /\
 ∀(v:V) (q:Hp) (t:Tm) (u:Nat),Ks K f d S o l p e m 1 0 H q v t u->Q v q
def fB(K:bN)(n:Nat):Sp:=λu H Q _=>∃(f d o:Addr) (g e:Int) (S:Sn) (q:Kl) (p:List Str) (r:List (Str×Nat)) (l:List Str) (m:Nat),u=[.ref f,.ref d,.ref o,.int g,.int e]/\fk K H f d S q p r m/\H o=some (.lst (l.map V.str))/\o≠f/\o≠S.lg/\0<=g/\g<=100/\0<=e/\e<n/\l.length+2*e.toNat<=80/\(∀x∈l,Wo x) /\
 ∀(v:V) (t:Hp) (y:Tm) (z:Nat),Ks K f d S q p r l m (max g.toNat 1) e.toNat H t v y z->Q v t
def ug(K:bN)(n:Nat):Sp:=λu H Q _=>∃(f d o:Addr) (e g:Int) (S:Sn) (p:Kl) (q:List Str) (r:List (Str×Nat)) (l:List Str) (m:Nat),u=[.ref f,.ref d,.ref o,.int e,.int g]/\fk K H f d S p q r m/\0<p.length/\H o=some (.lst (l.map V.str))/\o≠f/\o≠S.lg/\1<=e/\e<=100/\0<=g/\g<n/\l.length+2+2*g.toNat<=80/\(∀x∈l,Wo x) /\
 ∀(v:V) (t:Hp) (y:Tm) (z:Nat),Ks K f d S p q r l m (4*e.toNat+1) (g.toNat+1) H t v y z->Q v t
theorem bC :Nm Vn (ak bW):=by decide
theorem rO :Lm Vn (ak bW):=by decide
theorem mJ :aZ Vn VD (ak bW):=#[rfl,rfl,rfl,by decide,rfl,by decide,by decide]
theorem FW {P:I0}{w:Ni}{K:bN}{mg:Str->Option eF}{base:Heap}{gT:Addr}{tfd:M5}{f:Addr}{cdv:eF}{A:Nq}{outer:List OE}{s:fy}{H1:Hp}{E:XK}(TK:eL P w K mg base "_law_take" 1 U6 cD gT tfd)(hr:dj 1 (A.deeper (Nj "_law_named_leaf" (ak bW) s.heap.objs.size f cdv))){D:L2.Ends}{H:Hp}{fe d la:Addr}{fm:Int}{S:Sn}{kl:Kl}{nm:List Str}{ds:List (Str×Nat)}{ns:List Str}{m:Nat}(sc:fk K H fe d S kl nm ds m)(fm0:0<=fm)(fm5:fm<5)(k:∀(v:V) (H':Hp) (tm:Tm) (m':Nat),Ks K fe d S kl nm ds ns m 1 0 H H' v tm m'->D.rt v H'):
  jb (Zj gy Vn "_law_named_leaf" (ak bW) H1).nR ((bg bW).drop 3) D [some (.ref fe),some (.ref d),some (.ref la),some (.int fm)] H:=by
 refine d7 ((Ze (Zv (Zl br (Zu (Z1 (Zm (Z1 aH (Z1 (Z0 TK (dc (va bC 0) (Zd aC))) aA))) (Z1 (Zm (Z1 aH (Zd (fH aA)))) aA))) (bS iR (va bC 3) aC))))) ?_
 right
 right
 have hf:=sc.ff;ext;intro r H2 r0 r1 x2;ext;intro l C;have U:=ae C (.tup [.str "num",.int r]);have r3:Rp K (upd H2 l (.tup [.str "num",.int r])) (enc (.mk (.num r) [])) (.ref l):=by rw[cZ];exact Rp.new (K:=K) C (.cons .s (.one .i))
 generalize upd H2 l (.tup [.str "num",.int r])=H3 at U r3|-;ext;intro o B;have Q:=ae B (.tup []);have r4:Rp K (upd H3 o (.tup [])) (.t []) (.ref o):=Rp.new (K:=K) B .nil;generalize upd H3 o (.tup [])=H4 at Q r4|-;ext;intro g y;have O:=ae y (.tup [.str "row",.ref o]);have Y:Rp K (upd H4 g (.tup [.str "row",.ref o])) (enc (.mk .row [])) (.ref g):=by rw[cZ];exact Rp.new (K:=K) (xs:=[.s "row",.t []]) y (.cons .s (.one r4))
 have u:=(r3.same Q).same O;generalize upd H4 g (.tup [.str "row",.ref o])=H5 at O Y u|-;ext;intro L R;have J:=ae R (.lst [.ref l,.ref g]);have h6:bQ K (upd H5 L (.lst [.ref l,.ref g])) L [.ref l,.ref g]:=bQ.of af;have M:Ext fe H (upd H5 L (.lst [.ref l,.ref g])):=(((x2.same U).same Q).same O).same J;have W:=Y.same J;have q:=u.same J;generalize upd H5 L (.lst [.ref l,.ref g])=H6 at J h6 M W q|-;have p:=sc.ext M;have Z:dZ [S.lg] fe H H6:=Ext.sY sc.ff M;have I:D.rt (.ref l) H6:=k _ _ _ m #[p,Z,q,.leaf rfl (λb T=>by cases T) (ig λ_ z=>nomatch z) True.intro (λ_=>rfl) (i5 _)]
 have G:D.rt (.ref g) H6:=k _ _ _ m #[p,Z,W,.leaf rfl (λb T=>by cases T) (ig λ_ z=>nomatch z) True.intro (λ_=>rfl) (i5 _)]
 have em:fm % 2=0\/fm % 2=1:=()
 rcases em with e|e
 .have a0:eK [V.ref l,V.ref g] (fm % 2)=some (.ref l):=by rw[e];exact aG (j:=0) rfl
  ext;exact I
 .have a0:eK [V.ref l,V.ref g] (fm % 2)=some (.ref g):=by rw[e];exact aG (j:=1) rfl
  ext;exact G
theorem FY {P:I0}{w:Ni}{K:bN}{mg:Str->Option eF}{base:Heap}{gT:Addr}{tfd:M5}{f:Addr}{cdv:eF}{A:Nq}{outer:List OE}{s:fy}{U:Hp}{E:XK}(C:eL P w K mg base "_law_take" 1 U6 cD gT tfd)(e:mg "len"=none)(hr:dj 1 (A.deeper (Nj "_law_named_leaf" (ak bW) s.heap.objs.size f cdv))){D:L2.Ends}{H:Hp}{fe d la:Addr}{fm:Int}{S:Sn}{kl:Kl}{nm:List Str}{ds:List (Str×Nat)}{ns:List Str}{m:Nat}(sc:fk K H fe d S kl nm ds m)(hla:H la=some (.lst (ns.map V.str)))(nla:la≠fe)(lns:ns.length<=100)(wns:∀x∈ns,Wo x)(fm0:0<=fm)(fm5:fm<5)(k:∀(v:V) (G:Hp) (I:Tm) (m':Nat),Ks K fe d S kl nm ds ns m 1 0 H G v I m'->D.rt v G):
  jb (Zj gy Vn "_law_named_leaf" (ak bW) U).nR ((bg bW).drop 2) D [some (.ref fe),some (.ref d),some (.ref la),some (.int fm)] H:=by
 refine d7 ((Z5 (Zb (PW.pt (@gz _ _ _ _ _ _ _ (Zp mU (va bC 3) aC) (@fz _ _ _ _ (Zi pL (Z2 aL e Nh (Zd (va bC 2))) aC (bG _))))) (Ze (Zv (Zm (Z1 aH (Z1 (Zl br (va bC 2) (Z0 C (Z1 (va bC 0) (Z1 (Z2 aL e Nh (Zd (va bC 2))) aA)))) aA)))))) cO)) ?_
 right
 right
 refine lS ?_;intro T B;have last:T [some (.ref fe),some (.ref d),some (.ref la),some (.int fm)] H:=Cut.go B (FW C hr sc fm0 fm5 k);clear B;have hf:=sc.ff;ext;refine cg (λc=>?_) (λc=>?_)
 .ext;refine cg (λy=>?_) (λy=>?_)
  .have R:(0:Int)<((ns.map V.str).length:Int):=of_decide_eq_true y;have L:((ns.map V.str).length:Int)<1073741824:=by rw[bM];omega
   ext;intro Y H5 q p u;have h5:=u.1 _ _ nla hla;have(W,M,r):=oY (xs:=ns.map V.str) q p;have(o,g,rfl):=ND.mp r;ext;intro Z l;have J:=ae l (.tup [.str "name",.str o]);have t:=u.same J;exact k _ _ (.mk (.name o) []) m #[sc.ext t,Ext.sY sc.ff t,by rw[cZ];exact Rp.new (K:=K) l (.cons .s (.one .s)),.leaf rfl (λb O=>by cases O) (ig λ_ z=>nomatch z) (wns o g) (λQ=>by show(if o∈ns then Except.ok Q else _)=_;rw[if_pos g]) (i5 _)]
  .ext;exact last
 .ext;exact last
theorem DJ (F:jr K "_law_named_leaf" "_law_named_leaf" bW f W)(TK:eL P w K mg base "_law_take" 1 U6 cD gT tfd)(e:mg "len"=none):cA P w K mg base gy 2 f W VD (wQ K):=by
 refine F.ok mJ (λvs H Q E h=>?_) (λcdv A outer s H vs Q E hr h=>?_)
 .have(_,_,_,_,_,_,_,_,_,rfl,_):=h;rfl
 have(M,d,la,S,kl,nm,ds,ns,m,rfl,z,J,q,G,C,k):=h;refine#[_,(Z5 (Z4 mJ.nd rO 3 (Z0 TK (dc (va bC 0) (Zd aC)))) (Z5 (Zb (PW.pt (@gz _ _ _ _ _ _ _ (Zp bV (va bC 3) aC) (@fz _ _ _ _ (Zi mU (Z2 aL e Nh (Z1 (Zk (va bC 1)) aA)) aC (bG _))))) (Z5 (Zo (Z6 (Zk (va bC 1)) (Z1 (Zn iR (Zn dS (Zk (va bC 1)) (Zn kG aC (Z2 aL e Nh (Z1 (Zk (va bC 1)) aA)))) aC) aA))) (Ze (Zv (Zm (Z1 aH (Z1 (Zl br (Zk (va bC 1)) (pJ lH aC)) aA))))))) cO)),?_]
 right
 right
 have hf:=z.ff;refine j4 ?_;intro N1 N2 c1 u;ext;intro fm y L ac B;have l:=z.ext B;have t:=B.1 _ _ q J;have Z:dZ [S.lg] M H y:=Ext.sY z.ff B;have rest:N2 [some (.ref M),some (.ref d),some (.ref la),some (.int fm)] y:=Cut.go u (FY TK e hr l t q G C L () λv H' tm m' g=>k v H' tm m' #[g.sc,Z.trans g.fr,g.r,g.g]);clear u;have gg:=l.get (AB S);have g1:=l.get (DI S);have hg:=l.lg;have I:((pA S.f0 m).map V.int).length=m:=by rw[bM,IQ]
 have m5:=l.m5;ext;refine cg (λc=>?_) (λc=>?_)
 .ext;refine cg (λu=>?_) (λu=>?_)
  .have ad:(((pA S.f0 m).map V.int).length:Int)<5:=of_decide_eq_true u;have T:m<5:=()
   have ll:((pA S.f0 m).map V.int).length<mH:=bq ();have D:=l.nf.2.2.2.1;have em:(S.f0+11*(((pA S.f0 m).map V.int).length:Int)) % 100=(S.f0+11*(m:Int)) % 100:=by rw[I]
   have Y:dZ [S.lg] M H (upd y S.lg (.lst ((pA S.f0 m).map V.int++[.int ((S.f0+11*(((pA S.f0 m).map V.int).length:Int)) % 100)]))):=Z.upd (IF.mpr rfl) D hg;have U:upd y S.lg (.lst ((pA S.f0 m).map V.int++[.int ((S.f0+11*(((pA S.f0 m).map V.int).length:Int)) % 100)])) S.lg=some (.lst ((pA S.f0 (m+1)).map V.int)):=by rw[af,em,wN,lj];rfl
   have o:=z.go Y U T;have ab:=o.get (AB S);have al:eK ((pA S.f0 (m+1)).map V.int) (-1)=some (.int ((S.f0+11*(m:Int)) % 100)):=by rw[wN,lj];exact sI _ _
   have aa:bQ K (upd y S.lg (.lst ((pA S.f0 m).map V.int++[.int ((S.f0+11*(((pA S.f0 m).map V.int).length:Int)) % 100)]))) S.lg ((pA S.f0 (m+1)).map V.int):=bQ.of U;ext;intro p R;have O:=ae R (.tup [.str "gap",.int ((S.f0+11*(m:Int)) % 100)]);exact k _ _ _ (m+1) #[o.same O,Y.same O,by rw[cZ];exact Rp.new (K:=K) R (.cons .s (.one .i)),.gap T (i5 _)]
  .ext;exact rest
 .ext;exact rest
end G14
namespace HT
open PySem PyProof.Rows
section
open PySem.SeqAt
open PySem.AutoSeq1 (wpAny_loadPart')
open PySem.MeetsSeq PySem.MeetsSeq2 PySem.MeetsSeq3
theorem oA (ht:US s.heap t items)(hs:s.heap.IsSliceOf d o m .none)(pl:Sw o p)(q:Sw m hi)(h0:ir items.size 0 p=0)(h1:ir items.size items.size hi=items.size)(h:Q (.ref t) s):Na (Nf prog w) A (Q2 (.ref t) (.ref d)) Q E s:=by
 have(r,e,g,u):=id hs;have l:s.TypeIs (.ref d) "slice":=#[r,e,g];unfold Q2
 try with_reducible refine Oo ?_
 first|refine cB (vv ?_)|skip
 refine cB (Si ht.typeIs (by decide) ?_)
 refine cB (OD (name:=Of "__getitem__") ht.typeIs NI
  (O3 NI ht.typeIs RM ?_ (R3 _ _)))
 show Na _ _ (Qm (.ref t)>>=_) _ _ s;refine cB (T7 ht ?_);refine cB (RQ l ?_);rw[if_pos (by decide)];refine cB (kR hs pl q ?_);rw[h0,h1];show Na _ _ (if(((0:Nat):Int) == 0&&(1:Int) == 1&&(items.size-0) == items.size)=true then _ else _) _ _ s;rw[if_pos (by simp)];show Na _ _ ((typeOf (.ref t)>>=_)>>=_) _ _ s;refine cB (cB (RQ ht.typeIs (vv ?_)));show Na _ _ (if(_:Bool)=true then _ else _) _ _ s;rw[if_pos (by decide)];refine cB (RX ?_);exact vv #[_,rfl,vv h]
theorem qu {n:Nat}(hs:s.heap.IsSliceOf l .none .none (.int (-1) t))(h:Q ((n:Int) - 1,-1,n) s):Na (Nf prog w) A (Pw (.ref l) (pure (n:Int))) Q E s:=by
 have(o,d,m,g):=id hs;unfold Pw Se;refine cB (cB (NU d g (x:=.none) rfl (cB (NU d g (x:=.none) rfl (cB (NU d g (x:=.int (-1) t) rfl (vv ?_)))))));refine cB (jW (.int (-1) t) ?_);show Na _ _ (if((-1:Int) == 0)=true then _ else _) _ _ s;rw[if_neg (by decide)];refine cB (jW .none (cB (jW .none (cB (vv ?_)))));show Na _ _ (pure ((n:Int) - 1,(-1:Int),Ou ((n:Int) - 1) (-1) (-1))) _ _ s
 have e:Ou ((n:Int) - 1) (-1) (-1)=n:=by
  unfold Ou;rw[if_neg (by decide)]
  split
  .rw[show(-(-1:Int))=1 from rfl,Ut];omega
  .omega
 rw[e];exact vv h
theorem BI (xs:Array eF):((Pa xs.size).filterMap λ(k:Nat)=>xs[(((xs.size:Nat):Int) - 1+(k:Int)*(-1)).toNat]?).toArray=xs.toList.reverse.toArray:=by
 congr 1
 have d:∀n,n<=xs.size->((Pa n).filterMap λ(k:Nat)=>xs[(((xs.size:Nat):Int) - 1+(k:Int)*(-1)).toNat]?)=xs.toList.reverse.take n:=by
  intro n
  induction n with
  |zero=>intro _;rfl
  |succ n ih =>
   intro h;rw[RL,List.filterMap_append,ih ()];have l:n<xs.toList.reverse.length:=by rw[Pg,OY];omega
   rw[mu l]
   congr 1
   have e:(((xs.size:Nat):Int) - 1+(n:Int)*(-1)).toNat=xs.size-1-n:=()
   have g:xs.size-1-n<xs.size:=()
   rw[OX,e,Array.getElem?_eq_getElem g];simp only[List.filterMap_nil];rw[Tv,Array.getElem_toList];simp
 rw[d xs.size (i5 _),Oh (by rw[Pg,OY];exact i5 _)]
theorem pq (ht:US s.heap t items)(hs:s.heap.IsSliceOf e .none .none (.int (-1) p))(hsz:items.size<=mH)(h:Q (.ref s.heap.objs.size) {s with heap:=s.heap.push {cls:=.type "tuple",data:=.seq items.toList.reverse.toArray}}):Na (Nf prog w) A (Q2 (.ref t) (.ref e)) Q E s:=by
 have d:sizeOk (.seq items.toList.reverse.toArray):=by
  show items.toList.reverse.toArray.size<=mH;rw[M6,Pg,OY];exact hsz
 have(q,g,l,r):=id hs;have o:s.TypeIs (.ref e) "slice":=#[q,g,l];unfold Q2
 try with_reducible refine Oo ?_
 first|refine cB (vv ?_)|skip
 refine cB (Si ht.typeIs (by decide) ?_)
 refine cB (OD (name:=Of "__getitem__") ht.typeIs NI
  (O3 NI ht.typeIs RM ?_ (R3 _ _)))
 show Na _ _ (Qm (.ref t)>>=_) _ _ s;refine cB (T7 ht ?_);refine cB (RQ o ?_);rw[if_pos (by decide)];refine cB (qu hs ?_);show Na _ _ (if((((items.size:Nat):Int) - 1) == 0&&(-1:Int) == 1&&items.size == items.size)=true then _ else _) _ _ s;rw[if_neg (by simp),BI]
 first
  |exact cB (m:=Oi _) (NL (vv #[_,rfl,vv h]) d)
  |exact cB (m:=Oi _) (NL (cB (vv (vv #[_,rfl,vv h]))) d)
  |exact cB (cB (m:=Oi _) (NL (vv (vv #[_,rfl,vv h])) d))
  |exact cB (cB (m:=Oi _) (NL (vv #[_,rfl,vv h]) d))
end
end HT
namespace L2
open PySem PySem.Spec PyProof.Rows
def LK(K:bN):V->Option Int->Option Int->Hp->VK->Prop:=λx lo hi H Q=>∃a g,x=.ref a/\cH K H a g/\∀p d,aT H d->cH K d p (jv g lo hi)->Q (.ref p) d
theorem kB :BW X (LK X.K):=by
 intro l s G H x v L J lo hi M Q I y D B z h;have(a,d,rfl,t,q):=h
 by_cases m:HT.ir d.length 0 lo=0/\HT.ir d.length d.length hi=d.length
 .cases y
  have(o,r,C,R):=I.tuple t;have g:o.toArray.size=d.length:=by rw[M6];exact r.length.symm
  refine#["tuple",_,NI.lookup,C.typeIs,?_];refine HT.oA C D B z (by rw[g];exact m.1) (by rw[g];exact m.2) #[.ref a,H,I,rfl,q a H (λ_ _ e=>e) ?_]
  have:jv d lo hi=d:=by
   unfold jv;rw[m.1,m.2,List.drop_zero,Nat.sub_zero,Nl]
  rw[this];exact t
 .exact vK l s G H (.ref a) v L J lo hi M Q I y D B z #[a,d,rfl,t,m,λp O=>q p _ (λb u q=>by rw[au (ay q O)];exact q) (cH.of af)]
def Ku(K:bN)(te:TE)(tl th tk:TO):TE:=λd H Q=>te d H λx r=>tl d r λl q=>th d q λu o=>tk d o λk g=>∃a m,x=.ref a/\cH K g a m/\l=none/\u=none/\k=some (-1) /\
 ∀p,g p=none->Q (.ref p) (upd g p (.tup m.reverse))
theorem FZ {st:Expr}{lo:Option Expr}(K:bN)(hK:X.K=K)(he:PE X e te)(hl:PO X lo tl)(hu:PO X hi th)(hk:PO X (some st) tk):PE X (.Subscript e (.Slice lo hi (some st) p2) pos) (Ku K te tl th tk):=by
 subst hK;intro d s m H Q I h;refine SX (cR (he d s m H _ I h) λv M ⟨x,H1,I1,O,q1⟩=>?_);refine wpAny_Slice (cR (hl d M m H1 _ I1 q1) λvl L ⟨l,H2,I2,Y,U⟩=>cR (hu d L m H2 _ I2 U) λvu J ⟨u,H3,I3,V,S⟩=>cR (hk d J m H3 _ I3 S) λG p ⟨k,H4,I4,Z,R⟩=>?_);have(a,B,rfl,hx,rfl,rfl,rfl,q):=R
 cases O
 cases Y
 cases V
 obtain⟨tk,rfl⟩:∃t,G=.int (-1) t:=by cases Z;exact#[_,rfl]
 have z:Inv X d m H4 {p with heap:=p.heap.push {cls:=.type "slice",data:=.fields #[.none,.none,.int (-1) tk,]}}:=I4.kept (t':=p.toks) λb ob q=>tF _ q;have(g,r,D,C):=z.tuple hx;have y:g.length=B.length:=r.length.symm;refine tail_any (T:="tuple") (ops:=[.ref a,.ref p.heap.objs.size]) D.typeIs NI.lookup ?_ (by with_unfolding_all rfl);refine HT.pq (items:=g.toArray) D (R4 ..) (by rw[M6,y];exact C) ?_;refine#[.ref _,_,z.laid (t':=p.toks) (o:=.tup B.reverse) (λb ob q=>tF _ q) (i5 _) ?_,rfl,q _ (z.hok.fresh (i5 _))];exact#[by rw[Pg];exact C,g.reverse,r.reverse,TQ _ _,_,Nc _ rfl,rfl]
end L2
namespace G14
open PySem L2
theorem vA {kl:Kl}{ds:List (Str×Nat)}{ns b:List Str}{k:Tm}:∀{bs:List (List Str)}{ks:List Tm}{g:List Int},bs.length=ks.length->jG kl ds g ns (bs++[b]) (ks++[k])=match jG kl ds g ns bs ks with
  |.error f=>.error f
  |.ok g'=>uE kl ds g' (ns++b) k
 | [],[],g,_=>by
  rw[PF,PF,jo,j6];dsimp only
  cases uE kl ds g (ns++b) k with
  |error f=>rfl
  |ok g'=>exact j6 ..
 |c::bs,j::ks,g,h=>by
  rw[Qq,Qq,jo,jo]
  cases uE kl ds g (ns++c) j with
  |error f=>rfl
  |ok g'=>exact vA (by simpa using h)
theorem jD.snoc (t:jD kl ds f0 ns bs m o z d ks)(u:bs.length=ks.length)(h:lZ kl ds f0 (ns++b) o l p d k):jD kl ds f0 ns (bs++[b]) m l (z+p) d (ks++[k]):=by
 refine#[λx g=>(M7.mp g).elim (t.wn x) (λe=>IF.mp e▸h.wn),λx g=>(M7.mp g).elim (t.ta x) (λe=>IF.mp e▸h.ta),?_,λx g=>(M7.mp g).elim (t.dp x) (λe=>IF.mp e▸h.dp),λy v=>?_,Nu t.mm h.mm]
 .rw[Tm.pX,Tm.eB];have:=t.sz;have:=h.sz;simp only[Tm.sizes];omega
 .have(r,C,o):=t.gd y v;have(q,B,l):=h.gd r o;exact#[q,by rw[vA u,C];exact B,l]
noncomputable def iP(d:List Str)(t:Int)(n:Nat):List Str:=(Pa n).map λj=>d.getD ((t.toNat+j) % 5) ""
theorem DL (d:List Str)(t:Int)(n:Nat):iP d t (n+1)=iP d t n++[d.getD ((t.toNat+n) % 5) ""]:=by
 unfold iP;rw[RL,lj];rfl
theorem rY (d:List Str)(t:Int)(n:Nat):(iP d t n).length=n:=by
 unfold iP;rw[bM,Ra]
theorem IT {d:List Str}(g:d.length=6)(l:0<=t)(j:Nat):eK (d.map V.str) ((t+(0+(j:Int))) % 5)=some (.str (d.getD ((t.toNat+j) % 5) "")):=by
 have e:(t.toNat+j) % 5<d.length:=()
 have:=aG (xs:=d.map V.str) (j:=(t.toNat+j) % 5) (v:=.str (d.getD ((t.toNat+j) % 5) "")) (by rw[EF,my e,Om,my e];rfl);rw[show(((t.toNat+j) % 5:Nat):Int)=(t+(0+(j:Int))) % 5 by omega]at this;exact this
theorem F0 (m:d.length=6)(un:Un d)(hn:n<=2):cJ [] (iP d t n)=none:=by
 match n,hn with
 |0,_=>rfl
 |1,_=>rfl
 |2,_ =>
  show(if d.getD ((t.toNat+1) % 5) ""∈[d.getD ((t.toNat+0) % 5) ""]then some _ else none)=none;refine if_neg λz=>?_;have e:=IF.mp z;have l1:(t.toNat+1) % 5<d.length:=()
  have g:(t.toNat+0) % 5<d.length:=()
  rw[Om,Om,my l1,my g]at e;have l:d[(t.toNat+1) % 5]=d[(t.toNat+0) % 5]:=e;have:=un ((t.toNat+1) % 5) ((t.toNat+0) % 5) _ (my l1) (by rw[l];exact my g);omega
structure L5(K:bN) (fe d:Addr) (S:Sn) (kl:Kl) (nm:List Str) (ds:List (Str×Nat)) (ns:List Str) (m z dp:Nat) (ts:List (Str×List Kk)) (lar:Addr) (H0:Hp) (i:Nat) (H:Hp) (arms:List (Str×List Str)) (ks:List Tm) (us:List V) (m':Nat):Prop where
 sc:fk K H fe d S kl nm ds m'
 fr:dZ [S.lg,lar] fe H0 H
 ha:H lar=some (.lst us)
 r:bO K H (Og oV arms (ks.map enc)) us
 la:arms.length=i
 lk:ks.length=i
 nm:arms.map (·.1)=(ts.take i).map (·.1)
 ok:∀(j:Nat) (a:Str×List Str) (t:Str×List Kk),arms[j]?=some a->ts[j]?=some t->a.2.length=t.2.length/\cJ [] a.2=none
 g:jD kl ds S.f0 ns (arms.map (·.2)) m m' (i*z) dp ks
 w:∀a∈arms,Wo a.1/\∀x∈a.2,Wo x
theorem DM (h:arms.length=ks.length):Og oV (arms++[a]) (ks++[k])=Og oV arms ks++[oV a k]:=by
 rw[List.zipWith_append h];rfl
theorem fk.other (s:fk K H f d S kl g ds m)(e:fk K t f d S kl g r B)(C:t l=none)(h:H l=some (.lst xs))(ys:List V):fk K (upd H l (.lst ys)) f d S kl g ds m:=by
 have(J,M,L):=s.ld;have(v,t1,t2):=s.lt;have(_,I,_):=e.ld;have(_,G,_):=e.lt;have(p,q,D):=e.ff;have(z,y,o):=s.ff;have n:∀{c:Addr}{u:L2.HO},t c=some u->c≠l:=λq=>ay q C;have k:Kt H (upd H l (.lst ys)):=Kt.lst h _;exact#[by rw[au (n e.sd)];exact s.sd,s.kd.kt k,by rw[au (n e.ln)];exact s.ln,s.l6,s.un,#[J,by rw[au (n I)];exact M,L.kt k],#[v,by rw[au (n G)];exact t1,t2.kt k],by rw[au (n e.lg)];exact s.lg,s.m5,s.f0,#[z,y,by rw[au (n D)];exact o],s.nf,s.ng,s.kk,s.dn,s.dl,s.d3,s.nw,s.dw]
theorem aN :Nm U7 (ak bZ):=by decide
theorem cK :Lm U7 (ak bZ):=by decide
theorem ck :aZ U7 Vl (ak bZ):=#[rfl,rfl,rfl,by decide,rfl,by decide,by decide]
theorem Ga {P:I0}{w:Ni}{K:bN}{mg:Str->Option eF}{base:Heap}{gT gN:Addr}{tfd nfd:M5}{n j:Nat}(hj:1<=j){f:Addr}{cdv:eF}{A:Nq}{outer:List OE}{s:fy}{H1:Hp}{E:XK}(TK:eL P w K mg base "_law_take" 1 U6 cD gT tfd)(cr:eL P w K mg base "_law_named" j U5 (fB K n) gN nfd)(aw:mg "len"=none)(z_range:mg "range"=none)(G:mg "tuple"=none)(hr:dj j (A.deeper (Nj "_law_named_match" (ak bZ) s.heap.objs.size f cdv))){D:L2.Ends}{H:Hp}{fe d la ta:Addr}{share down:Int}{S:Sn}{kl:Kl}{nm:List Str}{ds:List (Str×Nat)}{ns:List Str}{m m1:Nat}{kd:Str×List (Str×List Kk)}{fv:V}{ft:Tm}{o5 o8 o9 o10 o11 a3:Option V}(sc:fk K H fe d S kl nm ds m1)(hk:kd∈kl)(hla:H la=some (.lst (ns.map V.str)))(nla:la≠fe)(nlg:la≠S.lg)(sh1:1<=share)(sh2:share<=100)(dn0:0<=down)(dn:down<n)(lns:ns.length+2+2*down.toNat<=80)(wns:∀x∈ns,Wo x)(rt:Rp K H (.t (kd.2.map kK)) (.ref ta))(rf:Rp K H (enc ft) fv)(gf:lZ kl ds S.f0 ns m m1 (max share.toNat 1) down.toNat ft)(k:∀(v:V) (H':Hp) (tm:Tm) (m':Nat),fk K H' fe d S kl nm ds m'->dZ [S.lg] fe H H'->Rp K H' (enc tm) v->lZ kl ds S.f0 ns m m' (4*share.toNat+1) (down.toNat+1) tm->D.rt v H'):
  jb (Zj gy U7 "_law_named_match" (ak bZ) H1).nR ((bg bZ).drop 2) D [some (.ref fe),some (.ref d),some (.ref la),some (.int share),some (.int down),o5,some (.ref ta),some fv,o8,o9,o10,o11,a3] H:=by
 refine d7 ((Z5 (sa ck.nd cK 8 (dF aA)) (Z5 (Zh NC (@cz _ _ _ _ (Zl br (Zu (Z1 (va aN 6) (Z1 (FZ K rfl (va aN 6) eZ eZ (dm (pJ lH aC))) aA))) (Z0 TK (dc (va aN 0) (Zd aC))))) (Z9 (2) (Zf (ga ck.nd cK 9) (Zt (ga ck.nd cK 10)))) (Z5 (Z4 ck.nd cK 11 (Z0 TK (dc (va aN 0) (Zd aC)))) (Z5 (@nj _ _ _ _ _ _ _ _ _ _ _ _ _ _ _ (ak bZ) U7 ["_law_j"] [1,11] rfl rfl rfl (by decide) (Zr (Z1 (Z2 aL aw Nh (Zd (va aN 10))) aA)) (λ_ _ _ _=>(Z3 (i:=0) (show(VN:List Str).Nodup by decide))) (λ_ _ _ _=>fZ) (λ_ _ _ _=>(Zl (Cw K rfl) (Zk (va (show Nm VN _ by left) 1)) (Zn iR (bS dS (va (show Nm VN _ by left) 2) (va (show Nm VN _ by left) 0)) aC))) (ga ck.nd cK 12) (by kernel_rfl) (by intro _;rfl)) (Ze (Zo (Z6 (va aN 8) (Z1 (Zm (Z1 (va aN 9) (Z1 (Z7 cS G NX (Zd (va aN 12))) (Z1 (Z0 cr (Z1 (va aN 0) (Z1 (va aN 1) (Z1 (bS iT (va aN 2) (va aN 12)) (Z1 (va aN 3) (Zd (va aN 4))))))) aA)))) aA))))))) (Ze (Zv (Zm (Z1 aH (Z1 (va aN 7) (Z1 (Z7 cS G NX (Zd (va aN 8))) aA))))))))) ?_
 right
 right
 have(c9,c8,a4):=sc.kk.pt kd hk;ext;intro B C;have s2:=ae C (.lst []);have b1:upd H B (.lst []) B=some (.lst []):=af;have ad:B≠fe:=bA sc.ff C;have bn:B≠S.lg:=(ay sc.lg C).symm;generalize upd H B (.lst [])=H2 at s2 b1|-;have bh:=sc.same s2;have a2:=rt.same s2;have(b5,a0,e,b2,be):=a2.aS;obtain rfl:ta=b5:=V.ref.inj e;ext;intro p3 bw;have s3:=ae bw (.tup a0.reverse)
 have r3:Rp K (upd H2 p3 (.tup a0.reverse)) (.t (kd.2.reverse.map kK)) (.ref p3):=by
  rw[UL];exact Rp.new (K:=K) bw be.reverse
 generalize upd H2 p3 (.tup a0.reverse)=H3 at s3 r3|-;ext;intro p4 bv;have s4:=ae bv (.lst [.ref ta,.ref p3]);have h4:upd H3 p4 (.lst [.ref ta,.ref p3]) p4=some (.lst [.ref ta,.ref p3]):=af;have ab:=s3.trans s4;have a1:=bh.same ab;have a8:=a1.ff;have n4:p4≠fe:=bA (bh.same s3).ff bv;generalize upd H3 p4 (.lst [.ref ta,.ref p3])=H4 at s4 h4 ab a1 a8|-;ext;intro r5 H5 c4 c3 x5;have h5:bQ K H5 p4 [.ref ta,.ref p3]:=bQ.of (x5.1 _ _ n4 h4);have b8:=a1.ext x5;have f5:dZ [S.lg,B] fe H H5:=((dZ.refl sc.ff).same (s2.trans ab)).ext x5;have cl:=x5.1 _ _ ad (ab _ _ b1);have c2:=rf.kt f5.kt
 obtain⟨tb,Y,db,U,b9⟩:∃(tb:Addr) (Y:List (Str×List Kk)),eK [V.ref ta,V.ref p3] r5=some (.ref tb)/\Y.Perm kd.2/\Rp K H5 (.t (Y.map kK)) (.ref tb):=by
  have k5:=(Kt.same ab).trans (x5.kt a8);rcases(show r5=0\/r5=1 by omega)with rfl|rfl
  .exact#[ta,kd.2,aG (j:=0) rfl,List.Perm.refl _,a2.kt k5]
  .exact#[p3,kd.2.reverse,aG (j:=1) rfl,List.reverse_perm _,(r3.same s4).kt (x5.kt a8)]
 have(b4,az,e,bc,an):=b9.aS;obtain rfl:tb=b4:=V.ref.inj e;have aq:=an.length;rw[bM]at aq;have c7:Y.length=kd.2.length:=U.length_eq;clear rt a2 b2 be r3;ext;refine eY (K:=K) (xs:=az) (λi σ H6=>∃arms ks us m' o9 o10 o11 a3,σ=[some (.ref fe),some (.ref d),some (.ref la),some (.int share),some (.int down),o5,some (.ref ta),some fv,some (.ref B),o9,o10,o11,a3]/\L5 K fe d S kl nm ds ns m1 share.toNat down.toNat Y B H i H6 arms ks us m'/\Kt H5 H6) #[[],[],[],m1,_,_,_,_,rfl,#[b8,f5,cl,.nil,rfl,rfl,rfl,λj a t h=>by simp at h,by rw[Nat.zero_mul];exact .nil (i5 _),λ_ h=>nomatch h],Kt.refl] ?_ ?_ ?_
 .rintro i σ H6 hi ⟨_,_,_,_,_,_,_,_,_,_,k6⟩;exact bc.kt k6
 .rintro i xv σ H6 hxv ⟨arms,ks,us,m',_,_,_,_,rfl,p,k6⟩;have(t,ht,rx):=an.get' hxv;rw[EF]at ht;have(Q,ah,rfl):=xn.mp ht;have ch:=(bH.mp ah).1;have cq:Y.take (i+1)=Y.take i++[Q]:=by rw[mu ch,(bH.mp ah).2]
  have c0:=a4 Q (U.mem_iff.mp (M9 ah));have(ga,w1,w2,rfl,co,q1,q2):=(show Rp K H5 (.t [.s Q.1,.t (Q.2.map jJ)]) xv from rx).t2;obtain rfl:=q1.aJ;have(ia,l,rfl,cf,cg):=q2.aS;have bp:=cg.length;rw[bM]at bp;have cx:=co.kt k6;have bf:=p.sc;have ci:=bf.ff;ext;intro u H7 b3 cy x7;have I:=bf.ext x7;have a5:=x7.kt ci;have cw:=(cf.kt k6).kt a5;have de:=I.get (uf S);have da:=I.ln;ext;refine lN (n:=l.length) (λq σ us H8=>(∃y,σ=[y,some (.ref d),some (.int u)])/\H8=H7/\us=(iP nm u q).map V.str) #[#[_,rfl],rfl,rfl] ?_ (small ()) ?_ ?_
  .rintro q σ us H8 h ⟨_,_,rfl⟩;rw[bM,rY];exact i5 _
  .rintro q σ us8 H8 hq ⟨⟨_,rfl⟩,rfl,rfl⟩;have oa:=IT I.l6 b3 q;ext;rw[DL,lj];rfl
  .rintro σ us8 H8 ⟨⟨_,rfl⟩,rfl,rfl⟩ p9 hp9;have s9:=ae hp9 (.lst ((iP nm u l.length).map V.str));have h9:upd H8 p9 (.lst ((iP nm u l.length).map V.str)) p9=some (.lst ((iP nm u l.length).map V.str)):=af;generalize upd H8 p9 (.lst ((iP nm u l.length).map V.str))=H9 at s9 h9|-;have b6:=I.same s9;have bz:H6 la=some (.lst (ns.map V.str)):=p.fr.Lv nlg (ay hla C) nla hla;have bx:=s9 _ _ (x7.1 _ _ nla bz);have dd:=s9 _ _ (x7.1 _ _ ad p.ha);ext;refine .inl #[bQ.of h9,λJ av=>?_];have ac:=ae av (.tup ((iP nm u l.length).map V.str));have bl:Rp K (upd H9 J (.tup ((iP nm u l.length).map V.str))) (.t ((iP nm u l.length).map .s)) (.ref J):=Rp.new (K:=K) av (bO.strs _);have cn:=ac _ _ h9;have a7:=ac _ _ bx;have M:=b6.same ac;generalize upd H9 J (.tup ((iP nm u l.length).map V.str))=H10 at ac bl cn a7 M|-;have lc:(ns.map V.str).length+((iP nm u l.length).map V.str).length<=mH:=small (by rw[bM,bM,rY];omega);ext;intro ag aj;have ea:ns.map V.str++(iP nm u l.length).map V.str=(ns++iP nm u l.length).map V.str:=by rw[lj]
   rw[ea];have am:=ae aj (.lst ((ns++iP nm u l.length).map V.str));have cm:upd H10 ag (.lst ((ns++iP nm u l.length).map V.str)) ag=some (.lst ((ns++iP nm u l.length).map V.str)):=af;have c5:ag≠fe:=bA M.ff aj;have cu:ag≠S.lg:=(ay M.lg aj).symm;generalize upd H10 ag (.lst ((ns++iP nm u l.length).map V.str))=H11 at am cm|-;have ct:=M.same am;have c1:(0:Int)<=share:=()
   have bb:∀x∈iP nm u l.length,Wo x:=λx hx=>by
    have(q,hq,rfl):=ND.mp hx;have hl:(u.toNat+q) % 5<nm.length:=by have:=I.l6;omega
    rw[Om,my hl];exact I.nw _ (NP hl)
   have cs:∀x∈ns++iP nm u l.length,Wo x:=λx hx=>(M7.mp hx).elim (wns x) (bb x);have cv:(ns++iP nm u l.length).length+2*down.toNat<=80:=by rw[i4,rY];omega
   ext;intro ax al Z bo L;have aa:=s9.trans (ac.trans am);have ar:=(Kt.same aa).trans L.fr.kt;have cc:Rp K al (.t ((iP nm u l.length).map .s)) (.ref J):=(bl.same am).kt L.fr.kt;have x6:dZ [S.lg,B] fe H al:=(((p.fr.ext x7).same aa)).trans (L.fr.sub λz hz=>by rw[IF.mp hz];exact .head _);have b0:al B=some (.lst us):=L.fr.jF bn ad (aa _ _ (x7.1 _ _ ad p.ha));have cb:=p.r.kt (a5.trans ar);have c6:us.length<mH:=bq (by rw[p.r.length,Oz,p.la];omega);ext;intro T as;have R:=ae as (.tup [.str Q.1,.ref J,ax]);have bk:Rp K (upd al T (.tup [.str Q.1,.ref J,ax])) (oV (Q.1,iP nm u l.length) (enc Z)) (.ref T):=Rp.new (K:=K) (xs:=[.s Q.1,.t ((iP nm u l.length).map .s),enc Z]) as (.cons .s (.cons cc (.one L.r)));have O:=R _ _ b0;have ba:=x6.same R;have ao:=L.sc.same R;have ap:=cb.same R;generalize upd al T (.tup [.str Q.1,.ref J,ax])=H13 at R bk O ba ao ap|-;have a6:Kt H13 (upd H13 B (.lst (us++[.ref T]))):=Kt.lst O _;have bi:fk K (upd H13 B (.lst (us++[.ref T]))) fe d S kl nm ds bo:=ao.other sc C O _;ext
   .refine L5.mk (arms:=arms++[(Q.1,iP nm u l.length)]) (ks:=ks++[Z]) (us:=us++[.ref T]) (m':=bo) bi (ba.upd (Oe _ (.head _)) ad O) af ?_ (by rw[i4,p.la];rfl) (by rw[i4,p.lk];rfl) ?_ ?_ ?_ (λa W=>(M7.mp W).elim (p.w a) (λz=>by rw[IF.mp z];exact#[(sc.kk.nw kd hk).2 Q (U.mem_iff.mp (M9 ah)),bb]))
    .rw[lj,Nr,OS,DM (by rw[bM,p.la,p.lk])];exact(ap.kt a6).snoc (bk.kt a6)
    .rw[lj,cq,lj,p.nm];rfl
    .intro q a t W bs
     by_cases c:q<arms.length
     .rw[NY c]at W;exact p.ok q a t W bs
     .rw[NN ()]at W
      have hq:q=i:=by
       have:=(bH.mp W).1;have:[(Q.1,iP nm u l.length)].length=1:=rfl;have:=p.la;omega
      subst hq;rw[p.la,S6]at W
      cases W
      obtain rfl:Q=t:=Ng (ah.symm.trans bs);exact#[by rw[rY];exact bp,F0 I.l6 I.un ()]
    .rw[lj,S4];refine jD.snoc p.g (by rw[bM,p.la,p.lk]) ?_;have e:=L.g;rw[Pd ()]at e;exact e
   .exact(((k6.trans a5).trans ar).trans (Kt.same R)).trans a6
 .rintro σ H6 ⟨arms,ks,us,m',_,_,_,_,rfl,p,k6⟩;have ca:=rf.kt p.fr.kt;have cj:=p.ha;ext;refine .inl #[bQ.of cj,λp7 bu=>?_];have s7:=ae bu (.tup us);have r7:=Rp.new (K:=K) bu p.r;generalize upd H6 p7 (.tup us)=H7 at s7 r7|-;ext;intro p8 bt;have s8:=ae bt (.tup [.str "match",fv,.ref p7]);have ce:=p.la;have cd:=p.lk
  have r8:Rp K (upd H7 p8 (.tup [.str "match",fv,.ref p7])) (enc (.mk (.mat arms) (ft::ks))) (.ref p8):=by
   rw[cZ];exact Rp.new (K:=K) (xs:=[.s "match",enc ft,.t (Og oV arms (ks.map enc))]) bt (.cons .s (.cons (ca.same s7) (.one r7)))
  have bm:=p.nm;rw[aq,Nl]at bm;have cp:dZ [S.lg] fe H H6:=#[λb o n1 n2 e=>p.fr.oth b o (λz=>(M8.mp z).elim (λz=>n1 (by rw[z];exact .head _)) (λz=>by rw[IF.mp z,C]at e;cases e)) n2 e,p.fr.kt,p.fr.ff];refine k _ _ (.mk (.mat arms) (ft::ks)) m' ((p.sc.same s7).same s8) ((cp.same s7).same s8) r8 ?_;refine lZ.FT (d:=down.toNat) (z:=share.toNat+az.length*share.toNat) ?_ ?_ ?_ p.w ?_ ?_ ?_
  .show((ks.length+1) == arms.length+1)=true;rw[ce,cd];simp
  .intro b hb;rcases M8.mp (show b∈[]::arms.map (·.2)from hb)with rfl|hb
   .exact Nn _
   .have(a,W,rfl):=ND.mp hb;have(q,hq):=NR W;have ai:q<Y.length:=by have:=(bH.mp hq).1;omega
    have:=(p.ok q a _ hq (my ai)).1;have:=a4 Y[q] (U.mem_iff.mp (NP ai));omega
  .intro a9 e;obtain rfl:arms=a9:=Hd.mat.inj e;refine#[(),λa W=>?_];have(q,hq):=NR W;have ai:q<Y.length:=by have:=(bH.mp hq).1;omega
   have:=(p.ok q a _ hq (my ai)).1;have:=a4 Y[q] (U.mem_iff.mp (NP ai));omega
  .intro g0
   show(match gx kl arms with
    |some f=>Except.error f
    |none=>Except.ok g0)=_
   rw[FU sc.kk hk U bm p.ok]
  .have e:=gf;rw[Pd ()]at e;exact jD.ji e p.g
  .have:az.length*share.toNat<=3*share.toNat:=PU _ ();omega
theorem BJ (hj:1<=j)(F:jr K "_law_named_match" "_law_named_match" bZ f fd)(TK:eL P w K mg base "_law_take" 1 U6 cD gT tfd)(L:eL P w K mg base "_law_named" j U5 (fB K n) gN nfd)(p:mg "len"=none)(z_range:mg "range"=none)(o:mg "tuple"=none):cA P w K mg base gy (j+1) f fd Vl (ug K n):=by
 refine F.ok ck (λvs H Q E h=>?_) (λcdv A outer s H vs Q E hr h=>?_)
 .have(_,_,_,_,_,_,_,_,_,_,_,rfl,_):=h;rfl
 have(fe,d,la,q,J,S,kl,nm,ds,ns,m,rfl,z,ap,ab,u,B,T,R,ae,dn,Y,O,k):=h;refine#[_,(Z5 (Zq (Zl aP (Zk (va aN 1)) (Z0 TK (Z1 (va aN 0) (Z1 (Z2 aL p Nh (Z1 (Zk (va aN 1)) aA)) aA)))) (Z9 (2) (Zf (ga ck.nd cK 5) (Zt (ga ck.nd cK 6))))) (Z5 (Z4 ck.nd cK 7 (Z0 L (Z1 (va aN 0) (Z1 (va aN 1) (Z1 (va aN 2) (Z1 (va aN 3) (Zd (va aN 4)))))))) cO)),?_]
 right
 right
 have hf:=z.ff;have gk:=z.get (yu S);have(ka,l,e,C,D):=z.kd.aS;have ek:S.kd=ka:=V.ref.inj e;rw[<-ek]at C;have Z:=D.length;rw[bM]at Z;have l3:=z.kk.l3;have ao:(0:Int)<(l.length:Int):=()
 have an:(l.length:Int)<1073741824:=()
 ext;intro r H1 r0 r1 M;have al:=z.ext M;have k1:=M.kt hf;have ah:=C.kt k1;have(v1,aa,_):=oY (xs:=l) r0 r1;have G:r.toNat<l.length:=()
 have(t,ht,rv):=D.get' (i:=r.toNat) (v:=v1) (by
  have:=aG (xs:=l) (j:=r.toNat) (v:=l[r.toNat]) (my G);rw[show((r.toNat:Nat):Int)=r by omega,aa]at this;rw[my G];exact this.symm)
 rw[EF]at ht;have(kd,ac,rfl):=xn.mp ht;have(qa,w1,w2,rfl,W,q1,q2):=(show Rp K H (.t [.s kd.1,.t (kd.2.map kK)]) v1 from rv).t2;obtain rfl:=q1.aJ;have(ta,ai,rfl,_,_):=q2.aS;have ag:=W.kt k1;have I:=M.1 _ _ u ab;have ak:(0:Int)<=q:=()
 have am:ns.length+2*J.toNat<=80:=()
 ext;intro v2 H2 aj m2 y;ext;have f2:dZ [S.lg] fe H H2:=(Ext.sY hf M).trans y.fr;exact Ga hj TK L p z_range o hr y.sc (M9 ac) (y.fr.jF B u I) u B T R ae dn Y O ((q2.kt k1).kt y.fr.kt) y.r y.g λv' H' tm m' U ad r' g'=>k v' H' tm m' #[U,f2.trans ad,r',g']
structure w9(K:bN) (fe d la:Addr) (S:Sn) (kl:Kl) (nm:List Str) (ds:List (Str×Nat)) (ns:List Str) (room down:Int) (n:Nat) (H:Hp) (m:Nat):Prop where
 sc:fk K H fe d S kl nm ds m
 hla:H la=some (.lst (ns.map V.str))
 nla:la≠fe
 nlg:la≠S.lg
 r5:5<=room
 rh:room<=100
 d1:1<=down
 dn:down<n+1
 ln:ns.length+2*down.toNat<=80
 wn:∀x∈ns,Wo x
def zx(D:L2.Ends)(K:bN)(p d:Addr)(S:Sn)(kl:Kl)(q:List Str)(ds:List (Str×Nat))(ns:List Str)(r:Nat)(e g:Int)(H:Hp):Prop:=∀(v:V) (l:Hp) (m:Tm) (o:Nat),fk K l p d S kl q ds o->dZ [S.lg] p H l->Rp K l (enc m) v->lZ kl ds S.f0 ns r o e.toNat (g.toNat-1+1) m->D.rt v l
theorem w9.step (x:w9 K fe d la S kl nm ds ns room down n H m)(e:fk K H' fe d S kl nm ds m')(fr:dZ [S.lg] fe H H'):w9 K fe d la S kl nm ds ns room down n H' m':=#[e,fr.jF x.nlg x.nla x.hla,x.nla,x.nlg,x.r5,x.rh,x.d1,x.dn,x.ln,x.wn]
theorem w9.ext (x:w9 K fe d la S kl nm ds ns room down n H m)(e:Ext fe H H'):w9 K fe d la S kl nm ds ns room down n H' m:=x.step (x.sc.ext e) (Ext.sY x.sc.ff e)
theorem w9.same (x:w9 K fe d la S kl nm ds ns room down n H m)(e:aT H H'):w9 K fe d la S kl nm ds ns room down n H' m:=x.ext ((Ext.refl x.sc.ff).same e)
theorem zx.step (k:zx D K fe d S kl nm ds ns m0 room down H)(fr:dZ [S.lg] fe H H'):zx D K fe d S kl nm ds ns m0 room down H':=λv l e m' s f r g=>k v l e m' s (fr.trans f) r g
theorem zx.ext (k:zx D K fe d S kl nm ds ns m0 room down H)(g:cP H fe)(e:Ext fe H H'):zx D K fe d S kl nm ds ns m0 room down H':=k.step (Ext.sY g e)
theorem aB :Nm U3 (ak aW):=by decide
theorem iE :Lm U3 (ak aW):=by decide
theorem fX :aZ U3 U5 (ak aW):=#[rfl,rfl,rfl,by decide,rfl,by decide,by decide]
theorem Gb {P:I0}{w:Ni}{K:bN}{mg:Str->Option eF}{base:Heap}{gT:Addr}{tfd:M5}{f:Addr}{cdv:eF}{A:Nq}{s:fy}{H1:Hp}{n j:Nat}{D:L2.Ends}{H:Hp}{fe d la:Addr}{room down form share:Int}{S:Sn}{kl:Kl}{nm:List Str}{ds:List (Str×Nat)}{ns:List Str}{m m0 m1:Nat}{vo vt:V}{one other:Tm}{o7 o8 o12 o13:Option V}(hj:1<=j)(TK:eL P w K mg base "_law_take" 1 U6 cD gT tfd)(l:mg "len"=none)(hr:dj j (A.deeper (Nj "_law_named" (ak aW) s.heap.objs.size f cdv))){ls:Addr}{vs:List V}{ps:List (Str×Nat)}(X:w9 K fe d la S kl nm ds ns room down n H m)(k:zx D K fe d S kl nm ds ns m0 room down H)(hsh:share=(room-1) / 3)(ro:Rp K H (enc one) vo)(go:lZ kl ds S.f0 ns m0 m1 share.toNat (down.toNat-1) one)(rt:Rp K H (enc other) vt)(gt:lZ kl ds S.f0 ns m1 m share.toNat (down.toNat-1) other)(hls:H ls=some (.lst vs))(nls:ls≠fe)(rls:bO K H (ps.map DH) vs)(lps:ps.length<=20)(hps:ps≠[]->(form=6/\ps=wZ kl)\/(form=7/\ps=ds)):
  jb (Zj gy U3 "_law_named" (ak aW) H1).nR ((bg aW).drop 13) D [some (.ref fe),some (.ref d),some (.ref la),some (.int room),some (.int down),some (.int form),some (.int share),o7,o8,some vo,some vt,some (.ref ls),o12,o13] H:=by
 refine d7 ((Z5 (Zb (Zi bV (Z2 aL l Nh (Zd (va aB 11))) aC (bG _)) (Ze (Zv (Zm (Z1 aH (Z1 (@dY _ _ _ _ _ _ _ _ _ _ kB (Zm (Z1 (va aB 9) (Zd (va aB 10)))) eZ (@dm _ _ _ (Z0 TK (dc (va aB 0) (Zd aC))))) aA)))))) (Z5 (Zq (Zl br (va aB 11) (Z0 TK (Z1 (va aB 0) (Z1 (Z2 aL l Nh (Zd (va aB 11))) aA)))) (Z9 (2) (Zf (ga fX.nd iE 12) (Zt (ga fX.nd iE 13))))) (Ze (Zv (Zm (Z1 (Zl br (Zu (dc aH (Zd aH))) (bS kF (va aB 5) aC)) (Z1 (va aB 12) (Z1 (@dY _ _ _ _ _ _ _ _ _ _ kB (Zm (Z1 (va aB 9) (Z1 (va aB 10) (Z1 (Zm (dc aH (Zd aC))) aA)))) eZ (dm (va aB 13))) aA))))))))) ?_
 right
 right
 have J:=X.sc.ff;have G:=rls.length;rw[bM]at G;have r5:=X.r5;have ay:1<=share:=()
 ext;refine cg (λc=>?_) (λc=>?_)
 .ext;intro p2 av;have s2:=ae av (.tup [vo,vt]);have h2:cH K (upd H p2 (.tup [vo,vt])) p2 [vo,vt]:=cH.of af;have ad:=J.same s2;generalize upd H p2 (.tup [vo,vt])=H2 at s2 h2 ad|-;ext;intro r3 H3 ap Z M;have h3:=h2.kt (M.kt ad);have ah:Ext fe H H3:=((Ext.refl J).same s2).trans M;ext;intro p4 H4 s4 h4;have u:=ah.same s4;have U:=ro.kt (u.kt J);have al:=rt.kt (u.kt J);obtain⟨q,rfl⟩:∃q:Nat,r3=q:=#[r3.toNat,()];rw[iL]at h4;ext;intro o r;have s5:=ae r (.tup [.str "row",.ref p4]);have Q:=u.same s5;have aj:=X.sc.ext Q;have f5:dZ [S.lg] fe H _:=Ext.sY J Q
  have fin:∀ks:List Tm,bO K H4 (ks.map enc) ([vo,vt].take q)->jD kl ds S.f0 ns (Nb ks.length []) m0 m (share.toNat+share.toNat) (down.toNat-1) ks->D.rt (.ref o) (upd H4 o (.tup [.str "row",.ref p4])):=λks rk L=>by
   refine k _ _ (.mk .row ks) m aj f5 ?_ (lZ.FT rfl mh (ig λ_ z=>nomatch z) True.intro (λ_=>rfl) L ())
   rw[cZ];exact Rp.new (K:=K) (xs:=[.s "row",.t (ks.map enc)]) r (.cons .s (.one (Rp.t h4 rk)))
  have mm:=go.mm;have C:=gt.mm
  match q,Z with
  |0,_=>exact fin [] .nil (by have:=jD.nil (kl:=kl) (ds:=ds) (f0:=S.f0) (ns:=ns) (d:=down.toNat-1) (bs:=[]) (show m0<=m by omega);exact#[this.wn,this.ta,by have:=this.sz;omega,this.dp,this.gd,this.mm])
  |1,_=>exact fin [one] (.one U) (by have:=jD.ji go (jD.nil (bs:=[]) C);exact#[this.wn,this.ta,by have:=this.sz;omega,this.dp,this.gd,this.mm])
  |2,_=>exact fin [one,other] (.cons U (.one al)) (jD.ji go (jD.ji gt (jD.nil (bs:=[]) (i5 _))))
 .have ac:ps≠[]:=λz=>c (by rw[z]at G;rw[G];rfl)
  have l0:(0:Int)<(vs.length:Int):=by
   have:=List.length_pos_iff.mpr ac;omega
  have l1:(vs.length:Int)<1073741824:=()
  ext;intro r3 H3 ap Z M;have h3:=M.1 _ _ nls hls;have hq:r3.toNat<vs.length:=()
  have aa:r3.toNat<ps.length:=()
  have(v3,ar,R):=rls.get (i:=r3.toNat) (x:=DH ps[r3.toNat]) (by rw[EF,my aa];rfl)
  have a3:eK vs r3=some v3:=by
   have:=aG (xs:=vs) (j:=r3.toNat) ar
   rwa [show((r3.toNat:Nat):Int)=r3 by omega]at this
  have g:ps[r3.toNat]∈ps:=NP aa;generalize ps[r3.toNat]=pp at R g;have(qa,w1,w2,rfl,aq,q1,q2):=(show Rp K H (.t [.s pp.1,.i pp.2]) v3 from R).t2;obtain rfl:=q1.aJ;obtain rfl:=q2.jI;have k3:=M.kt J;have ax:=aq.kt k3;have an:=ro.kt k3;have am:=rt.kt k3
  have wd:∃z:Str,∃h:List Tm->Tm,eK [V.str "tag",V.str "call"] (form-6)=some (.str z)/\(∀ks,enc (h ks)=.t [.s z,.s pp.1,.t (ks.map enc)])/\pp.2<=3/\∀ks zz,ks.length=pp.2->jD kl ds S.f0 ns (Nb ks.length []) m0 m zz (down.toNat-1) ks->zz+1<=room.toNat->lZ kl ds S.f0 ns m0 m room.toNat (down.toNat-1+1) (h ks):=by
   rcases hps ac with⟨rfl,e⟩|⟨rfl,e⟩<;>rw[e]at g
   .have(yt,e1,e2):=IS X.sc.kk g;refine#["tag",λks=>.mk (.tag pp.1) ks,aG (j:=0) rfl,λks=>by rw[cZ];rfl,?_,λks zz lk L hz=>lZ.FT rfl mh (ig λ_ z=>nomatch z) (by have(kk,I,hp):=Pr.mp g;have(t,ht,e):=ND.mp hp;rw[<-e];exact(X.sc.kk.nw kk I).2 t ht) (λg0=>?_) L hz]
    .have(kk,I,hp):=Pr.mp g;have(t,ht,rfl):=ND.mp hp;have:=(X.sc.kk.pt kk I).2.2 t ht;show t.2.length<=3;omega
    .show(match jK kl pp.1 with
      |none=>Except.error (Er.nn,pp.1)
      |some y=>if ks.length=y.2.2.length then Except.ok g0 else .error (.wr,pp.1))=_
     rw[e1];dsimp only;rw[if_pos (by rw[lk,e2])]
   .refine#["call",λks=>.mk (.call pp.1) ks,aG (j:=1) rfl,λks=>by rw[cZ];rfl,X.sc.d3 pp g,λks zz lk L hz=>lZ.FT rfl mh (ig λ_ z=>nomatch z) (X.sc.dw pp g) (λg0=>?_) L hz]
    show(match ds.find? (λd=>decide (d.1=pp.1))with
      |none=>Except.error (Er.nn,pp.1)
      |some y=>if ks.length=y.2 then Except.ok g0 else .error (.wr,pp.1))=_
    rw[mj (λp:Str×Nat=>p.1) X.sc.dn g];dsimp only;rw[if_pos lk]
  have(z,hh,az,eh,p3,gh):=wd;ext;intro l4 aw;have s4:=ae aw (.lst [.str "tag",.str "call"]);have h4:bQ K (upd H3 l4 (.lst [.str "tag",.str "call"])) l4 [.str "tag",.str "call"]:=bQ.of af;generalize upd H3 l4 (.lst [.str "tag",.str "call"])=H4 at s4 h4|-;ext;intro o r;have s5:=ae r (.tup [.str "num",.int 3]);have Y:Rp K (upd H4 o (.tup [.str "num",.int 3])) (enc (.mk (.num 3) [])) (.ref o):=by rw[cZ];exact Rp.new (K:=K) r (.cons .s (.one .i))
  generalize upd H4 o (.tup [.str "num",.int 3])=H5 at s5 Y |-;ext;intro p6 as;have s6:=ae as (.tup [vo,vt,.ref o]);have h6:cH K (upd H5 p6 (.tup [vo,vt,.ref o])) p6 [vo,vt,.ref o]:=cH.of af;have W:=Y.same s6;generalize upd H5 p6 (.tup [vo,vt,.ref o])=H6 at s6 h6 W|-;ext;intro p7 H7 s7 h7;rw[iL]at h7;have v:=((s4.trans s5).trans s6).trans s7;have ag:Ext fe H H7:=M.same v;have B:=an.same v;have T:=am.same v;have ao:=W.same s7;ext;intro p8 ab;have s8:=ae ab (.tup [.str z,.str pp.1,.ref p7]);have O:=ag.same s8;have ai:=X.sc.ext O;have f8:dZ [S.lg] fe H _:=Ext.sY J O
  have fin:∀ks:List Tm,ks.length=pp.2->bO K H7 (ks.map enc) ([vo,vt,.ref o].take pp.2)->jD kl ds S.f0 ns (Nb ks.length []) m0 m (share.toNat+(share.toNat+1)) (down.toNat-1) ks->D.rt (.ref p8) (upd H7 p8 (.tup [.str z,.str pp.1,.ref p7])):=λks lk rk L=>by
   refine k _ _ (hh ks) m ai f8 ?_ (gh ks _ lk L ());rw[eh];exact Rp.new (K:=K) (xs:=[.s z,.s pp.1,.t (ks.map enc)]) ab (.cons .s (.cons .s (.one (Rp.t h7 rk))))
  have mm:=go.mm;have C:=gt.mm;have g3:lZ kl ds S.f0 ns m m 1 (down.toNat-1) (.mk (.num 3) []):=.leaf rfl (λb hb=>by cases hb) (ig λ_ z=>nomatch z) True.intro (λ_=>rfl) (i5 _)
  generalize pp.2=q at p3 fin
  match q,p3 with
  |0,_=>exact fin [] rfl .nil (by have:=jD.nil (kl:=kl) (ds:=ds) (f0:=S.f0) (ns:=ns) (d:=down.toNat-1) (bs:=[]) (show m0<=m by omega);exact#[this.wn,this.ta,by have:=this.sz;omega,this.dp,this.gd,this.mm])
  |1,_=>exact fin [one] rfl (.one B) (by have:=jD.ji go (jD.nil (bs:=[]) C);exact#[this.wn,this.ta,by have:=this.sz;omega,this.dp,this.gd,this.mm])
  |2,_=>exact fin [one,other] rfl (.cons B (.one T)) (by have:=(jD.ji go (jD.ji gt (jD.nil (bs:=[]) (i5 _))));exact#[this.wn,this.ta,by have:=this.sz;omega,this.dp,this.gd,this.mm])
  |3,_=>exact fin [one,other,.mk (.num 3) []] rfl (.cons B (.cons T (.one ao))) (by have:=(jD.ji go (jD.ji gt (jD.ji g3 (jD.nil (bs:=[]) (i5 _)))));exact#[this.wn,this.ta,by have:=this.sz;omega,this.dp,this.gd,this.mm])
theorem Ge {P:I0}{w:Ni}{K:bN}{mg:Str->Option eF}{base:Heap}{gT:Addr}{tfd:M5}{f:Addr}{cdv:eF}{A:Nq}{s:fy}{H1:Hp}{n j:Nat}{D:L2.Ends}{H:Hp}{fe d la:Addr}{room down form share:Int}{S:Sn}{kl:Kl}{nm:List Str}{ds:List (Str×Nat)}{ns:List Str}{m m0 m1:Nat}{vo vt:V}{one other:Tm}{o7 o8 o11 o12 o13:Option V}(hj:1<=j)(TK:eL P w K mg base "_law_take" 1 U6 cD gT tfd)(p:mg "len"=none)(l:mg "int"=none)(hr:dj j (A.deeper (Nj "_law_named" (ak aW) s.heap.objs.size f cdv)))(X:w9 K fe d la S kl nm ds ns room down n H m)(k:zx D K fe d S kl nm ds ns m0 room down H)(hsh:share=(room-1) / 3)(ro:Rp K H (enc one) vo)(go:lZ kl ds S.f0 ns m0 m1 share.toNat (down.toNat-1) one)(rt:Rp K H (enc other) vt)(gt:lZ kl ds S.f0 ns m1 m share.toNat (down.toNat-1) other):
  jb (Zj gy U3 "_law_named" (ak aW) H1).nR ((bg aW).drop 12) D [some (.ref fe),some (.ref d),some (.ref la),some (.int room),some (.int down),some (.int form),some (.int share),o7,o8,some vo,some vt,o11,o12,o13] H:=by
 have hf:=X.sc.ff;have ah:=X.sc.get (AD S);have ai:=X.sc.get (wO S);have(e,t1,t2):=X.sc.lt;have(g,d1,d2):=X.sc.ld;have L:=t2.length;rw[bM]at L;have M:=d2.length;rw[bM]at M;have l9:=DG X.sc.kk;have l8:=X.sc.dl
 have q:∀(u:List (Str×Nat)) (a b:Nat) (r:List V),a<=1->b<=1->r=(Nb a e).flatten++(Nb b g).flatten->bO K H (u.map DH) r->(u≠[]->(form=6/\u=wZ kl)\/(form=7/\u=ds))->(if decide (V.int form=V.int 6)=true then(1:Int)else 0)=(a:Int)->(if decide (V.int form=V.int 7)=true then(1:Int)else 0)=(b:Int)->jb (Zj gy U3 "_law_named" (ak aW) H1).nR ((bg aW).drop 12) D [some (.ref fe),some (.ref d),some (.ref la),some (.int room),some (.int down),some (.int form),some (.int share),o7,o8,some vo,some vt,o11,o12,o13] H:=λu a b r Z Y ev rs hp ea eb=>by
  refine d7 ((Z5 (Z4 fX.nd iE 11 (Zn iT (Zn Ci (Zk (va aB 1)) (Z7 iH l OB (Z1 (jq bV (va aB 5) aC (bG _)) aA))) (Zn Ci (Zk (va aB 1)) (Z7 iH l OB (Z1 (jq bV (va aB 5) aC (bG _)) aA))))) cO)) ?_
  right
  right
  have ag:e.length*((a:Nat):Int).toNat<=mH:=small (by rw[OL];have:=T4 e.length Z;omega);have ad:g.length*((b:Nat):Int).toNat<=mH:=small (by rw[OL];have:=T4 g.length Y;omega);have ac:(Nb a e).flatten.length<=20:=by rw[len_rep];have:=PU e.length Z;omega
  have ab:(Nb b g).flatten.length<=20:=by rw[len_rep];have:=PU g.length Y;omega
  ext;refine .inr #[_,rfl,?_];rw[ea];ext;intro J Q;rw[OL];have t:=ae Q (.lst (Nb a e).flatten);have T:upd H J (.lst (Nb a e).flatten) J=some (.lst (Nb a e).flatten):=af;have U:=(X.sc.same t).get (wO S);have W:=t _ _ d1;generalize upd H J (.lst (Nb a e).flatten)=H2 at t T U W|-;ext;refine .inr #[_,rfl,?_];rw[eb];ext;intro I O;rw[OL];have B:=ae O (.lst (Nb b g).flatten);have h3:upd H2 I (.lst (Nb b g).flatten) I=some (.lst (Nb b g).flatten):=af;have R:=B _ _ T;have lc:(Nb a e).flatten.length+(Nb b g).flatten.length<=mH:=small ();generalize upd H2 I (.lst (Nb b g).flatten)=H3 at B h3 R|-;ext;intro p4 v;rw[<-ev];have s4:=ae v (.lst r);have o:=(t.trans B).trans s4;have n4:p4≠fe:=bA (X.sc.same (t.trans B)).ff v;have lv:=rs.length;rw[bM]at lv
  have aa:r.length<=20:=by
   have:=congrArg QL ev;rw[i4,len_rep,len_rep]at this;have h1:=PU e.length Z;have T:=PU g.length Y;omega
  ext;exact Gb hj TK p hr (X.same o) (k.ext hf ((Ext.refl hf).same o)) hsh (ro.same o) go (rt.same o) gt af n4 (rs.same o) () hp
 by_cases G:form=6
 .exact q (wZ kl) 1 0 e (i5 _) (Nn _) (by simp) t2 (λ_=>.inl #[G,rfl]) (by rw[G];rfl) (by rw[G];rfl)
 .by_cases C:form=7
  .exact q ds 0 1 g (Nn _) (i5 _) (by simp) d2 (λ_=>.inr #[C,rfl]) (by rw[C];rfl) (by rw[C];rfl)
  .exact q [] 0 0 [] (Nn _) (Nn _) (by simp) .nil (λz=>absurd rfl z) (if_neg (λz=>G (V.int.inj (of_decide_eq_true z)))) (if_neg (λz=>C (V.int.inj (of_decide_eq_true z))))
theorem Kv {P:I0}{w:Ni}{K:bN}{mg:Str->Option eF}{base:Heap}{gT:Addr}{tfd:M5}{f:Addr}{cdv:eF}{A:Nq}{s:fy}{H1:Hp}{n j:Nat}{D:L2.Ends}{H:Hp}{fe d la:Addr}{room down form share:Int}{S:Sn}{kl:Kl}{nm:List Str}{ds:List (Str×Nat)}{ns:List Str}{m m0 m1:Nat}{vo vt:V}{one other:Tm}{o7 o8 o11 o12 o13:Option V}(hj:1<=j)(TK:eL P w K mg base "_law_take" 1 U6 cD gT tfd)(l:mg "len"=none)(o:mg "int"=none)(hr:dj j (A.deeper (Nj "_law_named" (ak aW) s.heap.objs.size f cdv)))(X:w9 K fe d la S kl nm ds ns room down n H m)(k:zx D K fe d S kl nm ds ns m0 room down H)(hsh:share=(room-1) / 3)(ro:Rp K H (enc one) vo)(go:lZ kl ds S.f0 ns m0 m1 share.toNat (down.toNat-1) one)(rt:Rp K H (enc other) vt)(gt:lZ kl ds S.f0 ns m1 m share.toNat (down.toNat-1) other):
  jb (Zj gy U3 "_law_named" (ak aW) H1).nR ((bg aW).drop 11) D [some (.ref fe),some (.ref d),some (.ref la),some (.int room),some (.int down),some (.int form),some (.int share),o7,o8,some vo,some vt,o11,o12,o13] H:=by
 refine d7 ((Z5 (Zb (Zp bV (va aB 5) aC) (Ze (Zv (Zl br (Zu (Z1 (Zm (Z1 aH (Z1 (Zl vO aH (Z0 TK (dc (va aB 0) (Zd aC)))) (Z1 (va aB 9) (Zd (va aB 10)))))) (Z1 (Zm (Z1 aH (Z1 (va aB 9) (Zd (va aB 10))))) aA))) (Z0 TK (dc (va aB 0) (Zd aC))))))) cO)) ?_
 right
 right
 have hf:=X.sc.ff;have r5:=X.r5;refine lS ?_;intro N1 c1;have last:N1 [some (.ref fe),some (.ref d),some (.ref la),some (.int room),some (.int down),some (.int form),some (.int share),o7,o8,some vo,some vt,o11,o12,o13] H:=Cut.go c1 (Ge hj TK l o hr X k hsh ro go rt gt);clear c1;ext;refine cg (λc=>?_) (λc=>?_)
 .clear last
  have fin:∀(p:Addr) (T:Hp) (h:Hd),Ext fe H T->Rp K T (enc (.mk h [one,other])) (.ref p)->eR h 2=true->(∀b∈bnd h 2,b.length<=5)->tW h->HW h->(∀g0,eO kl ds g0 ns h 2=.ok g0)->bnd h 2=[[],[]]->D.rt (.ref p) T:=λp T h x' r' a1 a2 a3 ah a4 a5=>by
   refine k _ _ (.mk h [one,other]) m (X.sc.ext x') (Ext.sY hf x') r' (lZ.FT (z:=share.toNat+(share.toNat+0)) a1 a2 a3 ah a4 ?_ ?_)
   .show jD kl ds S.f0 ns (bnd h 2) m0 m _ _ _;rw[a5];exact jD.ji go (jD.ji gt (jD.nil (i5 _)))
   .omega
  have z6:(("+-*:<=":Str)).length<=mH:=by decide
  ext;intro r2 H2 Z Y r;have(R,ag,_):=oY (xs:=(("+-*:<=":Str)).cps.toList) (k:=r2) Z (by rw[show((("+-*:<=":Str)).cps.toList.length:Int)=6 by decide];exact Y);have B:=ro.kt (r.kt hf);have v:=rt.kt (r.kt hf);have ad:=r.2;ext;intro g M;have u:=ae M (.tup [.str "op",.str ⟨#[R]⟩,vo,vt])
  have r3:Rp K (upd H2 g (.tup [.str "op",.str ⟨#[R]⟩,vo,vt])) (enc (.mk (.op ⟨#[R]⟩) [one,other])) (.ref g):=by
   rw[cZ];exact Rp.new (K:=K) M (.cons .s (.cons .s (.cons B (.one v))))
  generalize upd H2 g (.tup [.str "op",.str ⟨#[R]⟩,vo,vt])=H3 at u r3|-;ext;intro e L;have Q:=ae L (.tup [.str "more",vo,vt])
  have r4:Rp K (upd H3 e (.tup [.str "more",vo,vt])) (enc (.mk .more [one,other])) (.ref e):=by
   rw[cZ];exact Rp.new (K:=K) L (.cons .s (.cons (B.same u) (.one (v.same u))))
  have I:=r3.same Q;generalize upd H3 e (.tup [.str "more",vo,vt])=H4 at Q r4 I|-;ext;intro q J;have O:=ae J (.lst [.ref g,.ref e]);have h5:upd H4 q (.lst [.ref g,.ref e]) q=some (.lst [.ref g,.ref e]):=af;have W:Ext fe H (upd H4 q (.lst [.ref g,.ref e])):=((r.same u).same Q).same O;have n5:q≠fe:=bA ((r.same u).same Q).2 J;have C:=r4.same O;have G:=I.same O;generalize upd H4 q (.lst [.ref g,.ref e])=H5 at O h5 W C G|-;have aa:=W.2;ext;intro r6 H6 ac ab U;have h6:bQ K H6 q [.ref g,.ref e]:=bQ.of (U.1 _ _ n5 h5);have t:=W.trans U;have k6:=U.kt aa;rcases(show r6=0\/r6=1 by omega)with rfl|rfl
  .have a0:eK [V.ref g,V.ref e] 0=some (.ref g):=aG (j:=0) rfl;ext;exact fin _ _ _ t (G.kt k6) rfl mh (ig λ_ z=>nomatch z) True.intro (λ_=>rfl) rfl
  .have a0:eK [V.ref g,V.ref e] 1=some (.ref e):=aG (j:=1) rfl;ext;exact fin _ _ _ t (C.kt k6) rfl mh (ig λ_ z=>nomatch z) True.intro (λ_=>rfl) rfl
 .ext;exact last
theorem Kw {P:I0}{w:Ni}{K:bN}{mg:Str->Option eF}{base:Heap}{gT gN:Addr}{tfd nfd:M5}{f:Addr}{cdv:eF}{A:Nq}{s:fy}{H1:Hp}{n j:Nat}{D:L2.Ends}{H:Hp}{fe d la:Addr}{room down form share:Int}{S:Sn}{kl:Kl}{nm:List Str}{ds:List (Str×Nat)}{ns:List Str}{m m0 m1:Nat}{vo vt:V}{one other:Tm}{o7 o8 o11 o12 o13:Option V}(U:1<=j)(V:eL P w K mg base "_law_take" 1 U6 cD gT tfd)(v:eL P w K mg base "_law_named" j U5 (fB K n) gN nfd)(e:mg "len"=none)(l:mg "int"=none)(hr:dj j (A.deeper (Nj "_law_named" (ak aW) s.heap.objs.size f cdv)))(X:w9 K fe d la S kl nm ds ns room down n H m)(k:zx D K fe d S kl nm ds ns m0 room down H)(hsh:share=(room-1) / 3)(ro:Rp K H (enc one) vo)(go:lZ kl ds S.f0 ns m0 m1 share.toNat (down.toNat-1) one)(rt:Rp K H (enc other) vt)(gt:lZ kl ds S.f0 ns m1 m share.toNat (down.toNat-1) other):
  jb (Zj gy U3 "_law_named" (ak aW) H1).nR ((bg aW).drop 10) D [some (.ref fe),some (.ref d),some (.ref la),some (.int room),some (.int down),some (.int form),some (.int share),o7,o8,some vo,some vt,o11,o12,o13] H:=by
 refine d7 ((Z5 (Zb (Zp bV (va aB 5) aC) (Ze (Zv (Zm (Z1 aH (Z1 (va aB 9) (Z1 (va aB 10) (Z1 (Z0 v (Z1 (va aB 0) (Z1 (va aB 1) (Z1 (va aB 2) (Z1 (va aB 6) (Z1 (bS kF (va aB 4) aC) aA)))))) aA)))))))) cO)) ?_
 right
 right
 have hf:=X.sc.ff;have r5:=X.r5;refine lS ?_;intro W G;have last:W [some (.ref fe),some (.ref d),some (.ref la),some (.int room),some (.int down),some (.int form),some (.int share),o7,o8,some vo,some vt,o11,o12,o13] H:=Cut.go G (Kv U V e l hr X k hsh ro go rt gt);clear G;have Y:=X.sc;have T:=X.hla;have O:=X.nla;have M:=X.nlg;have Z:=X.rh;have d1:=X.d1;have dn:=X.dn;have ln:=X.ln;have I:=X.wn;have L:0<=share:=()
 have R:ns.length+2*(down-1).toNat<=80:=()
 ext;refine cg (λc=>?_) (λc=>?_)
 .clear last;ext;intro J H2 q Q o;have u:=ro.kt o.fr.kt;have t:=rt.kt o.fr.kt;ext;intro p3 p;have B:=ae p (.tup [.str "if",vo,vt,J]);have C:=o.g;rw[Pd (),show(down-1).toNat=down.toNat-1 by omega]at C;refine k _ _ (.mk .ife [one,other,q]) Q (o.sc.same B) (o.fr.same B) ?_ (lZ.FT (z:=share.toNat+(share.toNat+(share.toNat+0))) rfl mh (ig λ_ z=>nomatch z) True.intro (λ_=>rfl) (jD.ji go (jD.ji gt (jD.ji C (jD.nil (bs:=[]) (i5 _))))) ())
  rw[cZ];exact Rp.new (K:=K) p (.cons .s (.cons u (.cons t (.one o.r))))
 .ext;exact last
theorem Kx {P:I0}{w:Ni}{K:bN}{mg:Str->Option eF}{base:Heap}{gT gN:Addr}{tfd nfd:M5}{f:Addr}{cdv:eF}{A:Nq}{s:fy}{H1:Hp}{n j:Nat}{D:L2.Ends}{H:Hp}{fe d la:Addr}{room down form share:Int}{S:Sn}{kl:Kl}{nm:List Str}{ds:List (Str×Nat)}{ns:List Str}{m m0 m1:Nat}{x y:Str}{vo vt:V}{one other:Tm}{o11 o12 o13:Option V}(hj:1<=j)(TK:eL P w K mg base "_law_take" 1 U6 cD gT tfd)(C:eL P w K mg base "_law_named" j U5 (fB K n) gN nfd)(e:mg "len"=none)(l:mg "int"=none)(hr:dj j (A.deeper (Nj "_law_named" (ak aW) s.heap.objs.size f cdv)))(X:w9 K fe d la S kl nm ds ns room down n H m)(k:zx D K fe d S kl nm ds ns m0 room down H)(hsh:share=(room-1) / 3)(ro:Rp K H (enc one) vo)(go:lZ kl ds S.f0 ns m0 m1 share.toNat (down.toNat-1) one)(rt:Rp K H (enc other) vt)(gt:lZ kl ds S.f0 ns m1 m share.toNat (down.toNat-1) other)(hxy:x≠y)(hwx:Wo x)(hwy:Wo y):
  jb (Zj gy U3 "_law_named" (ak aW) H1).nR ((bg aW).drop 9) D [some (.ref fe),some (.ref d),some (.ref la),some (.int room),some (.int down),some (.int form),some (.int share),some (.str x),some (.str y),some vo,some vt,o11,o12,o13] H:=by
 refine d7 ((Z5 (Zb (Zp bV (va aB 5) aC) (Ze (Zv (Zm (Z1 aH (Z1 (va aB 9) (Z1 (va aB 7) (Z1 (va aB 8) (Z1 (va aB 10) (Z1 (Z0 C (Z1 (va aB 0) (Z1 (va aB 1) (Z1 (Zn iT (va aB 2) (Zu (Z1 (va aB 7) (Zd (va aB 8))))) (Z1 (va aB 6) (Z1 (bS kF (va aB 4) aC) aA)))))) aA)))))))))) cO)) ?_
 right
 right
 have hf:=X.sc.ff;have r5:=X.r5;refine lS ?_;intro N1 Z;have last:N1 [some (.ref fe),some (.ref d),some (.ref la),some (.int room),some (.int down),some (.int form),some (.int share),some (.str x),some (.str y),some vo,some vt,o11,o12,o13] H:=Cut.go Z (Kw hj TK C e l hr X k hsh ro go rt gt);clear Z;have R:=X.hla;have ag:=X.nla;have ad:=X.nlg;have rh:=X.rh;have d1:=X.d1;have dn:=X.dn;have ln:=X.ln;have J:=X.wn;have ab:0<=share:=()
 ext;refine cg (λc=>?_) (λc=>?_)
 .clear last;ext;intro l2 T;have G:=ae T (.lst [.str x,.str y]);have h2:upd H l2 (.lst [.str x,.str y]) l2=some (.lst [.str x,.str y]):=af;have v:=G _ _ R;generalize upd H l2 (.lst [.str x,.str y])=H2 at G h2 v|-;have lc:(ns.map V.str).length+([.str x,.str y]:List V).length<=mH:=small (by rw[bM];show ns.length+2<=_;omega);ext;intro l3 p;have ea:ns.map V.str++[.str x,.str y]=(ns++[x,y]).map V.str:=by simp
  rw[ea];have M:=ae p (.lst ((ns++[x,y]).map V.str));have h3:upd H2 l3 (.lst ((ns++[x,y]).map V.str)) l3=some (.lst ((ns++[x,y]).map V.str)):=af;have o:=X.sc.same G;have n3:l3≠fe:=bA o.ff p;have ah:l3≠S.lg:=(ay o.lg p).symm;generalize upd H2 l3 (.lst ((ns++[x,y]).map V.str))=H3 at M h3|-;have ac:=o.same M;have t:=G.trans M
  have aa:∀q∈ns++[x,y],Wo q:=λq hq=>(M7.mp hq).elim (J q) (λz=>by
   simp only[M8,Nv,or_false]at z;rcases z with rfl|rfl
   .exact hwx
   .exact hwy)
  have ai:(ns++[x,y]).length+2*(down-1).toNat<=80:=by rw[i4];show ns.length+2+_<=_;omega
  ext;intro v4 H4 L m4 B;have W:=(Kt.same t).trans B.fr.kt;have Q:=ro.kt W;have O:=rt.kt W;have f4:dZ [S.lg] fe H H4:=((dZ.refl hf).same t).trans B.fr;ext;intro p5 u;have U:=ae u (.tup [.str "fold",vo,.str x,.str y,vt,v4]);have Y:=B.g;rw[Pd (),show(down-1).toNat=down.toNat-1 by omega]at Y;refine k _ _ (.mk (.fold x y) [one,other,L]) m4 (B.sc.same U) (f4.same U) ?_ (lZ.FT (z:=share.toNat+(share.toNat+(share.toNat+0))) rfl ?_ (ig λ_ z=>nomatch z) hwx (λg0=>by show(if x=y then Except.error (Er.tw,x)else Except.ok g0)=_;rw[if_neg hxy]) (jD.ji go (jD.ji gt (jD.cons (b:=[x,y]) Y (jD.nil (bs:=[]) (i5 _))))) ())
  .rw[cZ];exact Rp.new (K:=K) u (.cons .s (.cons Q (.cons .s (.cons .s (.cons O (.one B.r))))))
  .intro b I;have I:b∈[[],[],[x,y]]:=I;simp only[M8,Nv,or_false]at I;rcases I with rfl|rfl|rfl
   .exact Nn _
   .exact Nn _
   .show 2<=5;decide
 .ext;exact last
theorem DN {P:I0}{w:Ni}{K:bN}{mg:Str->Option eF}{base:Heap}{gT gN:Addr}{tfd nfd:M5}{f:Addr}{cdv:eF}{A:Nq}{s:fy}{H1:Hp}{n j:Nat}{D:L2.Ends}{H:Hp}{fe d la:Addr}{room down form share:Int}{S:Sn}{kl:Kl}{nm:List Str}{ds:List (Str×Nat)}{ns:List Str}{m m0:Nat}{x y:Str}{vo:V}{one:Tm}{o10 o11 o12 o13:Option V}(J:1<=j)(L:eL P w K mg base "_law_take" 1 U6 cD gT tfd)(p:eL P w K mg base "_law_named" j U5 (fB K n) gN nfd)(e:mg "len"=none)(l:mg "int"=none)(hr:dj j (A.deeper (Nj "_law_named" (ak aW) s.heap.objs.size f cdv)))(X:w9 K fe d la S kl nm ds ns room down n H m)(k:zx D K fe d S kl nm ds ns m0 room down H)(hsh:share=(room-1) / 3)(ro:Rp K H (enc one) vo)(go:lZ kl ds S.f0 ns m0 m share.toNat (down.toNat-1) one)(hxy:x≠y)(hwx:Wo x)(hwy:Wo y):
  jb (Zj gy U3 "_law_named" (ak aW) H1).nR ((bg aW).drop 8) D [some (.ref fe),some (.ref d),some (.ref la),some (.int room),some (.int down),some (.int form),some (.int share),some (.str x),some (.str y),some vo,o10,o11,o12,o13] H:=by
 refine d7 ((Z5 (Z4 fX.nd iE 10 (Z0 p (Z1 (va aB 0) (Z1 (va aB 1) (Z1 (va aB 2) (Z1 (va aB 6) (Z1 (bS kF (va aB 4) aC) aA))))))) cO)) ?_
 right
 right
 have V:=X.sc.ff;have R:=X.r5;have O:=X.sc;have I:=X.hla;have C:=X.nla;have B:=X.nlg;have Q:=X.rh;have Y:=X.d1;have W:=X.dn;have U:=X.ln;have u:=X.wn;have z:0<=share:=()
 have G:ns.length+2*(down-1).toNat<=80:=()
 ext;intro M Z v T o;have q:=ro.kt o.fr.kt;have t:=o.g;rw[Pd (),show(down-1).toNat=down.toNat-1 by omega]at t;ext;exact Kx J L p e l hr (X.step o.sc o.fr) (k.step o.fr) hsh q go o.r t hxy hwx hwy
theorem Ky {P:I0}{w:Ni}{K:bN}{mg:Str->Option eF}{base:Heap}{gT gN:Addr}{tfd nfd:M5}{f:Addr}{cdv:eF}{A:Nq}{s:fy}{H1:Hp}{n j:Nat}{D:L2.Ends}{H:Hp}{fe d la:Addr}{room down form share:Int}{S:Sn}{kl:Kl}{nm:List Str}{ds:List (Str×Nat)}{ns:List Str}{m m0:Nat}{x y:Str}{vo:V}{one:Tm}{o10 o11 o12 o13:Option V}(hj:1<=j)(TK:eL P w K mg base "_law_take" 1 U6 cD gT tfd)(T:eL P w K mg base "_law_named" j U5 (fB K n) gN nfd)(p:mg "len"=none)(u:mg "int"=none)(hr:dj j (A.deeper (Nj "_law_named" (ak aW) s.heap.objs.size f cdv)))(X:w9 K fe d la S kl nm ds ns room down n H m)(k:zx D K fe d S kl nm ds ns m0 room down H)(hsh:share=(room-1) / 3)(ro:Rp K H (enc one) vo)(go:lZ kl ds S.f0 ns m0 m (if form=1 then(room-1).toNat else share.toNat) (down.toNat-1) one)(hxy:x≠y)(hwx:Wo x)(hwy:Wo y):
  jb (Zj gy U3 "_law_named" (ak aW) H1).nR ((bg aW).drop 6) D [some (.ref fe),some (.ref d),some (.ref la),some (.int room),some (.int down),some (.int form),some (.int share),some (.str x),some (.str y),some vo,o10,o11,o12,o13] H:=by
 refine d7 ((Z5 (Zb (Zp bV (va aB 5) aC) (Ze (Zv (Zm (Z1 (Zl br (Zu (Z1 aH (dc aH (Zd aH)))) (Z0 TK (dc (va aB 0) (Zd aC)))) (Zd (va aB 9))))))) (Z5 (Zb (Zp bV (va aB 5) aC) (Ze (Zv (Zm (Z1 aH (Z1 (va aB 7) (Z1 (va aB 9) (Z1 (Z0 T (Z1 (va aB 0) (Z1 (va aB 1) (Z1 (Zn iT (va aB 2) (Zu (Zd (va aB 7)))) (Z1 (va aB 6) (Z1 (bS kF (va aB 4) aC) aA)))))) aA)))))))) cO))) ?_
 right
 right
 have C:=X.sc.ff;have r5:=X.r5;have sc:=X.sc;have ac:=X.hla;have an:=X.nla;have am:=X.nlg;have rh:=X.rh;have d1:=X.d1;have dn:=X.dn;have ln:=X.ln;have Y:=X.wn;have ah:0<=share:=()
 refine j4 ?_;intro N1 N2 c1 c2;have last:form≠1->N2 [some (.ref fe),some (.ref d),some (.ref la),some (.int room),some (.int down),some (.int form),some (.int share),some (.str x),some (.str y),some vo,o10,o11,o12,o13] H:=λc=>Cut.go c2 (DN hj TK T p u hr X k hsh ro (by rw[if_neg c]at go;exact go) hxy hwx hwy);clear c2;ext;refine cg (λc=>?_) (λc=>?_)
 .have c':form=1:=V.int.inj (of_decide_eq_true c);rw[if_pos c']at go;clear last c1;ext;intro l2 l;have o:=ae l (.lst [.str "first",.str "others",.str "long"]);have W:upd H l2 (.lst [.str "first",.str "others",.str "long"]) l2=some (.lst [.str "first",.str "others",.str "long"]):=af;have ad:=C.same o;have n2:=bA C l;generalize upd H l2 (.lst [.str "first",.str "others",.str "long"])=H2 at o W ad|-;ext;intro r3 H3 al aj x3;have h3:bQ K H3 l2 [.str "first",.str "others",.str "long"]:=bQ.of (x3.1 _ _ n2 W);have I:Ext fe H H3:=((Ext.refl C).same o).trans x3;have ab:=ro.kt (I.kt C)
  obtain⟨z,hh,az,e1,e2,e3,e4,eh,e5,e6⟩:∃(z:Str) (h:Hd),eK [V.str "first",V.str "others",V.str "long"] r3=some (.str z)/\enc (.mk h [one])=.t [.s z,enc one]/\eR h 1=true/\(∀b∈bnd h 1,b.length<=5)/\tW h/\HW h/\(∀g0,eO kl ds g0 ns h 1=.ok g0)/\bnd h 1=[[]]:=by
   rcases(show r3=0\/r3=1\/r3=2 by omega)with rfl|rfl|rfl
   .exact#["first",.first,aG (j:=0) rfl,by rw[cZ];rfl,rfl,mh,ig (λ_ z=>nomatch z),True.intro,λ_=>rfl,rfl]
   .exact⟨"others",.others,aG (j:=1) rfl,by rw[cZ];rfl,rfl,mh,ig (λ_ z=>nomatch z),True.intro,λ_=>rfl,rfl⟩
   .exact⟨"long",.long,aG (j:=2) rfl,by rw[cZ];rfl,rfl,mh,ig (λ_ z=>nomatch z),True.intro,λ_=>rfl,rfl⟩
  ext;intro p4 M;have s4:=ae M (.tup [.str z,vo]);have G:=I.same s4;refine k _ _ (.mk hh [one]) m (sc.ext G) (Ext.sY C G) ?_ (lZ.FT (z:=(room-1).toNat+0) e2 e3 e4 eh e5 ?_ ())
  .rw[e1];exact Rp.new (K:=K) M (.cons .s (.one ab))
  .show jD kl ds S.f0 ns (bnd hh 1) m0 m _ _ _;rw[e6];exact jD.ji go (jD.nil (i5 _))
 have R:form≠1:=λz=>c (by rw[z];rfl);have e:=last R;rw[if_neg R]at go;clear last;ext;refine cg (λc=>?_) (λc=>?_)
 .clear e;ext;intro l2 l;have o:=ae l (.lst [.str x]);have W:upd H l2 (.lst [.str x]) l2=some (.lst [.str x]):=af;have O:=o _ _ ac;generalize upd H l2 (.lst [.str x])=H2 at o W O|-;have lc:(ns.map V.str).length+([.str x]:List V).length<=mH:=small (by rw[bM];show ns.length+1<=_;omega);ext;intro l3 B;have ea:ns.map V.str++[.str x]=(ns++[x]).map V.str:=by simp
  rw[ea];have s3:=ae B (.lst ((ns++[x]).map V.str));have h3:upd H2 l3 (.lst ((ns++[x]).map V.str)) l3=some (.lst ((ns++[x]).map V.str)):=af;have v:=X.sc.same o;have n3:l3≠fe:=bA v.ff B;have ao:l3≠S.lg:=(ay v.lg B).symm;generalize upd H2 l3 (.lst ((ns++[x]).map V.str))=H3 at s3 h3|-;have ai:=v.same s3;have J:=o.trans s3;have ag:∀q∈ns++[x],Wo q:=λq hq=>(M7.mp hq).elim (Y q) (λz=>by rw[IF.mp z];exact hwx);have ap:(ns++[x]).length+2*(down-1).toNat<=80:=by rw[i4];show ns.length+1+_<=_;omega
  ext;intro v4 H4 Z m4 Q;have k4:=(Kt.same J).trans Q.fr.kt;have aa:=ro.kt k4;have f4:dZ [S.lg] fe H H4:=((dZ.refl C).same J).trans Q.fr;ext;intro p5 L;have s5:=ae L (.tup [.str "let",.str x,vo,v4]);have gg:=Q.g;rw[Pd (),show(down-1).toNat=down.toNat-1 by omega]at gg;refine k _ _ (.mk (.lt x) [one,Z]) m4 (Q.sc.same s5) (f4.same s5) ?_ (lZ.FT (z:=share.toNat+(share.toNat+0)) rfl ?_ (ig λ_ z=>nomatch z) True.intro (λg0=>rfl) (jD.ji go (jD.cons (b:=[x]) gg (jD.nil (bs:=[]) (i5 _)))) ())
  .rw[cZ];exact Rp.new (K:=K) L (.cons .s (.cons .s (.cons aa (.one Q.r))))
  .intro b U;have U:b∈[[],[x]]:=U;simp only[M8,Nv,or_false]at U;rcases U with rfl|rfl
   .exact Nn _
   .show 1<=5;decide
 .ext;exact e
theorem IU {P:I0}{w:Ni}{K:bN}{mg:Str->Option eF}{base:Heap}{gT gN:Addr}{tfd nfd:M5}{f:Addr}{cdv:eF}{A:Nq}{s:fy}{H1:Hp}{n j:Nat}{D:L2.Ends}{H:Hp}{fe d la:Addr}{room down form share:Int}{S:Sn}{kl:Kl}{nm:List Str}{ds:List (Str×Nat)}{ns:List Str}{m0:Nat}{x y:Str}{o9 o10 o11 o12 o13:Option V}(Z:1<=j)(TK:eL P w K mg base "_law_take" 1 U6 cD gT tfd)(p:eL P w K mg base "_law_named" j U5 (fB K n) gN nfd)(l:mg "len"=none)(e:mg "int"=none)(hr:dj j (A.deeper (Nj "_law_named" (ak aW) s.heap.objs.size f cdv)))(X:w9 K fe d la S kl nm ds ns room down n H m0)(k:zx D K fe d S kl nm ds ns m0 room down H)(hsh:share=(room-1) / 3)(hxy:x≠y)(hwx:Wo x)(hwy:Wo y):
  jb (Zj gy U3 "_law_named" (ak aW) H1).nR ((bg aW).drop 5) D [some (.ref fe),some (.ref d),some (.ref la),some (.int room),some (.int down),some (.int form),some (.int share),some (.str x),some (.str y),o9,o10,o11,o12,o13] H:=by
 refine d7 ((Z5 (Z4 fX.nd iE 9 (Z0 p (Z1 (va aB 0) (Z1 (va aB 1) (Z1 (va aB 2) (Z1 (Zl br (Zu (Z1 (va aB 6) (Z1 (bS kF (va aB 3) aC) aA))) (Z7 iH e OB (Z1 (jq bV (va aB 5) aC (bG _)) aA))) (Z1 (bS kF (va aB 4) aC) aA))))))) cO)) ?_
 right
 right
 have hf:=X.sc.ff;have r5:=X.r5;have O:=X.sc;have v:=X.hla;have W:=X.nla;have U:=X.nlg;have rh:=X.rh;have d1:=X.d1;have dn:=X.dn;have ln:=X.ln;have J:=X.wn;have M:0<=share:=()
 have Y:ns.length+2*(down-1).toNat<=80:=()
 ext;intro l2 B;have q:=ae B (.lst [.int share,.int (room-1)]);have h2:bQ K (upd H l2 (.lst [.int share,.int (room-1)])) l2 [.int share,.int (room-1)]:=bQ.of af;have u:=O.same q;have o:=q _ _ v;generalize upd H l2 (.lst [.int share,.int (room-1)])=H2 at q h2 u o|-
 have aa:eK [V.int share,V.int (room-1)] (if decide (V.int form=V.int 1)=true then 1 else 0)=some (.int (if form=1 then room-1 else share)):=by
  by_cases c:form=1
  .rw[if_pos (by rw[c];rfl),if_pos c];exact aG (j:=1) rfl
  .rw[if_neg (λz=>c (V.int.inj (of_decide_eq_true z))),if_neg c];exact aG (j:=0) rfl
 have T:0<=(if form=1 then room-1 else share):=by split<;>omega
 have R:(if form=1 then room-1 else share)<=100:=by split<;>omega
 have Q:1<=(if form=1 then room-1 else share):=by split<;>omega
 ext;refine .inr #[_,rfl,?_];ext;intro v3 H3 L m3 t;have I:dZ [S.lg] fe H H3:=((dZ.refl hf).same q).trans t.fr;have C:=t.g;rw[Pd (),show(down-1).toNat=down.toNat-1 by omega]at C;have G:(if form=1 then room-1 else share).toNat=if form=1 then(room-1).toNat else share.toNat:=by split<;>rfl
 rw[G]at C;ext;exact Ky Z TK p l e hr (X.step t.sc I) (k.step I) hsh t.r C hxy hwx hwy
theorem DO {P:I0}{w:Ni}{K:bN}{mg:Str->Option eF}{base:Heap}{gT gN gM:Addr}{tfd nfd mfd:M5}{f:Addr}{cdv:eF}{A:Nq}{s:fy}{H1:Hp}{n j:Nat}{D:L2.Ends}{H:Hp}{fe d la:Addr}{room down form:Int}{S:Sn}{kl:Kl}{nm:List Str}{ds:List (Str×Nat)}{ns:List Str}{m0:Nat}{o6 o7 o8 o9 o10 o11 o12 o13:Option V}(hj:1<=j)(TK:eL P w K mg base "_law_take" 1 U6 cD gT tfd)(Q:eL P w K mg base "_law_named" j U5 (fB K n) gN nfd)(O:eL P w K mg base "_law_named_match" (j+1) Vl (ug K n) gM mfd)(l:mg "len"=none)(o:mg "int"=none)(hr:dj (j+1) (A.deeper (Nj "_law_named" (ak aW) s.heap.objs.size f cdv)))(X:w9 K fe d la S kl nm ds ns room down n H m0)(k:zx D K fe d S kl nm ds ns m0 room down H):
  jb (Zj gy U3 "_law_named" (ak aW) H1).nR ((bg aW).drop 2) D [some (.ref fe),some (.ref d),some (.ref la),some (.int room),some (.int down),some (.int form),o6,o7,o8,o9,o10,o11,o12,o13] H:=by
 refine d7 ((Z5 (Z4 fX.nd iE 6 (Zn rP (bS kF (va aB 3) aC) aC)) (Z5 (@yJ _ _ (7) (8) _ _ _ _ _ _ _ _ _ _ _ rfl fX.nd rfl rfl (by decide) rfl rfl (Z1 (Zl br (Zk (va aB 1)) (Z0 TK (dc (va aB 0) (Zd aC)))) (Z1 (Zl br (Zk (va aB 1)) aC) aA)) (by rfl) (by rfl)) (Z5 (Zb (PW.pt (@gz _ _ _ _ _ _ _ (Zp bV (va aB 5) aC) (@fz _ _ _ _ (Zi pL (Z2 aL l Nh (Z1 (Zk (va aB 1)) aA)) aC (bG _))))) (Ze (Zv (Z0 O (Z1 (va aB 0) (Z1 (va aB 1) (Z1 (va aB 2) (Z1 (Zn rP (bS kF (va aB 3) aC) aC) (Z1 (bS kF (va aB 4) aC) aA))))))))) cO)))) ?_
 right
 right
 have hf:=X.sc.ff;have r5:=X.r5;have gn:=X.sc.get (uf S);have hn:=X.sc.ln;have l6:=X.sc.l6;have aj:(nm.map V.str).length=6:=by rw[bM];exact l6
 have rh:=X.rh;have d1:=X.d1;have dn:=X.dn;have ln:=X.ln;have T:=X.sc.nf.2.1;have aa:=X.wn;refine tJ ?_;intro N1 N2 N3 c1 M Z;ext;intro r2 H2 ag ae R;have t:=X.ext R;have am:bQ K H2 S.ln (nm.map V.str):=bQ.of t.sc.ln;have ao:=t.sc.get (uf S);obtain⟨q,hq,rfl⟩:∃q:Nat,q<5/\r2=q:=#[r2.toNat,(),()];have aq:eK (nm.map V.str) (q:Int)=some (.str (nm[q]'())):=aG (by rw[EF,my ()];rfl);have a5:eK (nm.map V.str) 5=some (.str (nm[5]'())):=aG (j:=5) (by rw[EF,my ()];rfl)
 have p:(nm[q]'())≠(nm[5]'()):=λz=>by
  have:=X.sc.un q 5 (nm[q]'()) (my ()) (by rw[z];exact my ());omega
 have ap:=t.sc.get (yu S);have(ka,I,e,J,L):=t.sc.kd.aS;have ek:S.kd=ka:=V.ref.inj e;rw[<-ek]at J;have G:=L.length;rw[bM]at G;have U:=k.ext hf R;have v:Wo (nm[q]'()):=X.sc.nw _ (NP _);have u:Wo (nm[5]'()):=X.sc.nw _ (NP _);generalize(nm[q]'())=x at aq p v;generalize(nm[5]'())=y at a5 p u;have ad:=t.sc;have W:=t.hla;have ai:=X.nla;have ah:=X.nlg;have last:N3 [some (.ref fe),some (.ref d),some (.ref la),some (.int room),some (.int down),some (.int form),some (.int ((room-1) / 3)),some (.str x),some (.str y),o9,o10,o11,o12,o13] H2:=Cut.go Z (IU hj TK Q l o (hr.mono ()) t U rfl p v u);clear Z;ext;refine cg (λc=>?_) (λc=>?_)
 .ext;refine cg (λM=>?_) (λM=>?_)
  .have ar:(0:Int)<(I.length:Int):=of_decide_eq_true M;have an:0<kl.length:=()
   have ac:1<=(room-1) / 4:=()
   have ab:(room-1) / 4<=100:=()
   have al:ns.length+2+2*(down-1).toNat<=80:=()
   clear last;ext;intro v3 H3 C m3 B;have Y:=B.g;rw[show(down-1).toNat=down.toNat-1 by omega]at Y;exact U v3 H3 C m3 B.sc B.fr B.r (Y.wk () (i5 _))
  .ext;exact last
 .ext;exact last
theorem DP (hj:1<=j)(F:jr K "_law_named" "_law_named" aW f fd)(TK:eL P w K mg base "_law_take" 1 U6 cD gT tfd)(aa:eL P w K mg base "_law_named" j U5 (fB K n) gN nfd)(Z:eL P w K mg base "_law_named_match" (j+1) Vl (ug K n) gM mfd)(ab:eL P w K mg base "_law_named_leaf" 2 VD (wQ K) gL lfd)(p:mg "len"=none)(q:mg "int"=none):cA P w K mg base gy (j+2) f fd U5 (fB K (n+1)):=by
 refine F.ok fX (λvs H Q E h=>?_) (λcdv A outer s H vs Q E hr h=>?_)
 .have(_,_,_,_,_,_,_,_,_,_,_,rfl,_):=h;rfl
 have(fe,d,la,l,o,S,kl,nm,ds,ns,m,rfl,sc,U,v,O,ae,ad,ai,dn,T,I,k):=h;refine#[_,(Z5 (Z4 fX.nd iE 5 (Z0 TK (dc (va aB 0) (Zd aC)))) (Z5 (Zb (PW.pt (@pH _ _ _ _ _ _ _ (Zp mU (va aB 3) aC) (@pH _ _ _ _ _ _ _ (Zp mU (va aB 4) aC) (@oQ _ _ _ _ (Zp bV (va aB 5) aC))))) (Ze (Zv (Z0 ab (Z1 (va aB 0) (Z1 (va aB 1) (Zd (va aB 2)))))))) cO)),?_]
 right
 right
 have hf:=sc.ff;refine j4 ?_;intro N1 N2 c1 B;ext;intro D H1 ah ag G;have M:=sc.ext G;have f1:dZ [S.lg] fe H H1:=Ext.sY hf G;have y:=G.1 _ _ v U;refine Cut.go c1 ?_;refine GP (l<5\/o<1\/D=0) (λC Y cf=>?_) (λc=>?_) (λc=>?_)
 .ext;refine cg (λc=>?_) (λc=>?_)
  .exact Y (.inl (of_decide_eq_true c))
  .ext;refine cg (λB=>?_) (λB=>?_)
   .exact Y (.inr (.inl (of_decide_eq_true B)))
   .ext
    by_cases z:D=0
    .rw[show decide (V.int D=V.int 0)=true by rw[z];rfl];exact Y (.inr (.inr z))
    .rw[show decide (V.int D=V.int 0)=false from decide_eq_false λe=>z (V.int.inj e)];exact cf (λw=>w.elim (λw=>c (decide_eq_true w)) λw=>w.elim (λw=>B (decide_eq_true w)) z)
 .have ac:ns.length<=100:=()
  ext;intro J H2 t R u;exact k J H2 t R #[u.sc,f1.trans u.fr,u.r,u.g.wk (SK _ _) (Nn _)]
 .have c5:¬l<5:=λz=>c (.inl z);have cd:¬o<1:=λz=>c (.inr (.inl z));refine Cut.go B ?_;refine DO hj TK aa Z p q hr #[M,y,v,O,(),(),(),(),T,I] ?_;intro J H2 t R L W r2 u;exact k J H2 t R #[L,f1.trans W,r2,u.wk (Td _ _) ()]
theorem DQ :∀{l a:List Str},l.Nodup->(∀x∈l,x∉a)->cJ a l=none
 | [],_,_,_=>rfl
 |x::r,a,hn,ha=>by
  rw[O0]at hn;show(if x∈a then some x else cJ (a++[x]) r)=none;rw[if_neg (ha x (.head _))];refine DQ hn.2 λy d z=>?_;rcases M7.mp z with z|z
  .exact ha y (.tail _ d) z
  .exact hn.1 (IF.mp z▸d)
theorem DR (h:l.Nodup):cJ [] l=none:=DQ h λ_ _ z=>nomatch z
theorem Gf (h:k.ok ah):iC ah k=none:=by
 have d:=Kk.ku.mp h;unfold iC
 cases e:k.core with
 |num=>rfl
 |kd x=>rw[e]at d;exact if_pos d
 |op n=>rw[e]at d;exact absurd d id
 |row j=>rfl
theorem uh {f:d->Option Str}:∀{l:List d},(∀x∈l,f x=none)->fR f l=none
 | [],_=>rfl
 |x::r,h=>by
  unfold fR;rw[h x (.head _)];exact uh λy e=>h y (.tail _ e)
theorem AE :∀{d:List (Str×List Kk)}{ta:List Str},(ta++d.map (·.1)).Nodup->(∀t∈d,∀c∈t.2,c.ok ah)->gi ah ta d=none
 | [],_,_,_=>rfl
 |t::r,ta,hn,h=>by
  have e:ta++(t::r).map (·.1)=(ta++[t.1])++r.map (·.1):=by simp
  rw[e]at hn;unfold gi;rw[DR (OC.mp hn).1];dsimp only;rw[uh λc l=>Gf (h t (.head _) c l)];exact AE hn λu g=>h u (.tail _ g)
theorem yw :∀{kl:Kl}{ah ta:List Str},(ah++kl.map (·.1)).Nodup->(ta++je kl).Nodup->(∀(i:Nat) (k:Str×List (Str×List Kk)),kl[i]?=some k->∀t∈k.2,∀c∈t.2,c.ok (ah++(kl.take i).map (·.1)))->cQ ah ta kl=none
 | [],_,_,_,_,_=>rfl
 |k::r,ah,ta,h1,h2,h3=>by
  have p:ah++(k::r).map (·.1)=(ah++[k.1])++r.map (·.1):=by simp
  have o:ta++je (k::r)=(ta++k.2.map (·.1))++je r:=by unfold je;simp
  rw[p]at h1;rw[o]at h2;unfold cQ;rw[DR (OC.mp h1).1];dsimp only;have d:=h3 0 k rfl;rw[PZ,OS,Ny]at d;rw[AE (OC.mp h2).1 d];refine yw h1 h2 λi e l t g c m=>?_;have:=h3 (i+1) e l t g c m;rw[List.take_succ_cons,Nr]at this;rw[Oa];exact this
theorem qv (h:Un xs):xs.Nodup:=by
 unfold List.Nodup;rw[List.pairwise_iff_getElem];intro i j l d g e;have:=h i j xs[i] (my l) (by rw[e];exact my d);omega
theorem nZ (h:Un xs)(n:Nat):Un (xs.drop n):=λi j x e d=>by
 rw[Sd]at e d;have:=h _ _ x e d;omega
theorem n9 (h:Un xs)(n:Nat):Un (xs.take n):=λi j x e d=>by
 rw[QJ]at e d
 split at e
 .split at d
  .exact h _ _ x e d
  .cases d
 .cases e
theorem DS (d:Un xs)(ok:BH xs kl):cQ [] [] kl=none:=by
 refine yw ?_ ?_ ?_
 .rw[PF,ok.nm];exact qv (n9 d _)
 .rw[PF,ok.tg];exact qv (n9 (nZ d 3) _)
 .intro i k g t l c m;have o:i<kl.length:=(bH.mp g).1
  have e:(kl.take i).map (·.1)=xs.take i:=by
   rw[Pk,ok.nm,List.take_take,PJ ()]
  rw[PF,e];exact((ok.pt i k g).2.2 t l).2 c m
theorem um (ok:BH xs kl)(e:∀x∈xs,Wo x):∀k∈kl,Ef k:=λk g=>by
 have(i,o):=NR g;have(a,b,c):=ok.pt i k o;refine#[a,b,λt d=>(c t d).1,e _ ?_,λt d=>#[e _ ?_,λq m x l=>?_]]
 .have:k.1∈kl.map (·.1):=NT g;rw[ok.nm]at this;exact N9 this
 .have:t.1∈je kl:=Pr.mpr #[k,g,NT d];rw[ok.tg]at this;exact OQ (N9 this)
 .have:=Kk.ku.mp ((c t d).2 q m);rw[l]at this;exact e x (N9 this)
theorem zA (l:Un xs)(ok:BH xs kl)(o:kl.length<=3)(g:∀x∈xs,Wo x):GZ kl:=by
 refine#[?_,?_,o,λk d=>?_,λk d=>#[(um ok g k d).2.2.2.1,λt e=>((um ok g k d).2.2.2.2 t e).1]]
 .rw[ok.nm];exact qv (n9 l _)
 .rw[ok.tg];exact qv (n9 (nZ l 3) _)
 .have(i,m):=NR d;have(a,b,c):=ok.pt i k m;exact#[a,b,λt e=>(c t e).1]
noncomputable def qA(d:Int)(c:Nat):List Int:=(Pa c).map λ(i:Nat)=>(d+7*(i:Int)) % 100
theorem wR (d:Int)(c:Nat):qA d (c+1)=qA d c++[(d+7*(c:Int)) % 100]:=by
 unfold qA;rw[RL,lj];rfl
theorem zB (d:Int)(c:Nat):(qA d c).length=c:=by
 unfold qA;rw[bM,Ra]
theorem IV (o:c<=3)(m:1<=c):(g+7*(c:Int)) % 100∉(qA g c).drop 1:=λz=>by
 have(i,d):=NR z;rw[Sd]at d;unfold qA at d;rw[EF]at d
 have l:1+i<c:=by
  by_cases h:1+i<c
  .exact h
  .rw[Rh (by rw[Ra];omega)]at d
   cases d
 rw[List.getElem?_range l]at d;have e:(g+7*((1+i:Nat):Int)) % 100=(g+7*(c:Int)) % 100:=by simpa using d
 omega
theorem DT (h:k.ok l):fM l g k=.ok g:=by
 have d:=Kk.ku.mp h;unfold fM
 cases e:k.core with
 |num=>rfl
 |kd x=>rw[e]at d;exact if_pos d
 |op n=>rw[e]at d;exact absurd d id
 |row j=>rfl
theorem Gg (p:1<=c)(h:FO q (qA d c) k l):∃m,1<=m/\l=qA d m/\fM q ((qA d c).drop 1) k=.ok ((qA d m).drop 1)/\m<=c+1/\(c<=4->m<=4):=by
 rcases h with⟨rfl,h⟩|⟨o,ot,e,h4,hk,rfl⟩
 .exact#[c,p,rfl,DT h,Ot _,id]
 .rw[zB]at h4;obtain⟨g,rfl⟩:∃g,c=g+1:=#[c-1,()]
  have t:o=(d+7*(g:Int)) % 100:=by
   rw[wR]at e;exact(List.append_inj_right' e rfl|> List.singleton_inj.mp).symm
  have r:(o+7) % 100=(d+7*((g+1:Nat):Int)) % 100:=()
  refine#[g+2,(),?_,?_,(),λ_=>by omega]
  .rw[wR d (g+1),r]
  .unfold fM;rw[hk];dsimp only;rw[r,if_neg (IV () ()),wR d (g+1),List.drop_append_of_le_length (by rw[zB];omega)]
theorem vB (kl:Kl)(ds:List (Str×Nat))(gs e:List Int)(d:Df)(r:List Df):jC kl ds gs e (d::r)=if d.1∈ds.map (·.1)then some (.tw,d.1)else oO kl ds gs d r (cY (kl.map (·.1)) [] e d.2.1):=vz (dl:=d::r) (i:=0) rfl
noncomputable def wU(dl:List Df):List (Str×Nat):=dl.map λd=>(d.1,d.2.1.length)
structure IW(kn:List Str) (xs:List Str) (o0:Int) (c0 c:Nat) (i:Nat) (ps:List (Str×Kk)):Prop where
 nm:ps.map (·.1)=xs.take i
 c1:1<=c
 e:∀r,cY kn [] ((qA o0 c0).drop 1) (ps++r)=cY kn (ps.map (·.1)) ((qA o0 c).drop 1) r
theorem IW.nil {e:List Str}(h:1<=c):IW e xs d c c 0 []:=#[rfl,h,λ_=>rfl]
theorem IW.snoc (g:IW m xs l u c i ps)(v:Un xs)(q:xs[i]?=some x)(h:FO m (qA l c) k d):∃o,d=qA l o/\(c<=4->o<=4)/\IW m xs l u o (i+1) (ps++[(x,k)]):=by
 have(o,C,H,G,_,B):=Gg g.c1 h;have t:=(bH.mp q).1;have D:xs.take (i+1)=xs.take i++[x]:=by rw[mu t,(bH.mp q).2]
 refine#[o,H,B,by rw[lj,g.nm,D];rfl,C,λr=>?_];rw[Oa,g.e]
 show(if x∈ps.map (·.1)then Except.error (Er.tw,x)else match fM m ((qA l c).drop 1) k with
  |.error f=>.error f
  |.ok d=>cY m (ps.map (·.1)++[x]) d r)=_
 have y:x∉ps.map (·.1):=λz=>by
  rw[g.nm]at z;have(j,p):=NR z;rw[QJ]at p
  split at p
  .have:=v i j x q p;omega
  .cases p
 rw[if_neg y,G];dsimp only;rw[lj];rfl
structure G0(kl:Kl) (xs:List Str) (o0 f0:Int) (c m i:Nat) (dl:List Df):Prop where
 nm:dl.map (·.1)=xs.take i
 c1:1<=c
 e:∃gs,(∀x∈gs,x∈pA f0 m)/\∀r,jC kl [] [] [] (dl++r)=jC kl (wU dl) gs ((qA o0 c).drop 1) r
theorem G0.nil :G0 kl xs d f0 1 0 0 []:=#[rfl,i5 _,[],(λ_ h=>nomatch h),λ_=>rfl]
theorem G0.snoc (g:G0 kl xs d f0 c m i dl)(C:Un xs)(t:xs[i]?=some x)(p:IW (kl.map (·.1)) ys d c y q ps)(h:Gd kl (wU dl) (ps.map (·.1)) (pA f0 m) (pA f0 m') o):G0 kl xs d f0 y m' (i+1) (dl++[(x,ps,o)]):=by
 have(B,J,I):=g.e;have(v,H,G):=h B J;have u:=(bH.mp t).1;have L:xs.take (i+1)=xs.take i++[x]:=by rw[mu u,(bH.mp t).2]
 have O:(wU dl).map (·.1)=xs.take i:=by unfold wU;rw[NZ];exact g.nm
 refine#[by rw[lj,g.nm,L];rfl,p.c1,v,G,λr=>?_];rw[Oa,I,List.singleton_append,vB]
 have D:x∉(wU dl).map (·.1):=λz=>by
  rw[O]at z;have(j,l):=NR z;rw[QJ]at l
  split at l
  .have:=C i j x t l;omega
  .cases l
 rw[if_neg D]
 have M:cY (kl.map (·.1)) [] ((qA d c).drop 1) ps=.ok ((qA d y).drop 1):=by
  have:=p.e [];rw[Ny]at this;rw[this];rfl
 show oO kl (wU dl) B (x,ps,o) r (cY (kl.map (·.1)) [] ((qA d c).drop 1) ps)=_;rw[M];unfold oO;dsimp only;rw[H];dsimp only;unfold wU;rw[lj];rfl
theorem G0.none {kl:Kl}{xs:List Str}{d f0:Int}{c m i:Nat}{dl:List Df}(g:G0 kl xs d f0 c m i dl)(l:cQ [] [] kl=none):cy kl dl=none:=by
 unfold cy;rw[l];dsimp only;have(o,_,e):=g.e;have:=e [];rw[Ny]at this;rw[this];rfl
structure yG(z dp:Nat) (kl:Kl) (dl:List Df):Prop where
 k3:kl.length<=3
 kt:∀k∈kl,Ef k
 d1:1<=dl.length
 d3:dl.length<=3
 dd:∀d∈dl,Wn d.2.2/\Ta d.2.2/\d.2.2.size<=z/\d.2.2.depth<=dp/\d.2.1.length<=3
 dw:∀d∈dl,GY d
def AF(K:bN):Sp:=λq H Q _=>∃(f:Addr) (d:Int),q=[.ref f,.int d]/\cP H f/\1<=d/\d<=40 /\
 ∀(p l:Addr) (pv:V) (e:Hp) (m:Kl) (o:List Df) (g:List Str),Ext f H e->H l=none->e l=some (.lst (g.map V.str))->g.length=24->(∀x∈g,Wo x)->cH K e p [pv,.ref l]->Rp K e (.t [.t (m.map gZ),.t (o.map jm)]) pv->yG d.toNat 6 m o->cy m o=none->Q (.ref p) e
theorem fk.sY (s:fk K H f d S kl nm ds m)(e:fk K HB f d S kl nm ds' m')(fr:dZ M f H H')(y:∀l∈M,HB l=none):fk K H' f d S kl nm ds m:=by
 have(D,I,G):=s.ld;have(g,t1,t2):=s.lt;have(_,C,_):=e.ld;have(_,B,_):=e.lt;have(v,t,r,p,o):=s.nf;have n:∀{c:Addr}{u:L2.HO},HB c=some u->c∉M:=λq z=>by rw[y _ z]at q;cases q
 exact#[fr.oth _ _ (n e.sd) v s.sd,s.kd.kt fr.kt,fr.oth _ _ (n e.ln) t s.ln,s.l6,s.un,#[D,fr.oth _ _ (n C) r I,G.kt fr.kt],#[g,fr.oth _ _ (n B) o t1,t2.kt fr.kt],fr.oth _ _ (n e.lg) p s.lg,s.m5,s.f0,fr.ff,s.nf,s.ng,s.kk,s.dn,s.dl,s.d3,s.nw,s.dw]
theorem fk.uB (s:fk K H f d S kl nm ds m)(hd:H S.ld=some (.lst l))(o:bO K H (ds.map DH) l)(g:S.ln≠S.ld/\S.lt≠S.ld)(u:Rp K H (DH (x,n)) (.ref p))(D:x∉ds.map (·.1))(hn:n<=3)(I:ds.length<=7)(G:Wo x):fk K (upd H S.ld (.lst (l++[.ref p]))) f d S kl nm (ds++[(x,n)]) m:=by
 have(t,t1,t2):=s.lt;have(T,R,C,Q,O):=s.nf;have(y,v,r):=s.ff;have k:Kt H (upd H S.ld (.lst (l++[.ref p]))):=Kt.lst hd _;have B:d≠S.ld:=jt s.sd hd nofun
 refine#[by rw[au B];exact s.sd,s.kd.kt k,by rw[au g.1];exact s.ln,s.l6,s.un,#[_,af,?_],#[t,by rw[au g.2];exact t1,t2.kt k],by rw[au s.ng.2.1.symm];exact s.lg,s.m5,s.f0,#[y,v,by rw[au C.symm];exact r],s.nf,s.ng,s.kk,?_,?_,?_,s.nw,λq hq=>(M7.mp hq).elim (s.dw q) (λz=>by rw[IF.mp z];exact G)]
 .rw[lj];exact(o.kt k).snoc (u.kt k)
 .rw[lj,OC];refine#[s.dn,O0.mpr #[nofun,TH],λa L b J e=>?_]
  rw[IF.mp J]at e;have M:a=x:=e;exact D (M▸L)
 .rw[i4];exact Pq I
 .intro q hq;rcases M7.mp hq with hq|hq
  .exact s.d3 q hq
  .rw[IF.mp hq];exact hn
structure LL(K:bN) (fe d:Addr) (S:Sn) (kl:Kl) (nm xs:List Str) (o0:Int) (z:Nat) (lo lf:Addr) (H0:Hp) (i:Nat) (H:Hp) (dl:List Df) (us:List V) (c m:Nat):Prop where
 sc:fk K H fe d S kl nm (wU dl) m
 fr:dZ [S.lg,S.ld,lo,lf] fe H0 H
 ho:H lo=some (.lst ((qA o0 c).map V.int))
 hf:H lf=some (.lst us)
 r:bO K H (dl.map jm) us
 g:G0 kl (xs.drop 21) o0 S.f0 c m i dl
 li:dl.length=i
 c4:c<=4
 dd:∀d∈dl,Wn d.2.2/\Ta d.2.2/\d.2.2.size<=z/\d.2.2.depth<=6/\d.2.1.length<=3
 dw:∀d∈dl,GY d
structure M0(K:bN) (fe:Addr) (kl:Kl) (ys:List Str) (o0:Int) (lo:Addr) (H0:Hp) (c i:Nat) (us:List V) (H:Hp):Prop where
 x:∃(ps:List (Str×Kk)) (c':Nat),dZ [lo] fe H0 H/\H lo=some (.lst ((qA o0 c').map V.int))/\bO K H (ps.map wC) us/\IW (kl.map (·.1)) ys o0 c c' i ps/\c'<=4/\∀p∈ps,Wo p.1/\yF p.2
theorem aF :Nm U4 (ak aQ):=by decide
theorem bJ :Lm U4 (ak aQ):=by decide
theorem bD :aZ U4 V0 (ak aQ):=#[rfl,rfl,rfl,by decide,rfl,by decide,by decide]
theorem Gh {P:I0}{w:Ni}{K:bN}{mg:Str->Option eF}{base:Heap}{gT gN gA:Addr}{tfd nfd afd:M5}{n j:Nat}(hn:6<n)(hj:2<=j){f:Addr}{cdv:eF}{A:Nq}{outer:List OE}{s:fy}{H1:Hp}{E:XK}(TK:eL P w K mg base "_law_take" 1 U6 cD gT tfd)(de:eL P w K mg base "_law_named_kind" 2 Vk (lY K) gA afd)(db:eL P w K mg base "_law_named" j U5 (fB K n) gN nfd)(a8:mg "len"=none)(z_range:mg "range"=none)(O:mg "tuple"=none)(hr:dj j (A.deeper (Nj "_law_named_program" (ak aQ) s.heap.objs.size f cdv))){D:L2.Ends}{HB H:Hp}{fe d ln0 lth lo lf:Addr}{room o0:Int}{S:Sn}{kl:Kl}{nm xs:List Str}{kv:V}{o5 o6 o10 o11:Option V}(scB:fk K HB fe d S kl nm [] 0)(sc:fk K H fe d S kl nm [] 0)(un:Un xs)(lx:xs.length=24)(wx:∀x∈xs,Wo x)(wk:∀k∈kl,Ef k)(rm1:1<=room)(rm:room<=40)(rk:Rp K H (.t (kl.map gZ)) kv)(hB:HB lo=none/\HB lf=none)(hkn:cQ [] [] kl=none)(h0:H ln0=some (.lst (xs.map V.str)))(n0:ln0≠fe/\ln0≠S.lg/\ln0≠S.ld/\ln0≠lo/\ln0≠lf)(hth:H lth=some (.lst ((kl.map (·.1)).map V.str)))(nth:lth≠fe/\lth≠S.lg/\lth≠S.ld/\lth≠lo/\lth≠lf)(ho:H lo=some (.lst ((qA o0 1).map V.int)))(nlo:lo≠fe)(hlf:H lf=some (.lst []))(nlf:lf≠fe)(nol:lo≠lf)(nld:S.ln≠S.ld/\S.lt≠S.ld)(k:∀(p:Addr) (pv:V) (H':Hp) (dl:List Df),dZ [S.lg,S.ld,lo,lf] fe H H'->H' ln0=some (.lst (xs.map V.str))->cH K H' p [pv,.ref ln0]->Rp K H' (.t [.t (kl.map gZ),.t (dl.map jm)]) pv->yG room.toNat 6 kl dl->cy kl dl=none->D.rt (.ref p) H'):
  jb (Zj gy U4 "_law_named_program" (ak aQ) H1).nR ((bg aQ).drop 8) D [some (.ref fe),some (.int room),some (.ref ln0),some kv,some (.ref d),o5,o6,some (.ref lth),some (.ref lo),some (.ref lf),o10,o11] H:=by
 refine d7 ((Z5 (Zh NC (Zr (Z1 (Zn dS aC (Z0 TK (dc (va aF 0) (Zd aC)))) aA)) (ga bD.nd bJ 10) (Z5 (@nj _ _ _ _ _ _ _ _ _ _ _ _ _ _ _ (ak aQ) U4 ["_law_x"] [0,7,8] rfl rfl rfl (by decide) (@lF _ _ _ _ (@dY _ _ _ _ _ _ _ _ _ _ rR (va aF 2) (dm aC) (@dm _ _ _ (Zn dS aC (Z0 TK (dc (va aF 0) (Zd aC))))))) (λ_ _ _ _=>(Z3 (i:=0) (show(Vo:List Str).Nodup by decide))) (λ_ _ _ _=>fZ) (λ_ _ _ _=>(Zm (Z1 (va (show Nm Vo _ by left) 0) (Z1 (Z0 de (Z1 (va (show Nm Vo _ by left) 1) (Z1 (va (show Nm Vo _ by left) 2) (Zd (va (show Nm Vo _ by left) 3))))) aA)))) (ga bD.nd bJ 11) (by kernel_rfl) (by intro _;rfl)) (Z5 (Zo (Z6 (va aF 9) (Z1 (Zm (Z1 (Zl br (va aF 2) (bS dS aC (va aF 10))) (Z1 (Z7 cS O NX (Zd (va aF 11))) (Z1 (Z0 db (Z1 (va aF 0) (Z1 (va aF 4) (Z1 (Zg (ak aQ) U4 V2 [] (lF (va aF 11)) (λ_ _ _ _=>(Z9 (2) (Zf (Z3 (i:=0) (show(V2:List Str).Nodup by decide)) (Zt (Z3 (i:=1) (show(V2:List Str).Nodup by decide)))))) (λ_ _ _ _=>(va (show Nm V2 _ by left) 0))) (dc (va aF 1) (Zd aC)))))) aA)))) aA))) (Ze (Zo (Z6 (Zk (va aF 4)) (Z1 (Zm (Z1 (Zl br (va aF 2) (bS dS aC (va aF 10))) (Z1 (Z2 aL a8 Nh (Zd (va aF 11))) aA))) aA))))))) (Ze (Zv (Zm (Z1 (Zm (Z1 (va aF 3) (Z1 (Z7 cS O NX (Zd (va aF 9))) aA))) (Zd (va aF 2)))))))) ?_
 right
 right
 have hf:=sc.ff;have n1:lo≠S.lg:=(ay scB.lg hB.1).symm;have n3:lf≠S.lg:=(ay scB.lg hB.2).symm;have(ei,cb,_):=scB.ld;have n2:lo≠S.ld:=(ay cb hB.1).symm;have n4:lf≠S.ld:=(ay cb hB.2).symm;have l3:=sc.kk.l3;have eb:(xs.map V.str).length=24:=by rw[bM];exact lx
 ext;intro mq H2 d6 d5 x2;have i0:LL K fe d S kl nm xs o0 room.toNat lo lf H 0 H2 [] [] 1 0:=#[sc.ext x2,Ext.sY hf x2,x2.1 _ _ nlo ho,x2.1 _ _ nlf hlf,.nil,.nil,rfl,by decide,(λ_ h=>nomatch h),λ_ h=>nomatch h]
 ext;refine iG (n:=(1+mq).toNat) (λi σ H3=>∃dl us c m o5 o6 o10 o11,σ=[some (.ref fe),some (.int room),some (.ref ln0),some kv,some (.ref d),o5,o6,some (.ref lth),some (.ref lo),some (.ref lf),o10,o11]/\LL K fe d S kl nm xs o0 room.toNat lo lf H i H3 dl us c m) #[_,_,_,_,_,_,_,_,rfl,i0] ?_ ?_
 .rintro i σ H3 hi ⟨dl,us,c,m,_,_,_,_,rfl,u⟩
  have nM:∀{b:Addr},b≠fe/\b≠S.lg/\b≠S.ld/\b≠lo/\b≠lf->b∉[S.lg,S.ld,lo,lf]:=λh z=>by
   simp only[M8,Nv,or_false]at z;rcases z with z|z|z|z
   .exact h.2.1 z
   .exact h.2.2.1 z
   .exact h.2.2.2.1 z
   .exact h.2.2.2.2 z
  have ar:H3 ln0=some (.lst (xs.map V.str)):=u.fr.oth _ _ (nM n0) n0.1 h0;have b0:H3 lth=some (.lst ((kl.map (·.1)).map V.str)):=u.fr.oth _ _ (nM nth) nth.1 hth;have ca:=u.sc.ff;ext;intro q4 H4 d1 d0 x4;have eh:=x4.1 _ _ n0.1 ar;obtain⟨q,hq,rfl⟩:∃q:Nat,q<=3/\q4=q:=#[q4.toNat,(),()]
  have ec:jv (xs.map V.str) (some 18) (some (18+(q:Int)))=((xs.drop 18).take q).map V.str:=by
   rw[show(some (18:Int))=some ((18:Nat):Int)from rfl,show(18+(q:Int))=((18+q:Nat):Int) by omega,xO _ _ _ () (),Pk,Rw,show 18+q-18=q by omega]
  ext;intro l5 bf;rw[ec];have s5:=ae bf (.lst (((xs.drop 18).take q).map V.str));have h5:upd H4 l5 (.lst (((xs.drop 18).take q).map V.str)) l5=some (.lst (((xs.drop 18).take q).map V.str)):=af;have ab:Ext fe H3 (upd H4 l5 (.lst (((xs.drop 18).take q).map V.str))):=x4.same s5;have cv:l5≠fe:=bA x4.2 bf;have b4:=ab.1 _ _ nlo u.ho;have cu:l5≠lo:=(ay (x4.1 _ _ nlo u.ho) bf).symm;have a0:=ab.1 _ _ nth.1 b0;generalize upd H4 l5 (.lst (((xs.drop 18).take q).map V.str))=H5 at s5 h5 ab b4 a0|-;have bv:((xs.drop 18).take q).length=q:=by rw[L1,NW];omega
  have cw:(((xs.drop 18).take q).map V.str).length=q:=by rw[bM];exact bv
  have ck:Un ((xs.drop 18).take q):=n9 (nZ un 18) q;have c8:=u.c4;ext;refine kX (K:=K) (xs:=((xs.drop 18).take q).map V.str) (λi8 σ o H8=>(∃y,σ=[y,some (.ref fe),some (.ref lth),some (.ref lo)])/\M0 K fe kl ((xs.drop 18).take q) o0 lo H5 c i8 o H8) #[#[_,rfl],#[[],c,dZ.refl ab.2,b4,.nil,.nil u.g.c1,c8,λ_ h=>nomatch h]] ?_ (small ()) ?_ ?_ ?_
  .rintro i8 σ o H8 h ⟨_,⟨W,c',_,_,r8,g8,_,_⟩⟩;have:=congrArg QL g8.nm;rw[bM,L1]at this;rw[r8.length,bM];omega
  .rintro i8 σ o H8 h ⟨_,⟨W,c',f8,_⟩⟩;exact bQ.of (f8.jF cu cv h5)
  .rintro i8 xv σ o H8 hxv ⟨⟨_,rfl⟩,⟨W,c',f8,b3,r8,g8,bh,w8⟩⟩;rw[EF]at hxv;have(I,ao,rfl):=xn.mp hxv;have ef:=f8.ff;have dr:=f8.jF nth.2.2.2.1 nth.1 a0;have dq:(kl.map (·.1)).length<=100:=by rw[bM];omega
   have ea:(qA o0 c').length<=100:=by rw[zB];omega
   ext;intro v9 H9 k9 d2 f9 ap r9 bt;have(c9,e9,da,g9):=g8.snoc ck ao bt
   have cj:yF k9:=λx hx=>by
    rcases bt with⟨_,z⟩|⟨_,_,_,_,z,_⟩
    .have:=Kk.ku.mp z;rw[hx]at this;have(kk,c3,e):=ND.mp this;rw[<-e];exact(wk kk c3).2.2.2.1
    .rw[hx]at z;cases z
   have ad:Wo I:=wx I (OQ (N9 (M9 ao)));subst e9;ext;intro al U;have J:=ae U (.tup [.str I,v9]);exact#[#[_,rfl],#[W++[(I,k9)],c9,(f8.trans f9).same J,J _ _ ap,by rw[lj];exact((r8.kt f9.kt).same J).snoc (Rp.new (K:=K) (xs:=[.s I,jJ k9]) U (.cons .s (.one r9))),g9,da bh,λp hp=>(M7.mp hp).elim (w8 p) (λz=>by rw[IF.mp z];exact#[ad,cj])]]
  .rintro σ o H8 ⟨⟨_,rfl⟩,⟨W,c',f8,b3,r8,g8,bh,w8⟩⟩ p9 hp9;rw[cw]at g8
   have d9:W.length=q:=by
    have:=congrArg QL g8.nm;rw[bM,L1,bv,Q7]at this;exact this
   have az:=r8.length;rw[bM]at az;have cf:dZ [lo] fe H3 H8:=(Ext.sY ca ab).trans f8;have ba:fk K H8 fe d S kl nm (wU dl) m:=u.sc.sY scB cf λl hl=>by rw[IF.mp hl];exact hB.1
   have cs:p9≠S.lg:=(ay ba.lg hp9).symm;have ct:p9≠fe:=bA ba.ff hp9;have cr:p9≠lf:=(ay (cf.jF nol.symm nlf u.hf) hp9).symm
   have d3:p9≠S.ld:=by
    have(_,z,_):=ba.ld;exact(ay z hp9).symm
   have s9:=ae hp9 (.lst o);have h9:upd H8 p9 (.lst o) p9=some (.lst o):=af;have r9:=r8.same s9;have ac:dZ [lo] fe H3 (upd H8 p9 (.lst o)):=((Ext.sY ca ab).trans f8).same s9;have ap:=s9 _ _ b3;generalize upd H8 p9 (.lst o)=H9 at s9 h9 r9 ac ap|-;have b8:H9 lf=some (.lst us):=ac.jF nol.symm nlf u.hf;have c6:=ac.jF n0.2.2.2.1 n0.1 ar;have cl:fk K H9 fe d S kl nm (wU dl) m:=u.sc.sY scB ac λl hl=>by rw[IF.mp hl];exact hB.1
   have ee:i<3:=()
   have bw:21+i<xs.length:=()
   have ai:eK (xs.map V.str) (21+(0+(i:Int)))=some (.str xs[21+i]):=by
    have:=aG (xs:=xs.map V.str) (j:=21+i) (v:=.str xs[21+i]) (by rw[EF,my bw];rfl);rw[show((21+i:Nat):Int)=21+(0+(i:Int)) by omega]at this;exact this
   have xi:(xs.drop 21)[i]?=some xs[21+i]:=by rw[Sd,my bw]
   have ad:Wo xs[21+i]:=wx _ (NP _);generalize xs[21+i]=I at ai xi ad;ext;refine .inl #[bQ.of h9,λal U=>?_];have J:=ae U (.tup o);have bs:=Rp.new (K:=K) U r9;have cd:=J _ _ h9;have ax:=r9.same J;have aa:=cl.same J;generalize upd H9 al (.tup o)=H10 at J bs cd ax aa|-;ext;refine Ba (K:=K) (e:=wC) (φ:=λp=>[.s p.1]) (λσ=>∃a b,σ=[a,b]) cd ax () (λ_=>i5 _) #[_,_,rfl] ?_ ?_
   .rintro p hp x _ H6 N s6 ⟨_,_,rfl⟩ rx kN;have(xa,x1,x2,rfl,dx,e1,e2):=(show Rp K H6 (.t [.s p.1,jJ p.2]) x from rx).t2;obtain rfl:=e1.aJ;ext;exact kN _ _ _ #[#[_,_,rfl],aT.refl _,.one .s]
   intro bx el df bb a5 eg bp;rw[vX,show(λp:Str×Kk=>T.s p.1)=T.s ∘ (·.1)from rfl,<-NZ]at bp;obtain rfl:=bp.kY;have dh:=aa.same bb;have d4:bx≠fe:=bA aa.ff a5;have di:bx≠S.lg:=(ay aa.lg a5).symm
   have dg:∀x∈W.map (·.1),Wo x:=λx hx=>by
    have(p,hp,rfl):=ND.mp hx;exact(w8 p hp).1
   have dy:0<=room:=()
   have cm:room<=100:=()
   have ek:(0:Int)<=6:=by decide
   have ej:(6:Int)<n:=()
   have dk:(W.map (·.1)).length+2*(6:Int).toNat<=80:=by rw[bM];show W.length+12<=80;omega
   ext;intro a9 Y Z bu G;have gg:=G.g;rw[Pd ()]at gg;have c0:=(Kt.same bb).trans G.fr.kt;have cq:=bs.kt c0;have C:=J.trans bb;have be:Y lf=some (.lst us):=G.fr.jF n3 nlf (C _ _ b8);have b6:Y lo=some (.lst ((qA o0 c').map V.int)):=G.fr.jF n1 nlo (C _ _ ap);have ce:Y ln0=some (.lst (xs.map V.str)):=G.fr.jF n0.2.1 n0.1 (C _ _ c6);have co:=(u.r.kt ac.kt).kt ((Kt.same C).trans G.fr.kt);have cg:dZ [S.lg,S.ld,lo,lf] fe H Y:=(u.fr.trans ((ac.same C).sub λz hz=>by rw[IF.mp hz];simp)).trans (G.fr.sub λz hz=>by rw[IF.mp hz];simp);have dz:=r9.kt ((Kt.same C).trans G.fr.kt);have cc:Y p9=some (.lst o):=G.fr.jF cs ct (C _ _ h9);have bk:=G.sc;have d8:us.length<mH:=bq (by rw[u.r.length,bM,u.li];omega);ext;intro B a2;have R:=ae a2 (.tup [.str I,.ref al,a9]);have bo:Rp K (upd Y B (.tup [.str I,.ref al,a9])) (jm (I,W,Z)) (.ref B):=Rp.new (K:=K) (xs:=[.s I,.t (W.map wC),enc Z]) a2 (.cons .s (.cons cq (.one G.r)));have as:=bk.same R;have L:=R _ _ be;have a4:=R _ _ b6;have a7:=R _ _ ce;have a6:=R _ _ cc;have av:=co.same R;have ci:=cg.same R;generalize upd Y B (.tup [.str I,.ref al,a9])=H13 at R bo as L a4 a7 a6 av ci|-;have ah:fk K (upd H13 lf (.lst (us++[.ref B]))) fe d S kl nm (wU dl) bu:=as.other scB hB.2 L _;have bz:Kt H13 (upd H13 lf (.lst (us++[.ref B]))):=Kt.lst L _;have c7:dZ [S.lg,S.ld,lo,lf] fe H (upd H13 lf (.lst (us++[.ref B]))):=ci.upd (by simp) nlf L;have bc:upd H13 lf (.lst (us++[.ref B])) lf=some (.lst (us++[.ref B])):=af;have b5:upd H13 lf (.lst (us++[.ref B])) lo=some (.lst ((qA o0 c').map V.int)):=by rw[au nol];exact a4
   have dt:upd H13 lf (.lst (us++[.ref B])) ln0=some (.lst (xs.map V.str)):=by rw[au n0.2.2.2.2];exact a7
   have ds:upd H13 lf (.lst (us++[.ref B])) p9=some (.lst o):=by rw[au cr];exact a6
   have cp:=(av.kt bz).snoc (bo.kt bz);have du:=ah.get (wO S);have(dv,c5,bm):=ah.ld;have cx:=bm.length;rw[bM]at cx;have ed:(wU dl).length=i:=by unfold wU;rw[bM,u.li]
   have dn:dv.length<mH:=bq ();ext;intro an a1;have Q:=ae a1 (.tup [.str I,.int o.length])
   have bn:Rp K (upd (upd H13 lf (.lst (us++[.ref B]))) an (.tup [.str I,.int o.length])) (DH (I,W.length)) (.ref an):=by
    rw[az];exact Rp.new (K:=K) (xs:=[.s I,.i (W.length:Nat)]) a1 (.cons .s (.one .i))
   have ag:=ah.same Q;have M:=Q _ _ c5;have aj:=bm.same Q;have ch:=c7.same Q;have a3:=Q _ _ b5;have am:=Q _ _ bc;have aw:=cp.same Q;generalize upd (upd H13 lf (.lst (us++[.ref B]))) an (.tup [.str I,.int o.length])=H15 at Q bn ag M aj ch a3 am aw|-
   have ao:I∉(wU dl).map (·.1):=λz=>by
    have e:(wU dl).map (·.1)=(xs.drop 21).take i:=by unfold wU;rw[NZ];exact u.g.nm
    rw[e]at z;have(jj,aq):=NR z;rw[QJ]at aq
    split at aq
    .have:=nZ un 21 i jj I xi aq;omega
    .cases aq
   have bi:=ag.uB M aj nld bn ao () () ad;have cz:Kt H15 (upd H15 S.ld (.lst (dv++[.ref an]))):=Kt.lst M _;ext;refine LL.mk (dl:=dl++[(I,W,Z)]) (us:=us++[.ref B]) (c:=c') (m:=bu) ?_ (ch.upd (by simp) ag.nf.2.2.1 M) (by rw[au n2];exact a3) (by rw[au n4];exact am) ?_ (u.g.snoc (nZ un 21) xi g8 gg.gd) (by rw[i4,u.li];rfl) bh ?_ (λdd hdd=>(M7.mp hdd).elim (u.dw dd) (λz=>by rw[IF.mp z];exact#[ad,w8]))
   .have e:wU (dl++[(I,W,Z)])=wU dl++[(I,W.length)]:=by unfold wU;rw[lj];rfl
    rw[e];exact bi
   .rw[lj];exact aw.kt cz
   .intro dd hdd;rcases M7.mp hdd with hdd|hdd
    .exact u.dd dd hdd
    .rw[IF.mp hdd];exact#[gg.wn,gg.ta,gg.sz,gg.dp,by show W.length<=3;omega]
 .rintro σ H3 ⟨dl,us,c,m,_,_,_,_,rfl,u⟩;have cn:=rk.kt u.fr.kt
  have ar:H3 ln0=some (.lst (xs.map V.str)):=u.fr.oth _ _ (λz=>by
   simp only[M8,Nv,or_false]at z;rcases z with z|z|z|z
   .exact n0.2.1 z
   .exact n0.2.2.1 z
   .exact n0.2.2.2.1 z
   .exact n0.2.2.2.2 z) n0.1 h0
  have b9:=u.hf;ext;refine .inl #[bQ.of b9,λp4 b2=>?_];have s4:=ae b2 (.tup us);have r4:=Rp.new (K:=K) b2 u.r;generalize upd H3 p4 (.tup us)=H4 at s4 r4|-;ext;intro p5 b1;have s5:=ae b1 (.tup [kv,.ref p4]);have r5:=Rp.new (K:=K) (xs:=[.t (kl.map gZ),.t (dl.map jm)]) b1 (.cons (cn.same s4) (.one r4));generalize upd H4 p5 (.tup [kv,.ref p4])=H5 at s5 r5|-;ext;intro p6 c2;have s6:=ae c2 (.tup [.ref p5,.ref ln0]);have bl:=(s4.trans s5).trans s6;exact k p6 (.ref p5) _ dl (u.fr.same bl) (bl _ _ ar) (cH.of af) (r5.same s6) #[sc.kk.l3,wk,by rw[u.li];omega,by rw[u.li];omega,u.dd,u.dw] (u.g.none hkn)
theorem uo (x:Str)(h:(x.cps.toList.all λc=>decide (c<1000))=true):Lo x:=λc d=>of_decide_eq_true (NO.mp h c d)
theorem IX :Wo "?":=#[by decide,uo _ (by decide)]
theorem yx :Wo "match":=#[by decide,uo _ (by decide)]
theorem rZ :∀{l a:List Str}{x:Str},cJ a l=some x->x∈l
 |y::r,a,x,h=>by
  have h:(if y∈a then some y else cJ (a++[y]) r)=some x:=h
  by_cases c:y∈a
  .rw[if_pos c]at h;cases h;exact .head _
  .rw[if_neg c]at h;exact .tail _ (rZ h)
theorem Gi (w:yF k)(h:iC ah k=some n):Wo n:=by
 unfold iC at h
 cases e:k.core with
 |num=>rw[e]at h;cases h
 |row j=>rw[e]at h;cases h
 |op m=>rw[e]at h;cases h;exact IX
 |kd x =>
  rw[e]at h;have h:(if x∈ah then none else some x)=some n:=h
  by_cases c:x∈ah
  .rw[if_pos c]at h;cases h
  .rw[if_neg c]at h;obtain rfl:=Ng h;exact w _ e
theorem yy :∀{ks:List Kk}{n:Str},(∀k∈ks,yF k)->fR (iC ah) ks=some n->Wo n
 |k::r,n,w,h=>by
  unfold fR at h
  cases e:iC ah k with
  |some m=>rw[e]at h;cases h;exact Gi (w k (.head _)) e
  |none=>rw[e]at h;exact yy (λx d=>w x (.tail _ d)) h
theorem AG :∀{l:List (Str×List Kk)}{ta:List Str}{f:Flt},(∀t∈l,Wo t.1/\∀c∈t.2,yF c)->(∀x∈ta,Wo x)->gi ah ta l=some f->Wo f.2
 |t::r,ta,f,w,wt,h=>by
  unfold gi at h;have d:∀x∈ta++[t.1],Wo x:=λx g=>(M7.mp g).elim (wt x) (λz=>by rw[IF.mp z];exact(w t (.head _)).1)
  cases e:cJ [] (ta++[t.1])with
  |some x=>rw[e]at h;cases h;exact d x (rZ e)
  |none =>
   rw[e]at h;dsimp only at h
   cases e2:fR (iC ah) t.2 with
   |some n=>rw[e2]at h;cases h;exact yy (w t (.head _)).2 e2
   |none=>rw[e2]at h;exact AG (λx g=>w x (.tail _ g)) d h
theorem yz :∀{kl:Kl}{ah ta:List Str}{f:Flt},(∀k∈kl,Ef k)->(∀x∈ah,Wo x)->(∀x∈ta,Wo x)->cQ ah ta kl=some f->Wo f.2
 |k::r,ah,ta,f,w,wa,wt,h=>by
  unfold cQ at h;have wk:=w k (.head _);have d:∀x∈ah++[k.1],Wo x:=λx g=>(M7.mp g).elim (wa x) (λz=>by rw[IF.mp z];exact wk.2.2.2.1);have l:∀x∈ta++k.2.map (·.1),Wo x:=λx g=>(M7.mp g).elim (wt x) (λz=>by have(t,m,rfl):=ND.mp z;exact(wk.2.2.2.2 t m).1)
  cases e:cJ [] (ah++[k.1])with
  |some x=>rw[e]at h;cases h;exact d x (rZ e)
  |none =>
   rw[e]at h;dsimp only at h
   cases e2:gi ah ta k.2 with
   |some n=>rw[e2]at h;cases h;exact AG wk.2.2.2.2 wt e2
   |none=>rw[e2]at h;exact yz (λx g=>w x (.tail _ g)) d l h
theorem DU (w:yF k)(h:fM g d k=.error f):Wo f.2:=by
 unfold fM at h
 cases e:k.core with
 |num=>rw[e]at h;cases h
 |row j=>rw[e]at h;cases h
 |op m =>
  rw[e]at h;have h:(if m∈d then Except.error (Er.tw,("?":Str))else Except.ok (d++[m]))=.error f:=h
  by_cases c:m∈d
  .rw[if_pos c]at h;cases h;exact IX
  .rw[if_neg c]at h;cases h
 |kd x =>
  rw[e]at h;have h:(if x∈g then Except.ok d else Except.error (Er.nn,x))=.error f:=h
  by_cases c:x∈g
  .rw[if_pos c]at h;cases h
  .rw[if_neg c]at h;cases h;exact w x e
theorem vC :∀{ps:List (Str×Kk)}{ah:List Str}{d:List Int}{f:Flt},(∀p∈ps,Wo p.1/\yF p.2)->cY l ah d ps=.error f->Wo f.2
 | [],_,_,_,_,h=>by cases h
 |p::r,ah,d,f,w,h=>by
  have h:(if p.1∈ah then Except.error (Er.tw,p.1)else match fM l d p.2 with
   |.error f=>.error f
   |.ok os'=>cY l (ah++[p.1]) os' r)=.error f:=h
  by_cases c:p.1∈ah
  .rw[if_pos c]at h;cases h;exact(w p (.head _)).1
  .rw[if_neg c]at h
   cases e:fM l d p.2 with
   |error g=>rw[e]at h;cases h;exact DU (w p (.head _)).2 e
   |ok os'=>rw[e]at h;exact vC (λx m=>w x (.tail _ m)) h
theorem Gj (w:∀a∈arms,Wo a.1/\∀x∈a.2,Wo x)(h:gx kl arms=some f):Wo f.2:=by
 cases arms with
 |nil=>cases h;exact yx
 |cons a r =>
  unfold gx at h;dsimp only at h
  split at h
  .next b d=>cases h;exact(w b (PC d)).1
  .split at h
   .have(b,d,e):=List.exists_of_findSome?_eq_some h;unfold jA at e
    split at e
    .cases e;exact(w b d).1
    .split at e
     .cases q:cJ [] b.2 with
      |none=>rw[q]at e;cases e
      |some x=>rw[q]at e;cases e;exact(w b d).2 x (rZ q)
     .cases e;exact(w b d).1
   .cases h;exact yx
theorem Gk (w:HW h)(e:eO kl ds gs ns h n=.error f):Wo f.2:=by
 cases h with
 |name x =>
  have e:(if x∈ns then Except.ok gs else .error (Er.nn,x))=.error f:=e
  by_cases c:x∈ns
  .rw[if_pos c]at e;cases e
  .rw[if_neg c]at e;cases e;exact w
 |tag t =>
  have e:(match jK kl t with
   |none=>Except.error (Er.nn,t)
   |some y=>if n=y.2.2.length then Except.ok gs else .error (.wr,t))=.error f:=e
  split at e
  .cases e;exact w
  .split at e
   .cases e
   .cases e;exact w
 |call t =>
  have e:(match ds.find? (λd=>decide (d.1=t))with
   |none=>Except.error (Er.nn,t)
   |some y=>if n=y.2 then Except.ok gs else .error (.wr,t))=.error f:=e
  split at e
  .cases e;exact w
  .split at e
   .cases e
   .cases e;exact w
 |mat arms =>
  have e:(match gx kl arms with
   |some f=>Except.error f
   |none=>Except.ok gs)=.error f:=e
  cases q:gx kl arms with
  |none=>rw[q]at e;cases e
  |some g=>rw[q]at e;cases e;exact Gj w q
 |fold x y =>
  have e:(if x=y then .error (Er.tw,x)else Except.ok gs)=.error f:=e
  by_cases c:x=y
  .rw[if_pos c]at e;cases e;exact w
  .rw[if_neg c]at e;cases e
 |gap m =>
  have e:(if m∈gs then .error (Er.tw,("?":Str))else Except.ok (gs++[m]))=.error f:=e
  by_cases c:m∈gs
  .rw[if_pos c]at e;cases e;exact IX
  .rw[if_neg c]at e;cases e
 |num _=>cases e
 |op _=>cases e
 |row=>cases e
 |more=>cases e
 |first=>cases e
 |others=>cases e
 |long=>cases e
 |ife=>cases e
 |lt _=>cases e
theorem Kz :Ta d->∀{gs:List Int}{ns:List Str}{f:Flt},uE kl ds gs ns d=.error f->Wo f.2:=by
 refine Tm.induct (P:=λd=>Ta d->∀{gs:List Int}{ns:List Str}{f:Flt},uE kl ds gs ns d=.error f->Wo f.2) (λh ks p t gs ns f e=>?_) d
 cases t with
 |mk _ w wk =>
 rw[uc]at e
 cases q:eO kl ds gs ns h ks.length with
 |error g=>rw[q]at e;cases e;exact Gk w q
 |ok gs' =>
  rw[q]at e
  have m:∀(l:List Tm),(∀k∈l,k∈ks)->∀(bs:List (List Str)) (gs:List Int),jG kl ds gs ns bs l=.error f->Wo f.2:=by
   intro l
   induction l with
   |nil=>intro _ bs gs e;rw[j6]at e;cases e
   |cons k r ihl =>
    intro o bs gs e
    cases bs with
    |nil=>unfold jG at e;cases e
    |cons b bs =>
     rw[jo]at e
     cases q2:uE kl ds gs (ns++b) k with
     |error g=>rw[q2]at e;cases e;exact p k (o k (.head _)) (wk k (o k (.head _))) q2
     |ok g'=>rw[q2]at e;exact ihl (λx u=>o x (.tail _ u)) bs g' e
  exact m ks (λ_ h=>h) _ gs' e
theorem AH :∀{dl:List Df}{ds:List (Str×Nat)}{gs l:List Int}{f:Flt},(∀d∈dl,GY d/\Ta d.2.2)->jC kl ds gs l dl=some f->Wo f.2
 | [],_,_,_,_,_,h=>by cases h
 |d::r,ds,gs,l,f,w,h=>by
  rw[vB]at h;have((p,o),m):=w d (.head _)
  by_cases c:d.1∈ds.map (·.1)
  .rw[if_pos c]at h;cases h;exact p
  .rw[if_neg c]at h
   cases e:cY (kl.map (·.1)) [] l d.2.1 with
   |error g=>rw[e]at h;cases h;exact vC o e
   |ok os' =>
    rw[e]at h;unfold oO at h;dsimp only at h
    cases e2:uE kl ds gs (d.2.1.map (·.1)) d.2.2 with
    |error g=>rw[e2]at h;cases h;exact Kz m e2
    |ok gs'=>rw[e2]at h;exact AH (λx q=>w x (.tail _ q)) h
theorem Gm (b:yG z dp kl dl)(h:cy kl dl=some f):Wo f.2:=by
 unfold cy at h
 cases e:cQ [] [] kl with
 |some g=>rw[e]at h;cases h;exact yz (ah:=[]) (ta:=[]) b.kt (λ_ h=>nomatch h) (λ_ h=>nomatch h) e
 |none=>rw[e]at h;exact AH (λd hd=>#[b.dw d hd,(b.dd d hd).2.1]) h
theorem yG.L6 (b:yG z dp kl dl):wY kl:=#[by have:=b.k3;omega,λk d=>#[by have:=(b.kt k d).2.1;omega,λt e=>by have:=(b.kt k d).2.2.1 t e;omega]]
theorem yG.L7 (b:yG z dp kl dl)(l:z<=80)(hn:dp<n):K0 n dl:=#[by have:=b.d3;omega,λd hd=>by
 have(a,c,e,g,i):=b.dd d hd;exact#[#[a,c,(),()],()]]
end G14
namespace L2
open PySem
end L2
namespace HT
open PySem PyProof.Rows
section
open PySem.SeqAt
open PySem.AutoSeq1 (wpAny_loadPart')
open PySem.MeetsSeq PySem.MeetsSeq2 PySem.MeetsSeq3
end
end HT
namespace L2
open PySem PySem.Spec PyProof.Rows
theorem yC {d:Pos}{C B z y v o m l g e:Expr}{t1 t2 t3 t4 t5 u t r q p:TE}(R:PE X C t1)(J:PE X o u)(Q:PE X B t2)(I:PE X m t)(O:PE X z t3)(H:PE X l r)(M:PE X y t4)(G:PE X g q)(L:PE X v t5)(D:PE X e p):
  PE X (.Dict [some C,some B,some z,some y,some v] [o,m,l,g,e] d) (GI [(t1,u),(t2,t),(t3,r),(t4,q),(t5,p)]) :=
 ED (mY R J (mY Q I (mY O H (mY M G (mY L D EC))))) rfl rfl (List.cons_ne_nil _ _) (by show 5<=15;decide)
end L2
namespace G14
open PySem L2
structure Gn(K:bN) (H:Hp) (f d:Addr) (S:Sn) (kl:Kl) (nm:List Str):Prop where
 sd:H d=some (.dK (zw S))
 kd:Rp K H (.t (kl.map gZ)) (.ref S.kd)
 ln:H S.ln=some (.lst (nm.map V.str))
 l6:nm.length=6
 un:Un nm
 ld:H S.ld=some (.lst [])
 lg:H S.lg=some (.lst [])
 f0:0<=S.f0/\S.f0<100
 ff:cP H f
 nf:d≠f/\S.ln≠f/\S.ld≠f/\S.lg≠f/\S.lt≠f
 ng:S.ln≠S.lg/\S.ld≠S.lg/\S.lt≠S.lg
 nt:d≠S.lt/\S.ln≠S.lt/\S.ld≠S.lt
 nd:S.ln≠S.ld
 kk:GZ kl
 nw:∀x∈nm,Wo x
theorem Gn.go (s:Gn K H f d S kl e)(fr:dZ [S.lt] f H g):Gn K g f d S kl e :=
 #[fr.jF s.nt.1 s.nf.1 s.sd,s.kd.kt fr.kt,fr.jF s.nt.2.1 s.nf.2.1 s.ln,s.l6,s.un,fr.jF s.nt.2.2 s.nf.2.2.1 s.ld,fr.jF s.ng.2.2.symm s.nf.2.2.2.1 s.lg,s.f0,fr.ff,s.nf,s.ng,s.nt,s.nd,s.kk,s.nw]
theorem Gn.get (s:Gn K H f d S kl g)(e:cX (zw S) (ky y)=some v):cu H d (.str y) (some v):=by
 have h:=cu.k (k:=ky y) s.sd;rw[e]at h;exact h
theorem Gn.fin (s:Gn K H f d S kl e)(h:H S.lt=some (.lst vs))(r:bO K H ((wZ kl).map DH) vs):fk K H f d S kl e [] 0 :=
 #[s.sd,s.kd,s.ln,s.l6,s.un,#[[],s.ld,.nil],#[vs,h,r],s.lg,Nn _,s.f0,s.ff,s.nf,s.ng,s.kk,TH,Nn _,(λ_ h=>nomatch h),s.nw,(λ_ h=>nomatch h)]
structure L8(K:bN) (fe:Addr) (S:Sn) (kl:Kl) (H0:Hp) (i:Nat) (H:Hp) (vs:List V):Prop where
 fr:dZ [S.lt] fe H0 H
 h:H S.lt=some (.lst vs)
 r:bO K H ((wZ (kl.take i)).map DH) vs
theorem Gp {P:I0}{w:Ni}{K:bN}{mg:Str->Option eF}{base:Heap}{gT gN gA:Addr}{tfd nfd afd:M5}{n j:Nat}(hn:6<n)(hj:2<=j){f:Addr}{cdv:eF}{A:Nq}{outer:List OE}{s:fy}{H1:Hp}{E:XK}(TK:eL P w K mg base "_law_take" 1 U6 cD gT tfd)(aw:eL P w K mg base "_law_named_kind" 2 Vk (lY K) gA afd)(av:eL P w K mg base "_law_named" j U5 (fB K n) gN nfd)(J:mg "len"=none)(z_range:mg "range"=none)(m:mg "tuple"=none)(hr:dj j (A.deeper (Nj "_law_named_program" (ak aQ) s.heap.objs.size f cdv))){D:L2.Ends}{H:Hp}{fe d ln0:Addr}{room:Int}{S:Sn}{kl:Kl}{nm xs:List Str}{kv:V}{o5 o6 o7 o8 o9 o10 o11:Option V}(sc:fk K H fe d S kl nm [] 0)(un:Un xs)(lx:xs.length=24)(wx:∀x∈xs,Wo x)(wk:∀k∈kl,Ef k)(rm1:1<=room)(rm:room<=40)(rk:Rp K H (.t (kl.map gZ)) kv)(hkn:cQ [] [] kl=none)(h0:H ln0=some (.lst (xs.map V.str)))(n0:ln0≠fe/\ln0≠S.lg/\ln0≠S.ld)(nld:S.ln≠S.ld/\S.lt≠S.ld)(k:∀(p:Addr) (pv:V) (W:Hp) (dl:List Df),dZ [S.lg,S.ld] fe H W->W ln0=some (.lst (xs.map V.str))->cH K W p [pv,.ref ln0]->Rp K W (.t [.t (kl.map gZ),.t (dl.map jm)]) pv->yG room.toNat 6 kl dl->cy kl dl=none->D.rt (.ref p) W):
  jb (Zj gy U4 "_law_named_program" (ak aQ) H1).nR ((bg aQ).drop 5) D [some (.ref fe),some (.int room),some (.ref ln0),some kv,some (.ref d),o5,o6,o7,o8,o9,o10,o11] H:=by
 refine d7 ((Z5 (Z4 bD.nd bJ 7 (Zg (ak aQ) U4 VX [] (cz (va aF 3)) (λ_ _ _ _=>(Z9 (2) (Zf (Z3 (i:=0) (show(VX:List Str).Nodup by decide)) (Zt (Z3 (i:=1) (show(VX:List Str).Nodup by decide)))))) (λ_ _ _ _=>(va (show Nm VX _ by left) 0)))) (Z5 (Z4 bD.nd bJ 8 (Zu (Z1 (Z0 TK (dc (va aF 0) (Zd aC))) aA))) (Z5 (sa bD.nd bJ 9 (dF aA)) cO)))) ?_
 right
 right
 have(ka,a2,rfl,ap,aq):=rk.aS;have l3:=sc.kk.l3;ext;refine uY (K:=K) (e:=gZ) (φ:=λk=>[.s k.1]) (λσ=>∃a b,σ=[a,b]) ap aq () (λ_=>i5 _) #[_,_,rfl] ?_ ?_
 .rintro p hp x _ H6 N s6 ⟨_,_,rfl⟩ rx kN;have(xa,x1,x2,rfl,ax,e1,e2):=(show Rp K H6 (.t [.s p.1,.t (p.2.map kK)]) x from rx).t2;obtain rfl:=e1.aJ;ext;exact kN _ _ _ #[#[_,_,rfl],aT.refl _,.one .s]
 intro q H2 az s2 u h2 r2;rw[vX,show(λp:Str×List (Str×List Kk)=>T.s p.1)=T.s ∘ (·.1)from rfl,<-NZ]at r2;obtain rfl:=r2.kY;have O:=sc.same s2;have ar:=O.ff;have G:q≠fe:=bA sc.ff u;have aa:q≠S.lg:=(ay sc.lg u).symm;have(dv,as,_):=sc.ld;have ab:q≠S.ld:=(ay as u).symm;ext;intro C H3 a1 a0 Y;have M:=O.ext Y;ext;intro B g;have Z:=ae g (.lst [.int C])
 have h4:upd H3 B (.lst [.int C]) B=some (.lst ((qA C 1).map V.int)):=by
  rw[af]
  have:qA C 1=[C]:=by
   show [(C+7*((0:Nat):Int)) % 100]=[C]
   congr 1
   omega
  rw[this];rfl
 have ac:B≠fe:=bA M.ff g;have v:=Y.1 _ _ G h2;have U:=Y.1 _ _ n0.1 (s2 _ _ h0);have ad:ln0≠B:=ay U g;have R:q≠B:=ay v g;generalize upd H3 B (.lst [.int C])=H4 at Z h4|-;have am:=M.same Z;ext;intro y l;have s5:=ae l (.lst []);have h5:upd H4 y (.lst []) y=some (.lst []):=af;have ag:y≠fe:=bA am.ff l;have an:B≠y:=ay h4 l;have ao:ln0≠y:=ay (Z _ _ U) l;have ah:q≠y:=ay (Z _ _ v) l;generalize upd H4 y (.lst [])=H5 at s5 h5|-;have Q:=Z.trans s5;have L:Ext fe H2 H5:=Y.same Q;have k5:=(Kt.same s2).trans (L.kt ar);have al:dZ [S.lg,S.ld] fe H H5:=((dZ.refl sc.ff).same s2).ext L;have I:H3 y=none:=Z.free l;ext;refine Gh hn hj TK aw av J z_range m hr M (O.ext L) un lx wx wk rm1 rm (rk.kt k5) #[g,I] hkn (Q _ _ U) #[n0.1,n0.2.1,n0.2.2,ad,ao] (Q _ _ v) #[G,aa,ab,R,ah] (s5 _ _ h4) ac h5 ag an nld λp pv W dl fr hl sq r b e=>k p pv W dl ?_ hl sq r b e;have ai:H B=none:=s2.free (G14.Ext.free Y g);have aj:H y=none:=s2.free (G14.Ext.free Y I);refine#[λb o m1 m2 e=>(al.sub (M':=[S.lg,S.ld,B,y]) (λz hz=>by simp only[M8,Nv,or_false]at hz|-;rcases hz with h|h;exact .inl h;exact .inr (.inl h))|>.trans fr).oth b o (λz=>?_) m2 e,al.kt.trans fr.kt,fr.ff]
 simp only[M8,Nv,or_false]at z;rcases z with z|z|z|z
 .exact m1 (by rw[z];exact .head _)
 .exact m1 (by rw[z];simp)
 .rw[z,ai]at e;cases e
 .rw[z,aj]at e;cases e
theorem Gq {P:I0}{w:Ni}{K:bN}{mg:Str->Option eF}{base:Heap}{gT gN gA:Addr}{tfd nfd afd:M5}{n j:Nat}(hn:6<n)(hj:2<=j){f:Addr}{cdv:eF}{A:Nq}{outer:List OE}{s:fy}{H1:Hp}{E:XK}(TK:eL P w K mg base "_law_take" 1 U6 cD gT tfd)(al:eL P w K mg base "_law_named_kind" 2 Vk (lY K) gA afd)(aj:eL P w K mg base "_law_named" j U5 (fB K n) gN nfd)(m:mg "len"=none)(z_range:mg "range"=none)(l:mg "tuple"=none)(hr:dj j (A.deeper (Nj "_law_named_program" (ak aQ) s.heap.objs.size f cdv))){D:L2.Ends}{H:Hp}{fe d ln0:Addr}{room:Int}{S:Sn}{kl:Kl}{nm xs:List Str}{kv:V}{o5 Z o7 o8 o9 o10 o11:Option V}(sq:Gn K H fe d S kl nm)(hlt:H S.lt=some (.lst []))(un:Un xs)(lx:xs.length=24)(wx:∀x∈xs,Wo x)(wk:∀k∈kl,Ef k)(rm1:1<=room)(rm:room<=40)(rk:Rp K H (.t (kl.map gZ)) kv)(hkn:cQ [] [] kl=none)(h0:H ln0=some (.lst (xs.map V.str)))(n0:ln0≠fe/\ln0≠S.lg/\ln0≠S.ld/\ln0≠S.lt)(k:∀(p:Addr) (pv:V) (u:Hp) (dl:List Df),dZ [S.lt,S.lg,S.ld] fe H u->u ln0=some (.lst (xs.map V.str))->cH K u p [pv,.ref ln0]->Rp K u (.t [.t (kl.map gZ),.t (dl.map jm)]) pv->yG room.toNat 6 kl dl->cy kl dl=none->D.rt (.ref p) u):
  jb (Zj gy U4 "_law_named_program" (ak aQ) H1).nR ((bg aQ).drop 4) D [some (.ref fe),some (.int room),some (.ref ln0),some kv,some (.ref d),o5,Z,o7,o8,o9,o10,o11] H:=by
 refine d7 ((Z5 (Zh NC (cz (va aF 3)) (Z9 (2) (Zf (ga bD.nd bJ 5) (Zt (ga bD.nd bJ 6)))) (Ze (Zo (@xx _ _ _ _ _ _ _ _ _ _ _ _ P1 SD SE uQ (Zk (va aF 4)) (Z1 (Zg (ak aQ) U4 Vy [] (cz (va aF 6)) (λ_ _ _ _=>(Z9 (2) (Zf (Z3 (i:=0) (show(Vy:List Str).Nodup by decide)) (Zt (Z3 (i:=1) (show(Vy:List Str).Nodup by decide)))))) (λ_ _ _ _=>(Zm (Z1 (va (show Nm Vy _ by left) 0) (Z1 (Z2 (oN K rfl) m Nh (Zd (va (show Nm Vy _ by left) 1))) aA))))) aA) (by rfl) (by rfl) (by rfl) (by rfl) (by rfl))))) cO)) ?_
 right
 right
 refine lS ?_;intro N1 c1;have(ka,aa,rfl,ab,I):=rk.aS;have C:=I.length;rw[bM]at C;have l3:=sq.kk.l3;ext;refine eY (K:=K) (xs:=aa) (λi v M=>∃o5 Z vs,v=[some (.ref fe),some (.int room),some (.ref ln0),some (.ref ka),some (.ref d),o5,Z,o7,o8,o9,o10,o11]/\L8 K fe S kl H i M vs) #[_,_,[],rfl,dZ.refl sq.ff,hlt,.nil] ?_ ?_ ?_
 .rintro i v M hi ⟨_,_,_,_,g⟩;exact ab.kt g.fr.kt
 .rintro i xv v M hxv ⟨_,_,vs,rfl,g⟩;have(t,ht,W):=I.get' hxv;rw[EF]at ht;have(kd,q,rfl):=xn.mp ht;have ah:=(bH.mp q).1;have ai:kl.take (i+1)=kl.take i++[kd]:=by rw[mu ah,(bH.mp q).2]
  have(as,ar,aq):=sq.kk.pt kd (M9 q);have(qa,w1,w2,rfl,Y,q1,q2):=(show Rp K H (.t [.s kd.1,.t (kd.2.map kK)]) xv from W).t2;obtain rfl:=q1.aJ;have(ta,ao,rfl,O,Q):=q2.aS;have k3:=g.fr.kt;have am:=Y.kt k3;have y:=O.kt k3;have B:=Q.kt k3;have T:=sq.go g.fr;have ax:=T.get (AD S);have ag:=g.h;ext;refine uY (K:=K) (e:=kK) (φ:=λt=>[DH (t.1,t.2.length)]) (λv=>∃a b,v=[a,b]) y B () (λ_=>i5 _) #[_,_,rfl] ?_ ?_
  .rintro p hp x _ H6 N s6 ⟨_,_,rfl⟩ W kN;have(xa,x1,x2,rfl,an,e1,e2):=(show Rp K H6 (.t [.s p.1,.t (p.2.map jJ)]) x from W).t2;obtain rfl:=e1.aJ;have(ia,ac,rfl,av,ad):=e2.aS;have G:=ad.length;rw[bM]at G;ext;intro p7 L;have s7:=ae L (.tup [.str p.1,.int ac.length]);exact kN _ _ _ #[#[_,_,rfl],s7,.one (by rw[G];exact Rp.new (K:=K) (xs:=[.s p.1,.i (p.2.length:Nat)]) L (.cons .s (.one .i)))]
  intro l4 H4 o U aw h4 r4;rw[vX]at r4;have J:=U _ _ ag;have lw:=r4.length;rw[bM]at lw;have lv:=g.r.length
  have ap:(wZ (kl.take i)).length<=9:=by
   have:=DG sq.kk
   have e:wZ kl=wZ (kl.take i)++wZ (kl.drop i):=by
    unfold wZ;rw[<-NQ,Rk]
   rw[e,i4]at this;omega
  rw[bM]at lv;have lc:vs.length+o.length<=mH:=small ();have k5:Kt H4 (upd H4 S.lt (.lst (vs++o))):=Kt.lst J _;ext;refine L8.mk (vs:=vs++o) ((g.fr.same U).upd (.head _) sq.nf.2.2.2.2 J) af ?_
  have e:wZ (kl.take (i+1))=wZ (kl.take i)++kd.2.map λt=>(t.1,t.2.length):=by
   rw[ai];unfold wZ;rw[NQ];simp
  rw[e,lj,NZ];exact((g.r.same U).kt k5).append (r4.kt k5)
 .rintro v M ⟨_,_,vs,rfl,g⟩;have r3:=g.r;rw[C,Nl]at r3;refine Cut.go c1 ?_;refine Gp hn hj TK al aj m z_range l hr ((sq.go g.fr).fin g.h r3) un lx wx wk rm1 rm (rk.kt g.fr.kt) hkn (g.fr.jF n0.2.2.2 n0.1 h0) #[n0.1,n0.2.1,n0.2.2.1] #[sq.nd,sq.nt.2.2.symm] λp pv u dl fr hl R r b e=>k p pv u dl ((g.fr.sub ?_).trans (fr.sub ?_)) hl R r b e
  .intro z hz;rw[IF.mp hz];exact .head _
  .intro z hz;exact .tail _ hz
noncomputable def BZ(kd d g e:Addr)(f0:Int):List (Key×V):=[(ky "kinds",.ref kd),(ky "names",.ref d),(ky "defs",.ref g),(ky "gaps",.ref e),(ky "first",.int f0)]
theorem IY (kd d g e:Addr)(f0:Int):oS [] (BZ kd d g e f0)=BZ kd d g e f0:=by kernel_rfl
theorem IZ (kd d g e lt:Addr)(f0:Int):putK (BZ kd d g e f0) (ky "tags") (.ref lt)=zw #[kd,d,g,e,lt,f0]:=by kernel_rfl
theorem DV {P:I0}{w:Ni}{K:bN}{mg:Str->Option eF}{base:Heap}{gT gN gA:Addr}{tfd nfd afd:M5}{n j:Nat}(hn:6<n)(hj:2<=j){f:Addr}{cdv:eF}{A:Nq}{outer:List OE}{s:fy}{H1:Hp}{E:XK}(TK:eL P w K mg base "_law_take" 1 U6 cD gT tfd)(a6:eL P w K mg base "_law_named_kind" 2 Vk (lY K) gA afd)(a5:eL P w K mg base "_law_named" j U5 (fB K n) gN nfd)(T:mg "len"=none)(z_range:mg "range"=none)(B:mg "tuple"=none)(hr:dj j (A.deeper (Nj "_law_named_program" (ak aQ) s.heap.objs.size f cdv))){D:L2.Ends}{H:Hp}{fe ln0:Addr}{room:Int}{kl:Kl}{xs:List Str}{kv:V}{o4 o5 o6 o7 o8 o9 o10 o11:Option V}(hf:cP H fe)(un:Un xs)(lx:xs.length=24)(wx:∀x∈xs,Wo x)(rm1:1<=room)(rm:room<=40)(rk:Rp K H (.t (kl.map gZ)) kv)(ok:BH xs kl)(k3:kl.length<=3)(h0:H ln0=some (.lst (xs.map V.str)))(n0:ln0≠fe)(k:∀(p:Addr) (pv:V) (H':Hp) (dl:List Df),Ext fe H H'->H' ln0=some (.lst (xs.map V.str))->cH K H' p [pv,.ref ln0]->Rp K H' (.t [.t (kl.map gZ),.t (dl.map jm)]) pv->yG room.toNat 6 kl dl->cy kl dl=none->D.rt (.ref p) H'):
  jb (Zj gy U4 "_law_named_program" (ak aQ) H1).nR ((bg aQ).drop 2) D [some (.ref fe),some (.int room),some (.ref ln0),some kv,o4,o5,o6,o7,o8,o9,o10,o11] H:=by
 refine d7 ((Z5 (Z4 bD.nd bJ 4 (@yC _ _ _ _ _ _ _ _ _ _ _ _ _ _ _ _ _ _ _ _ _ _ aH (va aF 3) aH (dY rR (va aF 2) (dm aC) (dm aC)) aH (dF aA) aH (dF aA) aH (Z0 TK (dc (va aF 0) (Zd aC))))) (Z5 (pU (gE hr) (va aF 4) aH (dF aA) (by rfl)) cO))) ?_
 right
 right
 have e3:jv (xs.map V.str) (some 12) (some 18)=((xs.drop 12).take 6).map V.str:=by
  rw[show(some (12:Int))=some ((12:Nat):Int)from rfl,show(some (18:Int))=some ((18:Nat):Int)from rfl,xO _ _ _ (by rw[bM];omega) (),Pk,Rw]
 have(q,a8,rfl,a9,ba):=rk.aS;ext;intro d hd;have G:=ae hd (.dK []);have h1:upd H d (.dK []) d=some (.dK []):=af;have ar:=G _ _ h0;generalize upd H d (.dK [])=H1 at G h1 ar|-;ext;intro m J;rw[e3];have Y:=ae J (.lst (((xs.drop 12).take 6).map V.str));have h2:upd H1 m (.lst (((xs.drop 12).take 6).map V.str)) m=some (.lst (((xs.drop 12).take 6).map V.str)):=af;generalize upd H1 m (.lst (((xs.drop 12).take 6).map V.str))=H2 at Y h2|-;ext;intro l L;have W:=ae L (.lst []);have h3:upd H2 l (.lst []) l=some (.lst []):=af;generalize upd H2 l (.lst [])=H3 at W h3|-;ext;intro g C;have s4:=ae C (.lst []);have h4:upd H3 g (.lst []) g=some (.lst []):=af;generalize upd H3 g (.lst [])=H4 at s4 h4|-;have Z:=((G.trans Y).trans W).trans s4;have bb:=hf.same Z;ext;intro u R a2 a1 x5;have nd:d≠fe:=bA hf hd;have nn:m≠fe:=bA (hf.same G) J;have nl:l≠fe:=bA (hf.same (G.trans Y)) L;have ng:g≠fe:=bA (hf.same ((G.trans Y).trans W)) C;have ap:=x5.1 _ _ nd (s4 _ _ (W _ _ (Y _ _ h1)));have am:=x5.1 _ _ nn (s4 _ _ (W _ _ h2));have an:=x5.1 _ _ nl (s4 _ _ h3);have ao:=x5.1 _ _ ng h4;have aq:=x5.1 _ _ n0 (Z _ _ h0);have av:Ext fe H R:=((Ext.refl hf).same Z).trans x5;have a7:=rk.kt (av.kt hf);have m1:m≠l:=ay h2 L;have m2:m≠g:=ay (W _ _ h2) C;have m3:l≠g:=ay h3 C;have z1:H m=none:=G.free J;have z2:H l=none:=(G.trans Y).free L;have z3:H g=none:=((G.trans Y).trans W).free C;have bc:ln0≠m:=ay ar J;have a4:ln0≠l:=ay h0 z2;have a3:ln0≠g:=ay h0 z3;ext
 .exact(show _=(BZ q m l g u).map (λkv=>(kV kv.1,kv.2))from rfl)
 refine#[by show 5<=15;decide,?_];rw[IY];have y:∀{b:Addr}{us:List V},R b=some (.lst us)->b≠d:=λe=>jt e ap nofun
 have Q:dZ [] fe H (upd R d (.dK (BZ q m l g u))):=(Ext.sY hf av).GL hd nd ap;have aj:upd R d (.dK (BZ q m l g u)) d=some (.dK (BZ q m l g u)):=af;have ag:upd R d (.dK (BZ q m l g u)) m=some (.lst (((xs.drop 12).take 6).map V.str)):=by rw[au (y am)];exact am
 have ah:upd R d (.dK (BZ q m l g u)) l=some (.lst []):=by rw[au (y an)];exact an
 have ai:upd R d (.dK (BZ q m l g u)) g=some (.lst []):=by rw[au (y ao)];exact ao
 have al:upd R d (.dK (BZ q m l g u)) ln0=some (.lst (xs.map V.str)):=by rw[au (y aq)];exact aq
 generalize upd R d (.dK (BZ q m l g u))=H6 at Q aj ag ah ai al|-;ext;intro lt o;have U:=ae o (.lst []);have h7:upd H6 lt (.lst []) lt=some (.lst []):=af;have M:=U _ _ aj;have q1:d≠lt:=ay aj o;have q2:m≠lt:=ay ag o;have q3:l≠lt:=ay ah o;have q4:g≠lt:=ay ai o;have q5:ln0≠lt:=ay al o;have q6:lt≠fe:=bA Q.ff o;have z4:H lt=none:=Q.free o nofun
 have as:=Q.same U;have aa:=U _ _ ag;have ab:=U _ _ ah;have ac:=U _ _ ai;have ad:=U _ _ al;generalize upd H6 lt (.lst [])=H7 at U h7 M as aa ab ac ad|-;have dp:=om.k (k:=ky "tags") (v:=.ref lt) M (by show 5<mH;decide);rw[IZ]at dp;have I:∀{b:Addr}{us:List V},H7 b=some (.lst us)->b≠d:=λe=>jt e M nofun
 have O:dZ [] fe H (upd H7 d (.dK (zw #[q,m,l,g,lt,u]))):=as.GL hd nd M;have aw:Un ((xs.drop 12).take 6):=n9 (nZ un 12) 6;have l6:((xs.drop 12).take 6).length=6:=by rw[L1,NW];omega
 have sq:Gn K (upd H7 d (.dK (zw #[q,m,l,g,lt,u]))) fe d #[q,m,l,g,lt,u] kl ((xs.drop 12).take 6):=#[af,rk.kt O.kt,by show upd _ _ _ m=_;rw[au (I aa)];exact aa,l6,aw,by show upd _ _ _ l=_;rw[au (I ab)];exact ab,by show upd _ _ _ g=_;rw[au (I ac)];exact ac,#[a2,a1],O.ff,#[nd,nn,nl,ng,q6],#[m2,m3,q4.symm],#[q1,q2,q3],m1,zA un ok k3 wx,λx hx=>wx x (OQ (N9 hx))];have az:upd H7 d (.dK (zw #[q,m,l,g,lt,u])) lt=some (.lst []):=by rw[au q1.symm];exact h7
 have a0:upd H7 d (.dK (zw #[q,m,l,g,lt,u])) ln0=some (.lst (xs.map V.str)):=by rw[au (I ad)];exact ad
 ext;refine Gq (S:=#[q,m,l,g,lt,u]) hn hj TK a6 a5 T z_range B hr sq az un lx wx (um ok wx) rm1 rm (rk.kt O.kt) (DS un ok) a0 #[n0,a3,a4,q5] λp pv H' dl fr hl ax r b e=>k p pv H' dl ?_ hl ax r b e;have ft:=(O.sub (M':=[lt,g,l]) (λz hz=>nomatch hz)).trans fr
 exact((ft.drop z4).drop z3).drop z2|>.ex
theorem DW (hn:6<n)(hj:3<=j)(F:jr K "_law_named_program" "_law_named_program" aQ f J)(TK:eL P w K mg base "_law_take" 1 U6 cD gT tfd)(NM:eL P w K mg base "_law_names" 2 U6 Au gM mfd)(z:eL P w K mg base "_law_heads" 3 VS (Ay K) gH hfd)(y:eL P w K mg base "_law_named_kind" 2 Vk (lY K) gA afd)(v:eL P w K mg base "_law_named" j U5 (fB K n) gN nfd)(l:mg "len"=none)(z_range:mg "range"=none)(d:mg "tuple"=none):cA P w K mg base gy (j+1) f J V0 (AF K):=by
 refine F.ok bD (λM H Q E h=>?_) (λcdv A outer s H M Q E hr h=>?_)
 .have(_,_,rfl,_):=h;rfl
 have(fe,D,rfl,Y,t,R,k):=h;refine#[_,(Z5 (Z4 bD.nd bJ 2 (Z0 NM (dc (va aF 0) (Zd aC)))) (Z5 (Z4 bD.nd bJ 3 (Z0 z (Z1 (va aF 0) (Zd (va aF 2))))) cO)),?_]
 right
 right
 ext;intro o H1 B C g u T I un;have m:B.length=24:=T;have W:=C.2;have G:o≠fe:=bA Y g;ext;intro kv H2 U q ok V S;ext;exact DV hn () TK y v l z_range d hr q.2 un m I t R S ok V (q.1 _ _ G u) G λp pv H' dl L Z O r b e=>k p o pv H' U dl B ((C.trans q).trans L) g Z m I O r b e
def se(K:bN):Sp:=λg H Q _=>∃(f:Addr) (e:Str),g=[.ref f,.str e]/\cP H f/\Wo e/\∀(v:V) (d:Hp) (k:Kk),Ext f H d->Rp K d (jJ k) v->yF k->Q v d
def AI(K:bN):Sp:=λm H Q _=>∃(f:Addr) (v:V) (e:Str) (k:Str×List (Str×List Kk)),m=[.ref f,v,.str e]/\cP H f/\Rp K H (gZ k) v/\Ef k/\Wo e/\∀(g:V) (d:Hp) (l:Str×List (Str×List Kk)),Ext f H d->Rp K d (gZ l) g->Ef l->Q g d
theorem bO.I9 (r:bO K H xs us)(d:Rp K H x u)(i:Nat):bO K H (xs.take i++[x]++xs.drop (i+1)) (us.take i++[u]++us.drop (i+1)):=((r.take i).snoc d).append (r.drop (i+1))
theorem eX :Nm VG (ak gU):=by decide
theorem jH :Lm VG (ak gU):=by decide
theorem iB :aZ VG VL (ak gU):=#[rfl,rfl,rfl,by decide,rfl,by decide,by decide]
theorem DX (F:jr K "_law_other_kind" "_law_other_kind" gU f fd)(TK:eL P w K mg base "_law_take" 1 U6 cD gT tfd)(z_range:mg "range"=none):cA P w K mg base gy 2 f fd VL (se K):=by
 refine F.ok iB (λvs H Q E h=>?_) (λcdv A outer s H vs Q E hr h=>?_)
 .have(_,_,rfl,_):=h;rfl
 have(T,l,rfl,hf,aj,k):=h;refine#[_,(Z5 (Z4 iB.nd jH 2 (Zl br (Zu (Z1 (Zm (Z1 aH (Zd (va eX 1)))) (Z1 (Zm (Z1 aH (Z1 (Zl br (Zu (Z1 aC (Z1 aC (dc aC (Zd aC))))) (Z0 TK (dc (va eX 0) (Zd aC)))) aA))) (Zd aH)))) (Z0 TK (dc (va eX 0) (Zd aC))))) (Z5 (Zh NC (Zr (Z1 (Z0 TK (dc (va eX 0) (Zd aC))) aA)) (ga iB.nd jH 3) (Ze (Z4 iB.nd jH 2 (Zm (Z1 aH (Zd (va eX 2))))))) (Ze (cI (va eX 2))))),?_]
 right
 right
 ext;intro e L;have s1:=ae L (.tup [.str "kind",.str l]);have r1:Rp K (upd H e (.tup [.str "kind",.str l])) (jJ (.kd l)) (.ref e):=Rp.new (K:=K) (xs:=[.s "kind",.s l]) L (.cons .s (.one .s));generalize upd H e (.tup [.str "kind",.str l])=H1 at s1 r1|-;ext;intro l2 O;have s2:=ae O (.lst [.int 2,.int 7,.int 90,.int 50]);have h2:upd H1 l2 (.lst [.int 2,.int 7,.int 90,.int 50]) l2=some (.lst [.int 2,.int 7,.int 90,.int 50]):=af;have n2:=bA (hf.same s1) O;have D:=r1.same s2;have S:=hf.same (s1.trans s2);have u:Ext T H (upd H1 l2 (.lst [.int 2,.int 7,.int 90,.int 50])):=(Ext.refl hf).same (s1.trans s2);generalize upd H1 l2 (.lst [.int 2,.int 7,.int 90,.int 50])=H2 at s2 h2 D S u|-;ext;intro r3 H3 ag ad x3;have h3:bQ K H3 l2 [.int 2,.int 7,.int 90,.int 50]:=bQ.of (x3.1 _ _ n2 h2);have(z,hz,G):=oY (xs:=[V.int 2,.int 7,.int 90,.int 50]) (k:=r3) ag ad
 obtain⟨n,rfl⟩:∃n:Int,z=.int n:=by
  simp only[M8,Nv,or_false]at G;rcases G with rfl|rfl|rfl|rfl
  .exact#[_,rfl]
  .exact#[_,rfl]
  .exact#[_,rfl]
  .exact#[_,rfl]
 have t:=u.trans x3;have ah:=D.kt (x3.kt S);ext;intro d J;have Z:=ae J (.tup [.str "open",.int n]);have r4:Rp K (upd H3 d (.tup [.str "open",.int n])) (jJ (.op n)) (.ref d):=Rp.new (K:=K) (xs:=[.s "open",.i n]) J (.cons .s (.one .i));have C:=ah.same Z;generalize upd H3 d (.tup [.str "open",.int n])=H4 at Z r4 C|-;ext;intro o M;have Y:=ae M (.lst [.ref e,.ref d,.str "num"]);have h5:upd H4 o (.lst [.ref e,.ref d,.str "num"]) o=some (.lst [.ref e,.ref d,.str "num"]):=af;have g:Ext T H (upd H4 o (.lst [.ref e,.ref d,.str "num"])):=(t.same Z).same Y;have n5:o≠T:=bA (t.same Z).2 M;have B:=C.same Y;have y:=r4.same Y;generalize upd H4 o (.lst [.ref e,.ref d,.str "num"])=H5 at Y h5 g B y|-;have R:=g.2;ext;intro r6 H6 am al U;have h6:bQ K H6 o [.ref e,.ref d,.str "num"]:=bQ.of (U.1 _ _ n5 h5);have r:=g.trans U;have ak:=r.2
 obtain⟨W,k6,a6,ac,ai⟩:∃W k6,eK [V.ref e,V.ref d,V.str "num"] r6=some W/\Rp K H6 (jJ k6) W/\yF k6:=by
  rcases(show r6=0\/r6=1\/r6=2 by omega)with rfl|rfl|rfl
  .exact#[_,.kd l,aG (j:=0) rfl,B.kt (U.kt R),λx I=>Kk.kd.inj I▸aj]
  .exact#[_,.op n,aG (j:=1) rfl,y.kt (U.kt R),λx I=>nomatch I]
  .exact#[_,.num,aG (j:=2) rfl,.s,λx I=>nomatch I]
 ext;intro m H7 m0 m1 x7;have aa:=r.trans x7;have ab:=ac.kt (x7.kt ak);ext;refine iG (n:=m.toNat) (λi σ H8=>∃v q o3,σ=[some (.ref T),some (.str l),some v,o3]/\(Ext T H H8/\Rp K H8 (jJ q) v/\yF q)) #[W,k6,_,rfl,aa,ab,ai] ?_ ?_
 .rintro i σ H8 hi ⟨v,q,_,rfl,x8,r8,w8⟩;ext;intro p hp;have s9:=ae hp (.tup [.str "row",v]);exact#[_,.row q,_,rfl,x8.same s9,Rp.new (K:=K) hp (.cons .s (.one r8)),w8]
 .rintro σ H8 ⟨v,q,_,rfl,x8,r8,w8⟩;ext;exact k _ _ q x8 r8 w8
theorem aD :Nm Vf (ak bY):=by decide
theorem bE :Lm Vf (ak bY):=by decide
theorem bz :aZ Vf Vp (ak bY):=#[rfl,rfl,rfl,by decide,rfl,by decide,by decide]
theorem Ja {K:bN}{f:Addr}{cdv:eF}{A:Nq}{outer:List OE}{s:fy}{H1:Hp}{E:XK}(hr:dj 2 (A.deeper (Nj "_law_other_kind_row" (ak bY) s.heap.objs.size f cdv))){D:L2.Ends}{H:Hp}{fe:Addr}{at_:Nat}{o1 o2 o7 o8:Option V}{nm t':Str}{ta ia:Addr}{ts:List (Str×List Kk)}{ks:List Kk}(hf:cP H fe)(rt:Rp K H (.t (ts.map kK)) (.ref ta))(ri:Rp K H (.t (ks.map jJ)) (.ref ia))(ha:at_<ts.length)(h3:ts.length<=3)(hi:∀t∈ts,t.2.length<=2)(hk:ks.length<=2)(wnm:Wo nm)(wt:Wo t')(wks:∀c∈ks,yF c)(wts:∀t∈ts,Wo t.1/\∀c∈t.2,yF c)(k:∀(Q:V) (O:Hp) (W:Str×List (Str×List Kk)),Ext fe H O->Rp K O (gZ W) Q->Ef W->D.rt Q O):
  jb (Zj gy Vf "_law_other_kind_row" (ak bY) H1).nR ((bg bY).drop 6) D [some (.ref fe),o1,o2,some (.str nm),some (.ref ta),some (.int at_),some (.str t'),some (.ref ia),o7,o8] H:=by
 refine d7 ((Ze (Zv (Zm (Z1 (va aD 3) (Z1 (Zn jB (Zn jB (@dY _ _ _ _ _ _ _ _ _ _ kB (va aD 4) eZ (dm (va aD 5))) (Zm (Z1 (Zm (Z1 (va aD 6) (Zd (va aD 7)))) aA))) (@dY _ _ _ _ _ _ _ _ _ _ kB (va aD 4) (@dm _ _ _ (bS dS (va aD 5) aC)) eZ)) aA)))))) ?_
 right
 right
 have(_,g,e,y,l):=rt.aS
 cases e
 have J:=l.length;rw[bM]at J;ext;intro p2 Z v Y;rw[iL]at Y;have G:=ri.same v;ext;intro d r;have B:=ae r (.tup [.str t',.ref ia]);have r3:Rp K (upd Z d (.tup [.str t',.ref ia])) (kK (t',ks)) (.ref d):=Rp.new (K:=K) (xs:=[.s t',.t (ks.map jJ)]) r (.cons .s (.one G));generalize upd Z d (.tup [.str t',.ref ia])=H3 at B r3|-;ext;intro I L;have u:=ae L (.tup [.ref d]);have h4:cH K (upd H3 I (.tup [.ref d])) I [.ref d]:=cH.of af;have p:=r3.same u;have M:=(Y.same B).same u;generalize upd H3 I (.tup [.ref d])=H4 at u h4 p M|-;have l4:(g.take at_).length+[V.ref d].length<=mH:=small (by rw[L1];show _+1<=_;omega);ext;intro p5 H5 T h5;have o:=(B.trans u).trans T;have R:=(y.same v).same o;have ec:jv g (some ((at_:Int)+1)) none=g.drop (at_+1):=by rw[show(at_:Int)+1=((at_+1:Nat):Int) by omega,qL]
 ext;intro p6 H6 z h6;rw[ec]at h6;have aa:=h5.same z;have l6:(g.take at_++[V.ref d]).length+(g.drop (at_+1)).length<=mH:=small (by rw[i4,L1,NW];show _+1+_<=_;omega);ext;intro U H7 S h7;have m:=(o.trans z).trans S
 have r7:Rp K H7 (.t ((ts.take at_++[(t',ks)]++ts.drop (at_+1)).map kK)) (.ref U):=by
  refine Rp.t h7 ?_;have:=bO.I9 ((l.same v).same m) (p.same ((T.trans z).trans S)) at_;rw[lj,lj,Pk,Rw];exact this
 ext;intro p8 q;have s8:=ae q (.tup [.str nm,.ref U]);have C:=(v.trans m).trans s8;refine k _ _ (nm,ts.take at_++[(t',ks)]++ts.drop (at_+1)) ((Ext.refl hf).same C) (Rp.new (K:=K) (xs:=[.s nm,.t ((ts.take at_++[(t',ks)]++ts.drop (at_+1)).map kK)]) q (.cons .s (.one r7))) #[?_,?_,?_,wnm,?_]
 .show 1<=(ts.take at_++[(t',ks)]++ts.drop (at_+1)).length;rw[i4,i4];show 1<=_+1+_;omega
 .show(ts.take at_++[(t',ks)]++ts.drop (at_+1)).length<=3;rw[i4,i4,L1,NW];show _+1+_<=3;omega
 .intro t ht;rcases M7.mp ht with ht|ht
  .rcases M7.mp ht with ht|ht
   .exact hi t (N9 ht)
   .rw[IF.mp ht];exact hk
  .exact hi t (OQ ht)
 .intro t ht;rcases M7.mp ht with ht|ht
  .rcases M7.mp ht with ht|ht
   .exact wts t (N9 ht)
   .rw[IF.mp ht];exact#[wt,wks]
  .exact wts t (OQ ht)
theorem DY (F:jr K "_law_other_kind_row" "_law_other_kind_row" bY f fd)(TK:eL P w K mg base "_law_take" 1 U6 cD gT tfd)(ah:eL P w K mg base "_law_other_kind" 2 VL (se K) gO ofd)(p:mg "len"=none):cA P w K mg base gy 3 f fd Vp (AI K):=by
 refine F.ok bz (λvs H Q E h=>?_) (λcdv A outer s H vs Q E hr h=>?_)
 .have(_,_,_,_,rfl,_):=h;rfl
 have(fe,v,wd,kd,rfl,B,r,(ao,ab,I,an,d),ad,k):=h;refine#[_,(Z5 (Zq (va aD 1) (Z9 (2) (Zf (ga bz.nd bE 3) (Zt (ga bz.nd bE 4))))) (Z5 (Z4 bz.nd bE 5 (Z0 TK (Z1 (va aD 0) (Z1 (Z2 aL p Nh (Zd (va aD 4))) aA)))) (Z5 (Zq (iI aP (va aD 4) (va aD 5) (λ_ _=>rfl)) (Z9 (2) (Zf (ga bz.nd bE 6) (Zt (ga bz.nd bE 7))))) (Z5 (Z4 bz.nd bE 8 (Z0 TK (dc (va aD 0) (Zd aC)))) (Z5 (Zb (Zp bV (va aD 8) aC) (Ze (Zv (Zm (Z1 (va aD 2) (Zd (va aD 4))))))) (Z5 (@kQ _ _ _ _ _ _ _ _ (Zp bV (va aD 8) aC) (Ze (sa bz.nd bE 6 (va aD 2))) (Ze (@kQ _ _ _ _ _ _ _ _ (Zi mU (Z2 aL p Nh (Zd (va aD 7))) aC (bG _)) (Ze (Z4 bz.nd bE 7 (Zn jB (va aD 7) (Zm (Z1 (Z0 ah (Z1 (va aD 0) (Zd (va aD 2)))) aA))))) (Z5 (Z4 bz.nd bE 9 (Z0 TK (dc (va aD 0) (Zd aC)))) (Ze (Z4 bz.nd bE 7 (Zn jB (Zn jB (@dY _ _ _ _ _ _ _ _ _ _ kB (va aD 7) eZ (dm (va aD 9))) (Zm (Z1 (Z0 ah (Z1 (va aD 0) (Zd (va aD 2)))) aA))) (@dY _ _ _ _ _ _ _ _ _ _ kB (va aD 7) (@dm _ _ _ (bS dS (va aD 9) aC)) eZ)))))))) cO)))))),?_]
 right
 right
 have(ka,w1,w2,rfl,bb,g1,g2):=(show Rp K H (.t [.s kd.1,.t (kd.2.map kK)]) v from r).t2;obtain rfl:=g1.aJ;have(ta,us,rfl,aj,U):=id g2.aS;have al:=U.length;rw[bM]at al;have l0:(0:Int)<(us.length:Int):=()
 have l1:(us.length:Int)<1073741824:=()
 refine xX ?_;intro N1 N2 N3 N4 N5 N6 c1 c2 c3 c4 c5 c6;ext;intro r2 H2 a9 a8 M;obtain⟨m,bg,rfl⟩:∃q:Nat,q<us.length/\r2=q:=#[r2.toNat,(),()];have k2:=M.kt B;have a0:=aj.kt k2;have y:m<kd.2.length:=()
 have(tv,ap,Y):=U.get (i:=m) (x:=kK kd.2[m]) (by rw[EF,my y];rfl);have e:kd.2[m]∈kd.2:=NP y;generalize kd.2[m]=tg at Y e;have av:eK us (m:Int)=some tv:=aG ap;have(ga,u1,u2,rfl,az,q1,q2):=(show Rp K H (.t [.s tg.1,.t (tg.2.map jJ)]) tv from Y).t2;obtain rfl:=q1.aJ;have(ia,l,rfl,C,J):=id q2.aS;have am:=J.length;rw[bM]at am;have ak:=I tg e;have a4:=az.kt k2;have bf:=M.2;have a7:=g2.kt k2
 have fin:∀{H':Hp}{t':Str}{ia:Addr}{ks:List Kk}{o8 o9:Option V},Ext fe H H'->Rp K H' (.t (ks.map jJ)) (.ref ia)->ks.length<=2->Wo t'->(∀c∈ks,yF c)->N6 [some (.ref fe),some (.ref ka),some (.str wd),some (.str kd.1),some (.ref ta),some (.int m),some (.str t'),some (.ref ia),o8,o9] H':=λ{H' t' ia ks o8 o9} x' ri hk wt wks=>by
  refine Cut.go c6 ?_;exact Ja hr x'.2 (g2.kt (x'.kt B)) ri y ab I hk an wt wks d λv' H2 k' M r2 b2=>k v' H2 k' (x'.trans M) r2 b2
 clear c6;ext;intro fm H3 bk bi x3;have g:=M.trans x3;have be:=x3.2;have i3:=q2.kt (g.kt B);have a3:=C.kt (g.kt B);ext;refine cg (λc=>?_) (λc=>?_)
 .ext;intro p4 ag;have s4:=ae ag (.tup [.str wd,.ref ta]);exact k _ _ (wd,kd.2) (g.same s4) (Rp.new (K:=K) (xs:=[.s wd,.t (kd.2.map kK)]) ag (.cons .s (.one (g2.kt (g.kt B))))) #[ao,ab,I,ad,d]
 ext;refine cg (λc=>?_) (λc=>?_)
 .ext;exact fin g i3 ak ad (d tg e).2
 ext;refine cg (λc=>?_) (λc=>?_)
 .have c':(l.length:Int)<2:=of_decide_eq_true c;ext;intro T H4 k4 x4 r4 w4;have o:=g.trans x4;ext;intro p5 ar;have G:=ae ar (.tup [T]);have h5:cH K (upd H4 p5 (.tup [T])) p5 [T]:=cH.of af;have ac:=(C.kt (o.kt B)).same G;have D:=(J.kt (o.kt B)).same G;have aa:=r4.same G;have u:=o.same G;generalize upd H4 p5 (.tup [T])=H5 at G h5 ac D aa u|-;have l5:l.length+[T].length<=mH:=small (by show _+1<=_;omega);ext;intro p6 H6 s6 h6;refine fin (ks:=tg.2++[k4]) (u.same s6) ?_ (by rw[i4];show _+1<=2;omega) (d tg e).1 (λc hc=>(M7.mp hc).elim ((d tg e).2 c) (λz=>by rw[IF.mp z];exact w4));rw[lj];exact Rp.t h6 ((D.same s6).snoc (aa.same s6))
 .ext;intro r4 H4 a6 a5 x4;obtain⟨sp,bc,rfl⟩:∃q:Nat,q<2/\r4=q:=#[r4.toNat,(),()];have o:=g.trans x4;have a2:=C.kt (o.kt B);ext;intro p5 H5 G h5;rw[iL]at h5;have u:=o.same G;have as:=u.2;ext;intro L H6 k6 x6 r6 w6;have ai:=u.trans x6;have ax:=h5.kt (x6.kt as);ext;intro p7 aq;have s7:=ae aq (.tup [L]);have h7:cH K (upd H6 p7 (.tup [L])) p7 [L]:=cH.of af;have aw:=ax.same s7;have Z:=r6.same s7;have S:=ai.same s7;generalize upd H6 p7 (.tup [L])=H7 at s7 h7 aw Z S|-;have l7:(l.take sp).length+[L].length<=mH:=small (by rw[L1];show _+1<=_;omega);ext;intro p8 H8 s8 h8;have R:=S.same s8;have a1:=C.kt (R.kt B);have ec:jv l (some ((sp:Int)+1)) none=l.drop (sp+1):=by rw[show(sp:Int)+1=((sp+1:Nat):Int) by omega,qL]
  ext;intro p9 H9 s9 h9;rw[ec]at h9;have bh:=h8.same s9;have l9:(l.take sp++[L]).length+(l.drop (sp+1)).length<=mH:=small (by rw[i4,L1,NW];show _+1+_<=_;omega);ext;intro ba bl W ay;have O:=(R.same s9).same W;refine fin (ks:=tg.2.take sp++[k6]++tg.2.drop (sp+1)) O ?_ (by rw[i4,i4,L1,NW];show _+1+_<=2;omega) (d tg e).1 (λc hc=>(M7.mp hc).elim (λhc=>(M7.mp hc).elim (λh=>(d tg e).2 c (N9 h)) (λz=>by rw[IF.mp z];exact w6)) (λh=>(d tg e).2 c (OQ h)));rw[lj,lj,Pk,Rw];exact Rp.t ay (bO.I9 (J.kt (O.kt B)) (Z.same ((s8.trans s9).trans W)) sp)
def AJ(K:bN):Sp:=λo H Q _=>∃(f:Addr) (v:V) (l:Str) (d:Df),o=[.ref f,v,.str l]/\cP H f/\Rp K H (jm d) v/\d.2.1.length<=3/\Wo l/\GY d/\∀(m:V) (g:Hp) (e:Df),Ext f H g->Rp K g (jm e) m->e.2.2=d.2.2->e.2.1.length<=3->GY e->Q m g
def D9(Q:VK)(d:Str)(g:Addr)(e:V)(H:Hp):Prop:=∀p,H p=none->Q (.ref p) (upd H p (.tup [.str d,.ref g,e]))
theorem aR :Nm Vc (ak dQ):=by decide
theorem cV :Lm Vc (ak dQ):=by decide
theorem cG :aZ Vc Vp (ak dQ):=#[rfl,rfl,rfl,by decide,rfl,by decide,by decide]
theorem Gr {P:I0}{w:Ni}{K:bN}{mg:Str->Option eF}{base:Heap}{gT gO:Addr}{tfd ofd:M5}{f:Addr}{cdv:eF}{A:Nq}{outer:List OE}{s:fy}{H1:Hp}{E:XK}(TK:eL P w K mg base "_law_take" 1 U6 cD gT tfd)(ay:eL P w K mg base "_law_other_kind" 2 VL (se K) gO ofd)(y:mg "len"=none)(B:mg "int"=none)(hr:dj 2 (A.deeper (Nj "_law_other_head" (ak dQ) s.heap.objs.size f cdv))){D:L2.Ends}{H:Hp}{fe pa:Addr}{fm:Int}{o1 o7 o8 o9 o10:Option V}{wd:Str}{tv:V}{d:Df}(hf:cP H fe)(rp:Rp K H (.t (d.2.1.map wC)) (.ref pa))(rt:Rp K H (enc d.2.2) tv)(l1:0<d.2.1.length)(l3:d.2.1.length<=3)(hwd:Wo wd)(dw:GY d)(k:∀(v':V) (H':Hp) (d':Df),Ext fe H H'->Rp K H' (jm d') v'->d'.2.2=d.2.2->d'.2.1.length<=3->GY d'->D.rt v' H'):
  jb (Zj gy Vc "_law_other_head" (ak dQ) H1).nR ((bg dQ).drop 3) D [some (.ref fe),o1,some (.str wd),some (.str d.1),some (.ref pa),some tv,some (.int fm),o7,o8,o9,o10] H:=by
 refine d7 ((Z5 (Z4 cG.nd cV 7 (Z0 TK (Z1 (va aR 0) (Z1 (Z2 aL y Nh (Zd (va aR 4))) aA)))) (Z5 (Zq (iI aP (va aR 4) (va aR 7) (λ_ _=>rfl)) (Z9 (2) (Zf (ga cG.nd cV 8) (Zt (ga cG.nd cV 9))))) (Z5 (Z4 cG.nd cV 10 (Zl br (Zu (Z1 (Zm (Z1 (va aR 2) (Zd (va aR 9)))) (Z1 (Zm (Z1 (va aR 8) (Z1 (Z0 ay (Z1 (va aR 0) (Zd (va aR 2)))) aA))) aA))) (Z7 iH B OB (Z1 (jq pL (va aR 6) aC (bG _)) aA)))) (Ze (Zv (Zm (Z1 (va aR 3) (Z1 (Zn jB (Zn jB (@dY _ _ _ _ _ _ _ _ _ _ kB (va aR 4) eZ (dm (va aR 7))) (Zm (Zd (va aR 10)))) (@dY _ _ _ _ _ _ _ _ _ _ kB (va aR 4) (@dm _ _ _ (bS dS (va aR 7) aC)) eZ)) (Zd (va aR 5))))))))))) ?_
 right
 right
 have(_,l,e,W,L):=id rp.aS
 cases e
 have am:=L.length;rw[bM]at am;have l0:(0:Int)<(l.length:Int):=()
 have lb:(l.length:Int)<1073741824:=()
 ext;intro r2 H2 a5 a4 x2;obtain⟨g,ba,rfl⟩:∃q:Nat,q<l.length/\r2=q:=#[r2.toNat,(),()];have k2:=x2.kt hf;have a1:=W.kt k2;have v:g<d.2.1.length:=()
 have(xv,an,Q):=L.get (i:=g) (x:=wC d.2.1[g]) (by rw[EF,my v];rfl);have J:=dw.2 d.2.1[g] (NP v);generalize d.2.1[g]=pp at Q J;have av:eK l (g:Int)=some xv:=aG an;have(ga,u1,u2,rfl,ax,q1,q2):=(show Rp K H (.t [.s pp.1,jJ pp.2]) xv from Q).t2;obtain rfl:=q1.aJ;have a3:=ax.kt k2;have al:=q2.kt k2;have a9:=x2.2;ext;intro r aa;have s3:=ae aa (.tup [.str wd,u2]);have r3:Rp K (upd H2 r (.tup [.str wd,u2])) (wC (wd,pp.2)) (.ref r):=Rp.new (K:=K) (xs:=[.s wd,jJ pp.2]) aa (.cons .s (.one al));have I:=x2.same s3;generalize upd H2 r (.tup [.str wd,u2])=H3 at s3 r3 I|-;have aq:=I.2;ext;intro v4 H4 k4 x4 r4 w4;have ai:=r3.kt (x4.kt aq);have ab:=I.trans x4;ext;intro p Z;have s5:=ae Z (.tup [.str pp.1,v4]);have r5:Rp K (upd H4 p (.tup [.str pp.1,v4])) (wC (pp.1,k4)) (.ref p):=Rp.new (K:=K) (xs:=[.s pp.1,jJ k4]) Z (.cons .s (.one r4));have T:=ai.same s5;generalize upd H4 p (.tup [.str pp.1,v4])=H5 at s5 r5 T|-;ext;intro l6 ap;have s6:=ae ap (.lst [.ref r,.ref p]);have h6:bQ K (upd H5 l6 (.lst [.ref r,.ref p])) l6 [.ref r,.ref p]:=bQ.of af;have R:=r5.same s6;have S:=T.same s6;have G:=(ab.same s5).same s6;generalize upd H5 l6 (.lst [.ref r,.ref p])=H6 at s6 h6 R S G|-
 obtain⟨m,fp,bb,ah,ac⟩:∃m fp,eK [V.ref r,V.ref p] (if decide (fm>1)=true then 1 else 0)=some (.ref m)/\Rp K H6 (wC fp) (.ref m)/\Wo fp.1/\yF fp.2:=by
  by_cases c:fm>1
  .rw[if_pos (decide_eq_true c)];exact#[_,_,aG (j:=1) rfl,R,J.1,w4]
  .rw[if_neg (by rw[decide_eq_false c];exact Nk)];exact#[_,_,aG (j:=0) rfl,S,hwd,J.2]
 ext;refine .inr #[_,rfl,?_];have U:=W.kt (G.kt hf);ext;intro p7 H7 s7 h7;rw[iL]at h7;ext;intro p8 ao;have s8:=ae ao (.tup [.ref m]);have h8:cH K (upd H7 p8 (.tup [.ref m])) p8 [.ref m]:=cH.of af;have ar:=h7.same s8;generalize upd H7 p8 (.tup [.ref m])=H8 at s8 h8 ar|-;have l8:(l.take g).length+[V.ref m].length<=mH:=small (by rw[L1];show _+1<=_;omega);ext;intro p9 H9 s9 h9;have M:=(s7.trans s8).trans s9;have a0:=U.same M;have ec:jv l (some ((g:Int)+1)) none=l.drop (g+1):=by rw[show(g:Int)+1=((g+1:Nat):Int) by omega,qL]
 ext;intro a7 bc O aw;rw[ec]at aw;have a2:=h9.same O;have a8:(l.take g++[V.ref m]).length+(l.drop (g+1)).length<=mH:=small (by rw[i4,L1,NW];show _+1+_<=_;omega);ext;intro Y az ag as;have o:=(M.trans O).trans ag;have C:=G.same o
 have aj:Rp K az (.t ((d.2.1.take g++[fp]++d.2.1.drop (g+1)).map wC)) (.ref Y):=by
  refine Rp.t as ?_;rw[lj,lj,Pk,Rw];exact bO.I9 (L.kt (C.kt hf)) (ah.same o) g
 ext;intro a6 u;have ad:=ae u (.tup [.str d.1,.ref Y,tv]);refine k _ _ (d.1,d.2.1.take g++[fp]++d.2.1.drop (g+1),d.2.2) (C.same ad) (Rp.new (K:=K) (xs:=[.s d.1,.t ((d.2.1.take g++[fp]++d.2.1.drop (g+1)).map wC),enc d.2.2]) u (.cons .s (.cons aj (.one (rt.kt (C.kt hf)))))) rfl ?_ #[dw.1,λq hq=>(M7.mp hq).elim (λhq=>(M7.mp hq).elim (λh=>dw.2 q (N9 h)) (λz=>by rw[IF.mp z];exact ac)) (λh=>dw.2 q (OQ h))];show(d.2.1.take g++[fp]++d.2.1.drop (g+1)).length<=3;rw[i4,i4,L1,NW];show _+1+_<=3;omega
theorem DZ (F:jr K "_law_other_head" "_law_other_head" dQ f S)(Y:eL P w K mg base "_law_take" 1 U6 cD gT tfd)(L:eL P w K mg base "_law_other_kind" 2 VL (se K) gO ofd)(e:mg "len"=none)(g:mg "int"=none):cA P w K mg base gy 3 f S Vp (AJ K):=by
 refine F.ok cG (λvs H Q E h=>?_) (λcdv A outer s H vs Q E hr h=>?_)
 .have(_,_,_,_,rfl,_):=h;rfl
 have(fe,v,l,d,rfl,hf,r,l3,q,T,k):=h;refine#[_,(Z5 (Zq (va aR 1) (Z9 (3) (Zf (ga cG.nd cV 3) (Zf (ga cG.nd cV 4) (Zt (ga cG.nd cV 5)))))) (Z5 (Z4 cG.nd cV 6 (Z0 Y (dc (va aR 0) (Zd aC)))) (Z5 (Zb (PW.pt (@pH _ _ _ _ _ _ _ (Zp bV (va aR 6) aC) (@oQ _ _ _ _ (Zi bV (Z2 aL e Nh (Zd (va aR 4))) aC (bG _))))) (Ze (Zv (Zm (Z1 (va aR 2) (Z1 (va aR 4) (Zd (va aR 5)))))))) cO))),?_]
 right
 right
 have(da,w1,w2,y,rfl,ac,g1,J,R):=(show Rp K H (.t [.s d.1,.t (d.2.1.map wC),enc d.2.2]) v from r).t3;obtain rfl:=g1.aJ;have(G,B,rfl,C,D):=id J.aS;have I:=D.length;rw[bM]at I;refine tJ ?_;intro N1 N2 N3 c1 c2 U;ext;intro fm Z ab aa u;have o:=u.kt hf;have M:=C.kt o
 have m:D9 Q l G y Z:=λp O=>by
  have s4:=ae O (.tup [.str l,.ref G,y]);exact k _ _ (l,d.2) (u.same s4) (Rp.new (K:=K) (xs:=[.s l,.t (d.2.1.map wC),enc d.2.2]) O (.cons .s (.cons (J.kt o) (.one (R.kt o))))) rfl l3 #[q,T.2]
 have rest:0<d.2.1.length->N3 [some (.ref fe),some (.ref da),some (.str l),some (.str d.1),some (.ref G),some y,some (.int fm),none,none,none,none] Z:=λl1=>Cut.go U (Gr Y L e g hr u.2 (J.kt o) (R.kt o) l1 l3 q T λv' H' d' x' r' e' l' w'=>k v' H' d' (u.trans x') r' e' l' w');clear U;ext;refine cg (λc=>?_) (λc=>?_)
 .ext;exact m
 ext
 by_cases W:B.length=0
 .rw[show decide (V.int (B.length:Int)=V.int 0)=true by rw[W];rfl];ext;exact m
 .rw[show decide (V.int (B.length:Int)=V.int 0)=false from decide_eq_false λz=>W (by have:=V.int.inj z;omega)];ext;exact rest ()
theorem bO.Jb {K:bN}{H:Hp}{x:T}{u:V}:∀{xs:List T}{us:List V}(_:bO K H xs us) (_:Rp K H x u) (i:Nat),bO K H (xs.set i x) (us.set i u)
 | [],us,r,_,_=>by rw[r.jk];exact .nil
 |y::r,us,h,ru,i=>by
  have(v,d,rfl,g,h):=h.inv
  cases i with
  |zero=>exact .cons ru h
  |succ i=>exact .cons g (bO.Jb h ru i)
theorem aM :Nm U9 (ak fQ):=by decide
theorem fY :Lm U9 (ak fQ):=by decide
theorem eg :aZ U9 VO (ak fQ):=#[rfl,rfl,rfl,by decide,rfl,by decide,by decide]
theorem Jc {K:bN}{mg:Str->Option eF}{f:Addr}{cdv:eF}{A:Nq}{outer:List OE}{s:fy}{C:Hp}{E:XK}(d:mg "tuple"=none)(hr:dj 3 (A.deeper (Nj "_law_changed" (ak fQ) s.heap.objs.size f cdv))){D:L2.Ends}{H:Hp}{lk ld:Addr}{o0 o1 o2 o5 o6 o7 o8 o9 o10 o11:Option V}{kl:Kl}{dl:List Df}{kvs dvs:List V}(hk:H lk=some (.lst kvs))(hd:H ld=some (.lst dvs))(rk:bO K H (kl.map gZ) kvs)(rd0:bO K H (dl.map jm) dvs)(k:∀(v:V) (u:Hp),aT H u->Rp K u (.t [.t (kl.map gZ),.t (dl.map jm)]) v->D.rt v u):
  jb (Zj gy U9 "_law_changed" (ak fQ) C).nR ((bg fQ).drop 5) D [o0,o1,o2,some (.ref lk),some (.ref ld),o5,o6,o7,o8,o9,o10,o11] H:=by
 refine d7 ((Ze (Zv (Zm (Z1 (Z7 cS d NX (Zd (va aM 3))) (Z1 (Z7 cS d NX (Zd (va aM 4))) aA)))))) ?_
 right
 right
 ext;refine .inl #[bQ.of hk,λz o=>?_];have q:=ae o (.tup kvs);have r2:=Rp.new (K:=K) o rk;have p:=q _ _ hd;have e:=rd0.same q;generalize upd H z (.tup kvs)=H2 at q r2 p e|-;ext;refine .inl #[bQ.of p,λy m=>?_];have r:=ae m (.tup dvs);have r3:=Rp.new (K:=K) m e;have g:=r2.same r;generalize upd H2 y (.tup dvs)=H3 at r r3 g|-;ext;intro G l;have B:=ae l (.tup [.ref z,.ref y]);exact k _ _ ((q.trans r).trans B) (Rp.new (K:=K) (xs:=[.t (kl.map gZ),.t (dl.map jm)]) l (.cons g (.one r3)))
def vD(K:bN):Sp:=λu H Q _=>∃(f l:Addr) (v:V) (p:Kl) (r:List Df) (g:List Str) (z q:Nat),u=[.ref f,v,.ref l]/\cP H f/\Rp K H (.t [.t (p.map gZ),.t (r.map jm)]) v/\yG z q p r/\H l=some (.lst (g.map V.str))/\l≠f/\1<=g.length/\g.length<=100/\(∀x∈g,Wo x) /\
 ∀(o:V) (m:Hp) (d:Kl) (e:List Df),Ext f H m->Rp K m (.t [.t (d.map gZ),.t (e.map jm)]) o->yG (z+2) (q+1) d e->Q o m
theorem zC (F:jr K "_law_changed" "_law_changed" fQ f fd)(TK:eL P w K mg base "_law_take" 1 U6 cD gT tfd)(b3:eL P w K mg base "_law_other_kind_row" 3 Vp (AI K) gR rfd)(b4:eL P w K mg base "_law_other_head" 3 Vp (AJ K) gH hfd)(B:mg "len"=none)(G:mg "list"=none)(O:mg "tuple"=none):cA P w K mg base gy 4 f fd VO (vD K):=by
 refine F.ok eg (λvs H Q E h=>?_) (λcdv A outer s H vs Q E hr h=>?_)
 .have(_,_,_,_,_,_,_,_,rfl,_):=h;rfl
 have(fe,lw,v,kl,dl,ws,z,dp,rfl,M,r,S,bq,bl,w1,b5,bf,k):=h;refine#[_,(Z5 (@yJ _ _ (3) (4) _ _ _ _ _ _ _ _ _ _ _ rfl eg.nd rfl rfl (by decide) rfl rfl (Z1 (Z7 iS G OW (Z1 (Z8 aP (va aM 1)) aA)) (Z1 (Z7 iS G OW (Z1 (Z8 aP (va aM 1)) aA)) aA)) (by rfl) (by rfl)) (Z5 (Z4 eg.nd fY 5 (Zl br (va aM 2) (Z0 TK (Z1 (va aM 0) (Z1 (Z2 aL B Nh (Zd (va aM 2))) aA))))) (Z5 (Z4 eg.nd fY 6 (Z0 TK (dc (va aM 0) (Zd aC)))) (Z5 (Z4 eg.nd fY 7 (Z0 TK (Z1 (va aM 0) (Z1 (Z2 aL B Nh (Zd (va aM 4))) aA)))) (Z5 (@kQ _ _ _ _ _ _ _ _ (PW.pt (@gz _ _ _ _ _ _ _ (Zp mU (va aM 6) aC) (@fz _ _ _ _ (Zi pL (Z2 aL B Nh (Zd (va aM 3))) aC (bG _))))) (Z5 (Z4 eg.nd fY 8 (Z0 TK (Z1 (va aM 0) (Z1 (Z2 aL B Nh (Zd (va aM 3))) aA)))) (Ze (Zq (Z0 b3 (Z1 (va aM 0) (Z1 (iI br (va aM 3) (va aM 8) (λ_ _=>rfl)) (Zd (va aM 5))))) (mT (va aM 3) (va aM 8) set_list)))) (Ze (@kQ _ _ _ _ _ _ _ _ (Zp mU (va aM 6) aC) (Ze (Zq (Z0 b4 (Z1 (va aM 0) (Z1 (iI br (va aM 4) (va aM 7) (λ_ _=>rfl)) (Zd (va aM 5))))) (mT (va aM 4) (va aM 7) set_list))) (Z5 (Zq (iI br (va aM 4) (va aM 7) (λ_ _=>rfl)) (Z9 (3) (Zf (ga eg.nd fY 9) (Zf (ga eg.nd fY 10) (Zt (ga eg.nd fY 11)))))) (Ze (Zq (Zm (Z1 (va aM 9) (Z1 (va aM 10) (Z1 (Zm (Z1 aH (Z1 (va aM 5) (Z1 (Zm (Z1 aH (Zd (va aM 5)))) (Zd (va aM 11)))))) aA)))) (mT (va aM 4) (va aM 7) set_list))))))) cO))))),?_]
 right
 right
 have(pa,u1,u2,rfl,bk,g1,g2):=r.t2;have(ka,l,rfl,bm,T):=g1.aS;have(da,m,rfl,b1,ah):=g2.aS;have lk:=T.length;rw[bM]at lk;have ld:=ah.length;rw[bM]at ld;refine tK ?_;intro N1 N2 N3 N4 N5 c1 c2 c3 c4 c5
 have n1:∀{i:Nat},i<l.length->vM l.length (i:Int)=some i:=λ{i} h=>by
  unfold vM;simp;omega
 have cz:nU K true H ka l:=bm;ext;intro u U;have s2:=ae U (.lst l);have aw:upd H u (.lst l) u=some (.lst l):=af;have a0:=bk.same s2;have bc:=b1.same s2;have J:=bA M U;generalize upd H u (.lst l)=H2 at s2 aw a0 bc|-;ext;intro p I;have s3:=ae I (.lst m);have as:upd H2 p (.lst m) p=some (.lst m):=af;have ar:=s3 _ _ aw;have L:=bA (M.same s2) I;have a1:u≠p:=ay aw I;have ac:=s2.trans s3;have bx:=M.same ac;have aj:=ac _ _ bq;generalize upd H2 p (.lst m)=H3 at s3 as ar ac bx aj|-;have b9:(0:Int)<((ws.map V.str).length:Int):=by rw[bM];omega
 have b6:((ws.map V.str).length:Int)<1073741824:=by rw[bM];omega
 ext;intro r4 H4 bi bh x4;have cb:=x4.1 _ _ bl aj;have(v4,cr,bo):=oY (xs:=ws.map V.str) bi bh;have(y,bn,rfl):=ND.mp bo;have a3:=bf y bn;have cx:=x4.2;ext;intro fm H5 c8 c7 x5;have am:=x4.trans x5;have c6:=am.1 _ _ L as;have c0:=am.1 _ _ J ar;have cw:=x5.2;have d1:=S.d1;have d3:=S.d3;have cp:(0:Int)<(m.length:Int):=()
 have co:(m.length:Int)<1073741824:=()
 ext;intro r6 H6 ck cj x6;obtain⟨o,cy,rfl⟩:∃q:Nat,q<m.length/\r6=q:=#[r6.toNat,(),()];have al:=am.trans x6;have ag:=al.1 _ _ L as;have aq:=al.1 _ _ J ar;have cv:=x6.2;have Y:Ext fe H H6:=((Ext.refl M).same ac).trans al;have a2:=Y.kt M;have ca:=T.kt a2;have be:=ah.kt a2;have a7:H u=none:=U;have a8:H p=none:=s2.free I;have k3:=S.k3
 have fin:∀{D:Hp}{kvs' dvs':List V}{kl':Kl}{dl':List Df}{o8 o9 o10 o11:Option V},Ext fe H D->D u=some (.lst kvs')->D p=some (.lst dvs')->bO K D (kl'.map gZ) kvs'->bO K D (dl'.map jm) dvs'->yG (z+2) (dp+1) kl' dl'->N5 [some (.ref fe),some (.ref pa),some (.ref lw),some (.ref u),some (.ref p),some (.str y),some (.int fm),some (.int o),o8,o9,o10,o11] D:=λ{D kvs' dvs' kl' dl' o8 o9 o10 o11} x' h1 h2 r1 r2 b=>by
  refine Cut.go c5 ?_;exact Jc O hr h1 h2 r1 r2 λv' H2 s2 r2=>k v' H2 kl' dl' (x'.same s2) r2 b
 clear c5
 have bnd:∀d∈dl,Wn d.2.2/\Ta d.2.2/\d.2.2.size<=z+2/\d.2.2.depth<=dp+1/\d.2.1.length<=3:=λd hd=>by
  have(a,b,c,e,g):=S.dd d hd;exact#[a,b,(),(),g]
 have ak:o<dl.length:=()
 have ix:vM m.length (o:Int)=some o:=by
  unfold vM;simp;omega
 have uB:∀{D:Hp}{v':V}{d':Df}{o8 o9 o10 o11:Option V},Ext fe H D->D u=some (.lst l)->D p=some (.lst m)->Rp K D (jm d') v'->(Wn d'.2.2/\Ta d'.2.2/\d'.2.2.size<=z+2/\d'.2.2.depth<=dp+1/\d'.2.1.length<=3)->GY d'->N5 [some (.ref fe),some (.ref pa),some (.ref lw),some (.ref u),some (.ref p),some (.str y),some (.int fm),some (.int o),o8,o9,o10,o11] (upd D p (.lst (m.set o v'))):=λ{D v' d' o8 o9 o10 o11} x' h1 h2 r' b bw'=>by
  have k7:Kt D (upd D p (.lst (m.set o v'))):=Kt.lst h2 _;have x7:Ext fe H (upd D p (.lst (m.set o v'))):=((Ext.sY M x':dZ [] fe H D).CC a8 L h2).ex;refine fin (kvs':=l) (dvs':=m.set o v') (kl':=kl) (dl':=dl.set o d') x7 (by rw[au a1];exact h1) af ((T.kt (x'.kt M)).kt k7) ?_ #[k3,S.kt,by rw[RE];exact d1,by rw[RE];exact d3,λd hd=>?_,λd hd=>?_]
  .rw[List.map_set];exact bO.Jb ((ah.kt (x'.kt M)).kt k7) (r'.kt k7) o
  .rcases Qv hd with h|h
   .exact bnd d h
   .rw[h];exact b
  .rcases Qv hd with h|h
   .exact S.dw d h
   .rw[h];exact bw'
 have(dv,bz,az):=be.get (i:=o) (x:=jm dl[o]) (by rw[EF,my ak];rfl);have ao:dl[o]∈dl:=NP ak;generalize dl[o]=d0 at az ao;have(bw,bt,bs,bd,bp):=S.dd d0 ao;have b2:=S.dw d0 ao;have av:eK m (o:Int)=some dv:=aG bz;refine Cut.go c4 ?_;clear c4;refine GP (fm<3/\0<l.length) (λC ct cf=>?_) (λc=>?_) (λc=>?_)
 .ext;refine cg (λc=>?_) (λc=>?_)
  .ext
   by_cases z0:0<l.length
   .rw[show decide ((l.length:Int)>0)=true from decide_eq_true ()];exact ct #[of_decide_eq_true c,z0]
   .rw[show decide ((l.length:Int)>0)=false from decide_eq_false ()];exact cf (λw=>z0 w.2)
  .exact cf (λw=>c (decide_eq_true w.1))
 .have cn:(0:Int)<(l.length:Int):=()
  have cm:(l.length:Int)<1073741824:=()
  ext;intro r7 H7 ci ch x7;obtain⟨sp,cs,rfl⟩:∃q:Nat,q<l.length/\r7=q:=#[r7.toNat,(),()];have an:=Y.trans x7;have bb:=x7.1 _ _ J aq;have b0:=x7.1 _ _ L ag;have ai:sp<kl.length:=()
  have(kv,bu,bg):=(T.kt (an.kt M)).get (i:=sp) (x:=gZ kl[sp]) (by rw[EF,my ai];rfl);have bv:kl[sp]∈kl:=NP ai;have kb:Ef kl[sp]:=S.kt _ bv;generalize kl[sp]=k0 at bg kb;have c9:eK l (sp:Int)=some kv:=aG bu
  have cq:vM l.length (sp:Int)=some sp:=by
   unfold vM;simp;omega
  have cu:=an.2;have cd:bQ K H7 u l:=bQ.of bb;ext;intro v8 H8 k8 x8 r8 b8;have R:=an.trans x8;have ad:=x8.1 _ _ J bb;have ap:=x8.1 _ _ L b0;have k9:Kt H8 (upd H8 u (.lst (l.set sp v8))):=Kt.lst ad _;have x9:Ext fe H (upd H8 u (.lst (l.set sp v8))):=((Ext.sY M R:dZ [] fe H H8).CC a7 J ad).ex;ext;refine fin (kvs':=l.set sp v8) (dvs':=m) (kl':=kl.set sp k8) (dl':=dl) x9 af (by rw[au a1.symm];exact ap) ?_ ((ah.kt (R.kt M)).kt k9) #[by rw[RE];exact k3,λq W=>?_,d1,d3,bnd,S.dw]
  .rw[List.map_set];exact bO.Jb ((T.kt (R.kt M)).kt k9) (r8.kt k9) sp
  .rcases Qv W with h|h
   .exact S.kt q h
   .rw[h];exact b8
 .have ce:bQ K H6 p m:=bQ.of ag;ext;refine cg (λc5=>?_) (λc5=>?_)
  .ext;intro v8 H8 d8 x8 r8 e8 l8 w8;have R:=Y.trans x8;have ad:=x8.1 _ _ J aq;have ap:=x8.1 _ _ L ag;have fd:=uB (o8:=none) (o9:=none) (o10:=none) (o11:=none) R ad ap r8 (by rw[e8];exact#[bw,bt,(),(),l8]) w8;ext;exact fd
  .have(qa,cc,aa,Z,rfl,cl,q1,q2,q3):=(show Rp K H6 (.t [.s d0.1,.t (d0.2.1.map wC),enc d0.2.2]) dv from az).t3;obtain rfl:=q1.aJ;ext;intro p7 a6;have s7:=ae a6 (.tup [.str "name",.str y]);have r7:Rp K (upd H6 p7 (.tup [.str "name",.str y])) (enc (.mk (.name y) [])) (.ref p7):=by rw[cZ];exact Rp.new (K:=K) a6 (.cons .s (.one .s))
   generalize upd H6 p7 (.tup [.str "name",.str y])=H7 at s7 r7|-;ext;intro p8 a5;have s8:=ae a5 (.tup [.str "let",.str y,.ref p7,Z])
   have r8:Rp K (upd H7 p8 (.tup [.str "let",.str y,.ref p7,Z])) (enc (.mk (.lt y) [.mk (.name y) [],d0.2.2])) (.ref p8):=by
    rw[cZ];exact Rp.new (K:=K) a5 (.cons .s (.cons .s (.cons r7 (.one (q3.same s7)))))
   generalize upd H7 p8 (.tup [.str "let",.str y,.ref p7,Z])=H8 at s8 r8|-;ext;intro p9 a4;have s9:=ae a4 (.tup [.str d0.1,aa,.ref p8]);have r9:Rp K (upd H8 p9 (.tup [.str d0.1,aa,.ref p8])) (jm (d0.1,d0.2.1,.mk (.lt y) [.mk (.name y) [],d0.2.2])) (.ref p9):=Rp.new (K:=K) (xs:=[.s d0.1,.t (d0.2.1.map wC),enc (.mk (.lt y) [.mk (.name y) [],d0.2.2])]) a4 (.cons .s (.cons ((q2.same s7).same s8) (.one r8)));have ab:=(s7.trans s8).trans s9;have a9:=ab _ _ aq;have ba:=ab _ _ ag;have ax:=Y.same ab;generalize upd H8 p9 (.tup [.str d0.1,aa,.ref p8])=H9 at s9 r9 ab a9 ba ax|-;have fd:=uB (o8:=none) (o9:=some (.str d0.1)) (o10:=some aa) (o11:=some Z) ax a9 ba r9 #[?_,?_,?_,?_,bp] b2
   .ext;exact fd
   .refine .mk rfl ?_ ?_
    .intro b hb;have hb:b∈[[],[y]]:=hb;simp only[M8,Nv,or_false]at hb;rcases hb with rfl|rfl
     .exact Nn _
     .show 1<=5;decide
    .intro q W;simp only[M8,Nv,or_false]at W;rcases W with rfl|rfl
     .exact .mk rfl (λb hb=>by cases hb) (λ_ h=>nomatch h)
     .exact bw
   .refine .mk (ig λ_ z=>nomatch z) True.intro ?_
    intro q W;simp only[M8,Nv,or_false]at W;rcases W with rfl|rfl
    .exact .mk (ig λ_ z=>nomatch z) a3 (λ_ h=>nomatch h)
    .exact bt
   .show(Tm.mk (.lt y) [.mk (.name y) [],d0.2.2]).size<=z+2;rw[Tm.ik,Tm.eB,Tm.eB,Tm.ik];simp only[Tm.sizes];omega
   .show(Tm.mk (.lt y) [.mk (.name y) [],d0.2.2]).depth<=dp+1;rw[Tm.oW];refine Pq (qS λq W=>?_);simp only[M8,Nv,or_false]at W;rcases W with rfl|rfl
    .rw[Tm.depth];exact Nn _
    .exact bd
def AK(K:bN)(o p cW:Addr):Sp:=λm H Q E=>∃(v:V) (g:Kl) (e:List Df),m=[v]/\Rp K H (.t [.t (g.map gZ),.t (e.map jm)]) v/\wY g/\e.length<=8/\(∀d∈e,Km d) /\
 (∀f,cy g e=some f->TF o p cW E H f)/\(cy g e=none->∀l,aT H l->Q (.bl true) l)
structure Ma(C:Addr) (H:Hp) (o:Addr) (a:qj) (kl:Kl) (dl:List Df) (i:Nat) (ds:List (Str×Nat)) (gs os:List Int) (H2:Hp):Prop where
 k:hU C H o a kl ds gs os H2
 e:cy kl dl=jC kl ds gs os (dl.drop i)
 d:cJ [] (ds.map (·.1))=none
 ld:ds.length<=i
 lg:gs.length<=80*i
 lo:os.length<=10*i
structure M1(C:Addr) (H:Hp) (o:Addr) (a:qj) (kl:Kl) (ds:List (Str×Nat)) (gs gs' os:List Int) (pl:List (List Str×Tm)) (j:Nat) (H1 H2:Hp):Prop where
 k:hU C H o a kl ds gs' os H2
 t:j5 a H1 H2
 e:iN kl ds gs pl=iN kl ds gs' (pl.drop j)
 l:gs'.length<=gs.length+j
theorem bF :Nm Vx (ak iX):=by decide
theorem eu :Lm Vx (ak iX):=by decide
theorem dz :aZ Vx Wa (ak iX):=#[rfl,rfl,rfl,by decide,rfl,by decide,by decide]
theorem BK (F:jr K "look_names" "look_names" iX f fd)(N:Jo K C)(MK:Mk K C gI)(ak:Kh P w K mg base C "__init__" 2 VH (Ac K C) gI ifd)(B:mg "Known"=some (.ref C))(LO:ou P w K mg base "look_once" 3 Wd (qO K cT) gO ofd)(LKS:ou P w K mg base "look_kinds" 4 ["kinds"] (zY K cT cN cW) gK kfd)(LPS:ou P w K mg base "look_params" 4 ["params","known"] (yi K C cT cN cW) gP pfd)(PLC:eL P w K mg base "places" 2 ["params","term"] (ym K) gL lfd)(LTM:ou P w K mg base "look_term" 5 V9 (Ak K C cT cN cW) gTm tfd)(z_list:mg "list"=none)(z_len:mg "len"=none):cA P w K mg base (xS P w) 6 f fd Wa (AK K cT cN cW):=by
 refine F.E8 dz (λvs H Q E h=>?_) (λcdv A outer s H vs Q E hr h=>?_)
 .have(_,_,_,rfl,_):=h;rfl
 have(v,q,M,rfl,r,hB,bz,hD,hE,k):=h;refine#[_,(Z5 (Zq (va bF 0) (Z9 (2) (Zf (ga dz.nd eu 1) (Zt (ga dz.nd eu 2))))) (Z5 (Zo (@eJ _ _ _ _ _ _ _ _ _ _ _ _ _ _ _ _ LKS.ok (hr.mono ()) (by left) LKS.at' LKS.kp LKS.bd .nil jz (Zd (va bF 1)) (by decide) (by rfl) (by rfl))) (Z5 (Z4 dz.nd eu 3 (@Eo _ _ _ _ _ _ _ _ _ _ _ _ _ _ _ _ _ MK ak.ok (hr.mono ()) (by left) B ak.bd .nil kT (bI (va bF 0) aA) (by decide) (by rfl) (by rfl))) (Z5 (Zh (i9 rfl rfl rfl) (cz (va bF 2)) (Z9 (3) (Zf (ga dz.nd eu 4) (Zf (ga dz.nd eu 5) (Zt (ga dz.nd eu 6))))) (Z5 (Zo (@eJ _ _ _ _ _ _ _ _ _ _ _ _ _ _ _ _ LO.ok (hr.mono ()) (by left) LO.at' LO.kp LO.bd .nil jz (Z1 (Zn iT (Z7 (zo rfl) z_list OW (Z1 (jV (va bF 3) rfl) aA)) (Zu (Zd (va bF 4)))) aA) (by decide) (by rfl) (by rfl))) (Z5 (Zo (@eJ _ _ _ _ _ _ _ _ _ _ _ _ _ _ _ _ LPS.ok (hr.mono ()) (by left) LPS.at' LPS.kp LPS.bd .nil jz (Z1 (va bF 5) (Zd (va bF 3))) (by decide) (by rfl) (by rfl))) (Z5 (Zh (i9 rfl rfl rfl) (@lF _ _ _ _ (Z0 PLC (Z1 (va bF 5) (Zd (va bF 6))))) (Z9 (2) (Zf (ga dz.nd eu 7) (Zt (ga dz.nd eu 8)))) (Ze (Zo (@eJ _ _ _ _ _ _ _ _ _ _ _ _ _ _ _ _ LTM.ok (hr.mono ()) (by left) LTM.at' LTM.kp LTM.bd .nil jz (Z1 (va bF 8) (Z1 (va bF 7) (Zd (va bF 3)))) (by decide) (by rfl) (by rfl))))) (Ze (@pU _ _ _ _ _ _ _ _ _ (gE hr) (jV (va bF 3) rfl) (va bF 4) (Z2 aL z_len Nh (Zd (va bF 5))) (by rfl))))))) (b7 (cI mS)))))),?_]
 right
 try dsimp only[qe,qf]
 have hc:=N.c;have n4:=N.mdef;have r0:=id r;have(pa,u1,u2,rfl,bl,g1,g2):=r.t2;have(da,ah,rfl,ai,aj):=g2.aS;have as:=aj.length;rw[bM]at as;have kE:∀f,cQ [] [] q=some f->TF cT cN cW E H f:=λf hf=>hE f (by unfold cy;rw[hf]);ext;intro ad H1 s1;have e0:cy q M=jC q [] [] [] M:=by unfold cy;rw[ad]
 have(ar,aq):=rE ad;have r1:=r0.same s1;ext;intro o dx ho a2 az;have s2:aT H1 (upd (upd H1 dx (.own o)) o (.ins C dx [])):=(ae a2 _).trans (ae (by rw[au az.symm];exact ho) _);refine#[H,o,dx,_,q,_,rfl,s1.trans s2,s1.free ho,af,r1.same s2,hB,aq,ar,λH3 a k3=>#[rfl,?_]];have bh:=ai.same k3.sm;have g4:=ye a;ext;refine eY (K:=K) (xs:=ah) (λi I H4=>(∃y4 y5 y6 y7 y8,I=[some (.ref pa),some u1,some (.ref da),some (.ref o),y4,y5,y6,y7,y8])/\∃m O os,Ma C H o a q M i m O os H4) #[#[_,_,_,_,_,rfl],[],[],[],k3,e0,rfl,i5 _,Nn _,Nn _] ?_ ?_ ?_
 .rintro i I H4 hi ⟨_,m,O,os,u⟩;exact ai.same u.k.sm
 .rintro i xv I H4 hxv ⟨⟨_,_,_,_,_,rfl⟩,m,O,os,u⟩;have(t,ht,rx):=aj.get' hxv;rw[EF]at ht;have(d,Z,rfl):=xn.mp ht;have b8:=(bH.mp Z).1;have(bw,bt,bs,bp):=hD d (M9 Z);have G:=u.e;rw[vy Z]at G;have d4:=kZ (x:=d.1) u.d;have(qa,v1,v2,v3,rfl,ap,q1,q2,q3):=(show Rp K H (.t [.s d.1,.t (d.2.1.map wC),enc d.2.2]) xv from rx).t3;obtain rfl:=q1.aJ;have bb:=ap.same u.k.sm;have bf:=u.k.ins;have bg:=u.k.dd;have bc:=u.ld;ext;intro l5 a0;generalize hnm:m.map (·.1)=nm at G d4;have a5:(List.map (λe=>kV e.1) (List.map (λ(d:Str×Nat)=>((Sum.inr d.1:Key),V.int (d.2:Int))) m))=nm.map V.str:=by rw[<-hnm,NZ,NZ];rfl
  rw[a5];have bv:nm.length<=8:=by rw[<-hnm,bM];omega
  have s5:=ae a0 (.lst (nm.map V.str));have h5:upd H4 l5 (.lst (nm.map V.str)) l5=some (.lst (nm.map V.str)):=af;generalize upd H4 l5 (.lst (nm.map V.str))=H5 at s5 h5|-;ext;intro p6 aw;have s6:=ae aw (.lst [.str d.1]);have h6:upd H5 p6 (.lst [.str d.1]) p6=some (.lst [.str d.1]):=af;have a3:=s6 _ _ h5;generalize upd H5 p6 (.lst [.str d.1])=H6 at s6 h6 a3|-;have lc:(nm.map V.str).length+([.str d.1]:List V).length<=mH:=small (by rw[bM];show _+1<=_;omega);ext;intro p7 av;have ea:nm.map V.str++[.str d.1]=(nm++[d.1]).map V.str:=by simp
  rw[ea];have s7:=ae av (.lst ((nm++[d.1]).map V.str));have h7:nU K false (upd H6 p7 (.lst ((nm++[d.1]).map V.str))) p7 ((nm++[d.1]).map V.str):=bQ.of af;generalize upd H6 p7 (.lst ((nm++[d.1]).map V.str))=H7 at s7 h7|-;have ao:=(s5.trans s6).trans s7;have k7:=u.k.ext ao;have l7:(nm++[d.1]).length<=500:=by rw[i4];show _+1<=_;omega
  have oE:∀x,cJ [] (nm++[d.1])=some x->Told E H7 cT "name" (.str x):=λx T=>by
   rw[d4]at T
   by_cases c:d.1∈nm
   .rw[if_pos c]at T G
    cases T
    exact(hE _ G).same k7.sm
   .rw[if_neg c]at T;cases T
  ext;intro W H8 s8;have c:d.1∉nm:=λc=>by rw[d4,if_pos c]at W;cases W
  rw[if_neg c]at G;have k8:=k7.ext s8;have r8:=q2.same k8.sm;have bo:d.2.1.length<=20:=()
  have bu:os.length+d.2.1.length<=90:=by have:=u.lo;omega
  have pE:∀f,cY (q.map (·.1)) [] os d.2.1=.error f->TF cT cN cW E H f:=λf hf=>hE f (by rw[G,hf]);ext;intro J ax H9 k9 t9 br;rw[ax]at G
  have D:cy q M=match iN q m O (vj (gj [] (d.2.1.map (·.1))) d.2.2)with
   |.error f=>some f
   |.ok g=>jC q (m++[(d.1,d.2.1.length)]) g J (M.drop (i+1)):=G
  have r9:Rp K H9 (ID (d.2.1.map λp=>(p.1,jJ p.2))) v2:=by
   have:=q2.same k9.sm;unfold ID;rw[NZ];exact this
  have q9:=q3.same k9.sm;have b9:d.2.2.size<=160:=()
  have bn:(d.2.1.map λp=>(p.1,jJ p.2)).length<=50:=by rw[bM];omega
  ext;intro lp Ha ws sa Y ha ra;have a6:(d.2.1.map λp=>(p.1,jJ p.2)).map (·.1)=d.2.1.map (·.1):=by rw[NZ];rfl
  rw[a6]at ra;generalize hpl:vj (gj [] (d.2.1.map (·.1))) d.2.2=pl at ra D;have bm:pl.length=d.2.2.size:=by rw[<-hpl];exact FA _ _ bw
  have ac:∀p∈pl,LI p:=by
   rw[<-hpl];refine Fz bw bt bs _ ?_;have:=nK (d.2.1.map (·.1)) [];rw[bM]at this
   have:(gj [] (d.2.1.map (·.1))).length<=10:=by
    have z:([]:List Str).length=0:=rfl;omega
   omega
  have S:=ra.length;rw[bM]at S;have ka:=k9.ext sa;have R:lp≠a.lG/\lp≠a.lO/\lp≠a.dD:=#[(ay k9.gg Y).symm,(ay k9.oo Y).symm,(ay k9.dd Y).symm];have b5:bQ K Ha lp ws:=bQ.of ha;ext;refine xo (K:=K) (xs:=ws) (λj I Hb=>(∃y7 y8,I=[some (.ref pa),some u1,some (.ref da),some (.ref o),some (.str d.1),some v2,some v3,y7,y8])/\∃g,M1 C H o a q m O g J pl j Ha Hb) #[#[_,_,rfl],O,ka,j5.refl _ _,rfl,i5 _] ?_ ?_ ?_
  .rintro j I Hb hj ⟨_,g,y⟩;exact bQ.of (y.t _ _ R.2.2 R.1 R.2.1 ha)
  .rintro j yv I Hb hyv ⟨⟨_,_,rfl⟩,g,y⟩;have(t,ht,ry):=ra.get' hyv;rw[EF]at ht;have(p,U,rfl):=xn.mp ht;have b6:=(bH.mp U).1;have(ns,tm):=p;have(hd,ks):=tm;have(b1,b2,b3,b4):=ac _ (M9 U);have cd:eR hd ks.length=true:=b1;have cc:tW hd:=b2;have ca:ns.length+5*(Tm.mk hd ks).size<=900:=b4;have cb:(Tm.mk hd ks).size<=80:=b3;have lk:ks.length<=900:=by have:ks.length<_:=An (.mk hd ks);omega
   have ln:ns.length<=900:=()
   have eb:=y.e;rw[BD U]at eb
   have L:iN q m O pl=match eO q m g ns hd ks.length with
    |.error f=>.error f
    |.ok g=>iN q m g (pl.drop (j+1)):=eb
   have kb:=ka.uA y.t;have(ya,y1,y2,rfl,al,z1,z2):=(show Rp K Ha (.t [.t (ns.map .s),enc (.mk hd ks)]) yv from ry).t2;have a9:=al.kt kb;have bk:=z1.kt kb;have bi:=z2.kt kb;have b0:=y.k;have bx:g.length<=900:=by have h1:=y.l;have h2:=u.lg;omega
   have tE:∀f,eO q m g ns hd ks.length=.error f->TF cT cN cW E H f:=λf hf=>by
    rw[hf]at L;rw[L]at D;exact hE f D
   ext;intro a4 ag Hc kc tc;rw[ag]at L;exact#[#[_,_,rfl],a4,kc,y.t.trans tc,L,by have h1:=yn ag;have h2:=y.l;omega]
  .rintro I Hb ⟨⟨_,_,rfl⟩,g,y⟩;have eb:=y.e;rw[S,NH]at eb;rw[eb]at D;have a7:cy q M=jC q (m++[(d.1,d.2.1.length)]) g J (M.drop (i+1)):=D;have(va,aa,rfl,am,an):=q2.aS;have ab:=an.length;rw[bM]at ab;have ba:=am.same y.k.sm;have be:=y.k.ins;have a8:=y.k.dd
   have nw:∀kv∈m.map (λ(d:Str×Nat)=>((Sum.inr d.1:Key),V.int (d.2:Int))),kv.1≠Sum.inr d.1:=λkv a1 z=>by
    have(x,T,rfl):=ND.mp a1;have z':x.1=d.1:=Oq z;exact c (by rw[<-z',<-hnm];exact NT T)
   have dp:om Hb a.dD (.str d.1) (.int aa.length) (upd Hb a.dD (.dK ((m++[(d.1,d.2.1.length)]).map λd=>(Sum.inr d.1,.int d.2)))):=by
    have:=om.k (k:=Sum.inr d.1) (v:=.int aa.length) a8 (bq (by rw[bM];omega));rw[lV nw]at this;rw[lj];rw[ab]at this|-;exact this
   have fin:Ma C H o a q M (i+1) (m++[(d.1,d.2.1.length)]) g J (upd Hb a.dD (.dK ((m++[(d.1,d.2.1.length)]).map λd=>(Sum.inr d.1,.int d.2)))):=by
    refine#[y.k.uB _,a7,?_,?_,?_,?_]
    .rw[lj,hnm];exact W
    .rw[i4];show _+1<=_;omega
    .have h1:=y.l;have h2:=u.lg;rw[S]at h1;omega
    .have h2:=u.lo;omega
   ext;exact fin
 .rintro I H4 ⟨_,m,O,os,u⟩;have G:=u.e;rw[show ah.length=M.length by omega,NH]at G;have fin:=k G H4 u.k.sm;ext;exact fin
end G14
namespace L2
open PySem PySem.Spec PyProof.Rows
theorem BL {St:Nat->Heap->Prop}(W:Walks prog w A.in1 I fp wr n P St)(val:Nat->Int)(q:∀i v,P i v->∃b:Bool,v=.bool b/\val i=if b then 1 else 0)(hn:n<=1000)(S:Addr)(z:S∉fp):
  ∀(k i:Nat) (s:fy) (C:Tok) (c:Nat),n-i=k->i<=n->(0<=QK val i/\QK val i<=i)->St i s.heap->s.heap.get? S=some {cls:=.type "list",dict:=none,data:=.seq #[.int (QK val i) C] c,slots:=#[]} ->
  (∀h' m t',(∀b o,b∉wr->b≠S->s.heap.get? b=some o->h'.get? b=some o)->R (.ok (.ret (.int (QK val n) t'))) {s with heap:=h',toks:=m}) ->
  O5 (Nf prog w) A (.builtin "sum.loop" #[[.ref I,.ref S,Qd 0,Qd 0],[]]) R s:=by
 have L:S∉wr:=λh=>z (W.sub _ h);intro k
 induction k with
 |zero =>
  intro i s C c V Y U l D M;have J:i=n:=()
  subst J;refine codeAny_builtin F.entry_sum_loop ?_;rw[TL Rr _];show Na _ A.in1 (UI (.ref S)>>=_) _ _ s;refine cB (OV D rfl ?_);show Na _ A.in1 (tryCatch (Rn (.ref I)) _>>=_) _ _ s;refine cB (wpAny_tryCatch (W.done s _ _ l λh' m d=>?_));exact vv (M h' m C λb o g _ e=>d b o g e)
 |succ k ih =>
  intro i s C c V Y U l D M;have t:i<n:=()
  refine codeAny_builtin F.entry_sum_loop ?_;rw[TL Rr _];show Na _ A.in1 (UI (.ref S)>>=_) _ _ s;refine cB (OV D rfl ?_);show Na _ A.in1 (tryCatch (Rn (.ref I)) _>>=_) _ _ s;refine cB (wpAny_tryCatch (W.item i s _ _ t l λv h' m hP r d=>?_));have(b,rfl,T):=q i v hP;have B:=d S _ L D;have Q:0<=val i/\val i<=1:=by rw[T];cases b<;>decide
  have H:0<=QK val (i+1)/\QK val (i+1)<=((i+1:Nat):Int):=by
   show 0<=QK val i+val i/\QK val i+val i<=_;omega
  show Na _ A.in1 (if(_:Bool)=true then(mkInt (QK val i+(if b then(1:Int)else 0))>>=_)else _) _ _ _;rw[<-T]
  split
  .refine cB (wpAny_mkInt ?_);show Na _ A.in1 (updateSeq S (λ_=>#[.int (QK val i+val i) m])>>=_) _ _ _;refine cB ?_;refine wpAny_updateSeq B rfl (vv #[plainId_quiet Rr _,ih (i+1) _ m _ () t H (W.frame _ _ _ r λb hb o e=>?_) (ON _ B rfl) λO p G u=>?_])
   .exact(Ov _ _ (λh:S=b=>z (by rw[h];exact hb))).trans e
   .exact M O p G λb o g y e=>u b o g y ((Ov _ _ (PK y)).trans (d b o g e))
  .rename_i Z
   refine absurd ?_ Z;show((decide (-(2 ^ 63)<=val i)&&decide (val i<2 ^ 63))&&(decide (-(2 ^ 63)<=QK val i+val i)&&decide (QK val i+val i<2 ^ 63)))=true;simp only[NJ,decide_eq_true_eq];omega
theorem BN (h:Na (Nf prog w) A.in1 (Tp x) (λit d=>∃I fp wr n P St val,it=.ref I/\Walks prog w A.in1 I fp wr n P St/\St 0 d.heap/\(∀b∈fp,b<d.heap.objs.size) /\
   (∀i v,P i v->∃b:Bool,v=.bool b/\val i=if b then 1 else 0)/\n<=1000 /\
   ∀h' m t',(∀b o,b∉wr->d.heap.get? b=some o->h'.get? b=some o)->Q (.int (QK val n) t') {d with heap:=h',toks:=m}) E s):
  Na (Nf prog w) A (call (.builtin "sum") [x]) Q E s:=by
 refine call_function_tree F.kind_sum F.plain_sum F.entry_sum (F.args_sum1 _) ?_;unfold QW.«sum»;simp only[Np,Qa];rw[if_neg (by decide)];refine cB (wpAny_of_eq (show QW.Builtins.bindParams "sum" ["start"] 0 {}=pure [none]from rfl) ?_);refine cB (Nz h (λit d g=>?_) λ_ _ e=>e);have(I,fp,wr,n,P,St,val,rfl,W,p,q,l,u,B):=g;refine cB (wpAny_mkInt ?_);refine cB (vv ?_);simp only[QE,Q4];refine cB (cB (cB (Rq (T:="int") (b:=false) (R5 _ _ _) F.sub_int_str ?_)));simp only[Px,if_false];refine vv (cB (cB (Rq (T:="int") (b:=false) (R5 _ _ _) F.sub_int_bytes ?_)));simp only[Px,if_false];refine vv (cB (cB (Rq (T:="int") (b:=false) (R5 _ _ _) F.sub_int_bytearray ?_)));simp only[Px,if_false];refine vv (vv ?_);refine cB (NL ?_);have t:d.heap.objs.size∉fp:=λy=>N7 _ (q _ y)
 refine vv #[plainId_quiet Rr _,BL W val l u d.heap.objs.size t n 0 _ d.toks 0 rfl (Nn _) #[Int.le_refl _,Int.le_refl _]
  (W.frame _ _ _ p λb _ o e=>tF _ e) (Nc _ rfl) λh' m t' z=>?_]
 exact B h' m t' λb o r e=>z b o r (Nt (L0 e)) (tF _ e)
noncomputable def Jq(b:Bool):Int:=if b then 1 else 0
theorem qw (bs:List Bool):∀k,QK (λi=>Jq ((bs[i]?).getD false)) k=((bs.take k).map Jq).sum
 |0=>by simp[QK]
 |k+1=>by
  rw[QK,qw bs k]
  by_cases h:k<bs.length
  .rw[mu h,lj,List.sum_append,my h];simp
  .rw[Oh (),Oh (),Rh ()];simp[Jq]
theorem BO (G:X.calm=true):iQ X (.builtin "sum") (λxs H Q=>∃(p:Addr) (bs:List Bool),xs=[.ref p]/\bQ X.K H p (bs.map V.bl)/\bs.length<=1000/\Q (.int (bs.map Jq).sum) H):=by
 intro o s L H xs M Q I r h;have(p,bs,rfl,B,C,q):=h;have(u,rfl,y):=vals1 r
 cases y
 have(d,t,z,S):=I.list B;have m:=sR t;have l:=z.isList;have g:p<s.heap.objs.size:=by have(_,e,_):=l;exact L0 e
 refine BN (QV l ?_)
 refine#[s.heap.objs.size,[s.heap.objs.size,p],[s.heap.objs.size],d.toArray.size,_,_,λi=>Jq ((bs[i]?).getD false),rfl,Walks.list (A:=X.A.in1) (I.ok.hd G) _ p (Nt g) d.toArray,
  #[#[_,Nc _ rfl,rfl,rfl],l.push _],λb hb'=>?_,λi v J=>?_,?_,λT O R D=>?_]
 .show b<(s.heap.push _).objs.size;rw[Oc];rcases M8.mp hb' with rfl|hb'
  .exact O1 _
  .rcases M8.mp hb' with rfl|hb'
   .exact Q6 g
   .cases hb'
 .have(b,e,rfl):=m.get i v (by simpa using J);exact#[b,rfl,by dsimp only;rw[e];rfl]
 .rw[M6,m.length];exact C
 .rw[qw,M6,m.length,Nl];exact#[.int _,H,I.kept (LSm.kept_iter D),#[_,rfl],q]
def Gs:V->List V->Hp->VK->Prop:=λx d H Q=>∃(l:Addr) (bs:List Bool) (c:Bool) (k:Nat),x=.ref l/\d=[.bl c]/\H l=some (.lst (bs.map V.bl))/\bs[k]?=some c/\(∀m,m<k->bs[m]?≠some c)/\Q (.int k) H
noncomputable def eqB(c:Bool):eF->Bool
 |.bool x=>decide (x=c)
 |_=>false
theorem BP :KL X "list.index" Gs:=by
 intro B s W H x Y v Z Q I D G h;have(l,bs,c,k,rfl,rfl,T,C,g,q):=h
 cases D
 have(u,rfl,J):=G.one
 cases J
 have(z,L,n,r,hl,e):=I.xy T;have U:=xK r;subst U;have S:k<bs.length:=(bH.mp C).1;have t:k<(bs.map Value.bool).toArray.size:=by rw[M6,bM];exact S
 have M:bs.length<=mH:=by rw[bM]at z;exact z
 have d:(k:Int)<2 ^ 63-1:=by
  rw[Qk]at M;omega
 refine R6 F.slot_list_index #[_,e,rfl] F.entry_list_index (F.args_list_index_2 _ _)
  (SeqAt.list_indexAt l (bs.map Value.bool).toArray n none #[] (.bool c) (eqB c) k t d ?_ (λm R o=>?_)) #[e,λw O=>?_,?_]
 .rw[TM,Ro,(bH.mp C).2];simp[eqB]
 .have p:m<bs.length:=by rwa [M6,bM]at R
  rw[TM,Ro];exact decide_eq_false λz=>g m o (by rw[my p,z])
 .have(b,hb,rfl):=ND.mp (List.mem_toArray.mp O);have:=Ce (A:=X.A.in1) (s:=s) (y:=.bl b) (x:=.bl c) rfl rfl rfl rfl;have V:Ex (.bl b) (.bl c)=eqB c (.bool b):=by cases b<;>cases c<;>rfl
  rw[V]at this;exact this
 .exact#[.int k,H,I.tok _,#[_,rfl],q]
theorem D4 :mK X (Ox .Is) (λx y H Q=>∃a b,x=.bl a/\y=.bl b/\Q (.bl (a == b)) H):=by
 intro d s l H x y v u Q I g e h;have(a,b,rfl,rfl,q):=h
 cases g
 cases e
 exact is_bool (b9 I q rfl)
theorem Gu :mK X (Ox .IsNot) (λx y H Q=>∃a b,x=.bl a/\y=.bl b/\Q (.bl (!(a == b))) H):=by
 intro d s l H x y v u Q I g e h;have(a,b,rfl,rfl,q):=h
 cases g
 cases e
 exact isnot_bool (b9 I q rfl)
def yD(H:Hp):Option (Str×Str)->V->Prop
 |none,v=>v=.bl true
 |some w,v=>∃p,v=.ref p/\H p=some (.lst [.str w.1,.str w.2])
def twOk:Option (Str×Str)->Prop
 |none=>True
 |some w=>(∀c∈w.1.cps.toList,c<1000)/\(∀c∈w.2.cps.toList,c<1000)/\w.1.length<=100/\w.2.length<=100
@[irreducible] noncomputable def Jd:Option (Str×Str)->Str
 |none=>"True"
 |some w=>(PyData.list (T.EO [.s w.1,.s w.2])).shown
theorem BQ (o:∀c∈a.cps.toList,c<1000)(m:∀c∈b.cps.toList,c<1000)(l1:a.length<=100)(l2:b.length<=100):GK (.list (T.EO [.s a,.s b])):=by
 have e:T.EO [.s a,.s b]=[.str a,.str b]:=by simp[T.EO,T.py]
 rw[e]
 have d:∀{x:Str},(∀c∈x.cps.toList,c<1000)->(x.cps.toList.all λc=>decide (c<16 ^ 8))=true:=λ{x} h=>by
  rw[NO];intro c l;exact decide_eq_true (Nat.lt_trans (h c l) (by decide))
 have g:(PyData.list [.str a,.str b]).leavesShort 13=true:=by
  show((a.cps.toList.all λc=>decide (c<16 ^ 8))&&((b.cps.toList.all λc=>decide (c<16 ^ 8))&&true))=true;rw[d o,d m];rfl
 refine#[rfl,rfl,(by show max 0 (max 0 0)+1<=100;decide),PyData.shown_fits (B:=13) (by decide) (by decide) g ?_];show a.length+1+(b.length+1+0)<=2 ^ 20;omega
theorem mw (y:X.A.guards=some [])(t:X.A.units+150<Rf):iQ X (.builtin "repr") (λxs H Q=>∃x o,xs=[x]/\yD H o x/\twOk o/\Q (.str (Jd o)) H):=by
 intro d s g H xs l Q I r h;have(x,o,rfl,e,ok,q):=h
 cases o with
 |none =>
  obtain rfl:x=.bl true:=e;unfold Jd at q;have(u,rfl,m):=vals1 r
  cases m
  exact PySem.P.repr_of_bool #[.str _,H,I.tok _,#[_,rfl],q]
 |some w =>
  have(p,rfl,v):=e;have(B,z,l1,l2):=ok;unfold Jd at q;exact za y t d s g H _ l Q I r #[p,[.s w.1,.s w.2],_,rfl,bQ.of v,.cons .s (.one .s),BQ B z l1 l2,q]
end L2
namespace G14
open PySem L2 PyProof.Rows PySem.W
def ET(m o cW:Addr)(kl:Kl)(dl:List Df)(H:Hp):XK:=λd l g=>∃f e,cy kl dl=some f/\d=.ref (oz m o cW f.1)/\l=some e/\aT H g/\g e=some (.xd [("name",.str f.2)])
noncomputable instance:DecidableEq Er:=λa b=>match a,b with
 |.tw,.tw=>isTrue rfl
 |.nn,.nn=>isTrue rfl
 |.wr,.wr=>isTrue rfl
 |.tw,.nn=>isFalse nofun
 |.tw,.wr=>isFalse nofun
 |.nn,.tw=>isFalse nofun
 |.nn,.wr=>isFalse nofun
 |.wr,.tw=>isFalse nofun
 |.wr,.nn=>isFalse nofun
theorem _root_.L2.kJ.same {H d:Hp}{x C:Addr}{fs:List (Str×V)}(e:kJ H x C fs)(s:aT H d):kJ d x C fs:=by
 rcases e with⟨e,h⟩|⟨dx,h1,h2⟩
 .exact .inl #[e,s _ _ h]
 .exact .inr #[dx,s _ _ h1,s _ _ h2]
noncomputable def LM:Er->Nat
 |.tw=>0
 |.nn=>1
 |.wr=>2
structure Mb(K:bN) (cT cN cW G:Addr) (oth:List Addr):Prop where
 sub:∀e,wu K (oz cT cN cW e) G
 g:∀e,Bf K (oz cT cN cW e)
 one:∀e d,RJ K (.ref (oz cT cN cW e)) (.ref (oz cT cN cW d))=some (decide (e=d))
 any:∀e,U0 K (.ref (oz cT cN cW e)) (oth.map Value.ref)=some false
 val:∀e,RJ K (.ref (oz cT cN cW e)) (.type "ValueError")=some true
 r:∀e,Ih K (oz cT cN cW e) "name"
noncomputable def twF(o:Option Flt):Option (Str×Str):=o.map λf=>(Iv f.1,f.2)
def zD(K:bN):Sp:=λo H Q _=>∃(v:V) (g:Kl) (e:List Df),o=[v]/\Rp K H (.t [.t (g.map gZ),.t (e.map jm)]) v/\wY g/\e.length<=8/\(∀d∈e,Km d) /\
 ∀m l,aT H l->yD l (twF (cy g e)) m->Q m l
theorem dR :Nm Vv (ak nq):=by decide
theorem jT :Lm Vv (ak nq):=by decide
theorem iO :aZ Vv VQ (ak nq):=#[rfl,rfl,rfl,by decide,rfl,by decide,by decide]
theorem Gv {K:bN}(F:jr K "_law_told" "_law_told" nq f fd)(l:ou P w K mg base "look_names" 6 Wa (AK K cT cN cW) gL lfd)(C:Mb K cT cN cW G [o0,o1,o2,o3,o4,o5])(m_GapError:mg "GapError"=some (.ref G))(m_Twice:mg "Twice"=some (.ref cT))(m_NoName:mg "NoName"=some (.ref cN))(m_WrongCount:mg "WrongCount"=some (.ref cW))(m_BadText:mg "BadText"=some (.ref o0))(m_Clash:mg "Clash"=some (.ref o1))(m_NoGap:mg "NoGap"=some (.ref o2))(m_NoRow:mg "NoRow"=some (.ref o3))(m_TooLong:mg "TooLong"=some (.ref o4))(m_TooMany:mg "TooMany"=some (.ref o5))(z_isinstance:mg "isinstance"=none)(z_ValueError:mg "ValueError"=none)(z_sum:mg "sum"=none)(z_int:mg "int"=none):cA P w K mg base gy 7 f fd VQ (zD K):=by
 refine F.MM iO (λvs H Q E h=>?_) (λcdv A outer s H vs Q E hr h=>?_)
 .have(_,_,_,rfl,_):=h;rfl
 have(v,I,S,rfl,r,hB,ld,hD,kq):=h;have kf:∀f,cy I S=some f->∀T d,aT H d->mO d (some f) T->Q T d:=λf O T d B ft=>kq T d B (by rw[O];exact ft);have ko:cy I S=none->∀d,aT H d->Q (.bl true) d:=λhn d B=>kq _ d B (by rw[hn];exact rfl)
 refine#[_,(qN (PS.top (sa iO.nd jT 1 gv))
  (qN (PS.top (sa iO.nd jT 2 gv))
  (qN (Il (E':=(ET cT cN cW I S H)) (i:=3) rfl rfl rfl (Ze (Z4 iO.nd jT 2 (@eJ _ _ _ _ _ _ _ _ _ _ _ _ _ _ _ _ l.ok (hr.mono ()) (by left) l.at' l.kp l.bd .nil jz (Zd (va dR 0)) (by decide) (by rfl) (by rfl)))) (by left) m_GapError iO.nd rfl (by kernel_rfl) (λ_=>(Ze (sa iO.nd jT 1 (va dR 3)))))
  (qT.top (Z5 (Zb (Zp qF (va dR 1) gv) (Ze (Zv (Zl br (Zu (Z1 (Zm (Z1 aH (Zd (va dR 2)))) (Zd mS))) (Z7 iH z_int OB (Z1 (jq D4 (va dR 2) mS (bG _)) aA)))))) (Z5 (Z4 iO.nd jT 4 (Zu (Z1 (Z2 nB z_isinstance Ow (Z1 (va dR 1) (Zd (iz (v:=.ref cT) (by left) m_Twice rfl)))) (Z1 (Z2 nB z_isinstance Ow (Z1 (va dR 1) (Zd (iz (v:=.ref cN) (by left) m_NoName rfl)))) (Z1 (Z2 nB z_isinstance Ow (Z1 (va dR 1) (Zd (iz (v:=.ref cW) (by left) m_WrongCount rfl)))) aA))))) (Z5 (Z4 iO.nd jT 5 (Z2 wA z_isinstance Ow (Z1 (va dR 1) (Z1 (Zm (Z1 (iz (v:=.ref o0) (by left) m_BadText rfl) (Z1 (iz (v:=.ref o1) (by left) m_Clash rfl) (Z1 (iz (v:=.ref o2) (by left) m_NoGap rfl) (Z1 (iz (v:=.ref o3) (by left) m_NoRow rfl) (Z1 (iz (v:=.ref o4) (by left) m_TooLong rfl) (Zd (iz (v:=.ref o5) (by left) m_TooMany rfl)))))))) aA)))) (Z5 (Zb (PW.pt (@pH _ _ _ _ _ _ _ (sC (va dR 5)) (@pH _ _ _ _ _ _ _ (@yH _ _ _ _ (@sC _ _ _ (Z2 wz z_isinstance Ow (Z1 (va dR 1) (Zd (zG (v:=.ty "ValueError") (by left) z_ValueError (by decide) rfl)))) (by intro _;rfl))) (@oQ _ _ _ _ (Zi pK (Z2 (BO rfl) z_sum PyProof.Rows.boot_sum (Zd (va dR 4))) aC (bG _)))))) (b7 (cI aH))) (Ze (Zv (Zu (Z1 (Zl br (Zu (Z1 aH (dc aH (Zd aH)))) (xx P1 PySem.F.slot_list_index PySem.F.type_list_index BP (va dR 4) (Zd mS))) (Zd (CK (va dR 1))))))))))))))),?_]
 right
 right
 have eE:∀f,cy I S=some f->TF cT cN cW (ET cT cN cW I S H) H f:=λf O q d B h0 h'=>#[f,q,O,rfl,rfl,B,h'];ext
 .ext;intro hn H1 s1;have fin:=ko hn;ext;intro y ag;have u:=ae ag (.tup [.str "told",.bl true]);generalize upd H1 y (.tup [.str "told",.bl true])=H2 at u|-;ext;intro p2 ad;have t:=ae ad (.lst [.ref y,.bl true]);have Z:bQ K (upd H2 p2 (.lst [.ref y,.bl true])) p2 [.ref y,.bl true]:=bQ.of af;have o:=fin _ ((s1.trans u).trans t);generalize upd H2 p2 (.lst [.ref y,.bl true])=H3 at t Z o|-;have a1:eK [V.ref y,V.bl true] 1=some (V.bl true):=aG (j:=1) rfl;ext;refine .inr #[_,rfl,?_];ext;exact o
 rintro cls od H1 ⟨f,q,O,rfl,rfl,s1,hx⟩;refine#[_,rfl,C.sub f.1,λx J=>?_];have nx:q≠x:=ay hx J;have u:=ae J (.ext (uz x (oz cT cN cW f.1) (some q)));have e2:kJ (upd H1 x (.ext (uz x (oz cT cN cW f.1) (some q)))) x (oz cT cN cW f.1) [("name",.str f.2)]:=.inr #[q,af,u _ _ hx];generalize upd H1 x (.ext (uz x (oz cT cN cW f.1) (some q)))=H2 at u e2|-;have g:=C.g f.1;have k1:RJ K (.ref (oz cT cN cW f.1)) (.ref cT)=_:=C.one f.1 .tw;have k2:RJ K (.ref (oz cT cN cW f.1)) (.ref cN)=_:=C.one f.1 .nn;have k3:RJ K (.ref (oz cT cN cW f.1)) (.ref cW)=_:=C.one f.1 .wr;have k4:=C.any f.1;have k5:=C.val f.1;have k6:=C.r f.1;ext
 first|(intro D L)|(dsimp only[LP,iF,behind,Ends.wn];ext;intro D L)
 have t:=ae L (.lst [.bl (decide (f.1=.tw)),.bl (decide (f.1=.nn)),.bl (decide (f.1=.wr))]);have Z:upd H2 D (.lst [.bl (decide (f.1=.tw)),.bl (decide (f.1=.nn)),.bl (decide (f.1=.wr))]) D=some (.lst ([decide (f.1=.tw),decide (f.1=.nn),decide (f.1=.wr)].map V.bl)):=af;have e3:=e2.same t;generalize upd H2 D (.lst [.bl (decide (f.1=.tw)),.bl (decide (f.1=.nn)),.bl (decide (f.1=.wr))])=H3 at t Z e3|-;ext;intro Y ac;have W:=ae ac (.tup [.ref o0,.ref o1,.ref o2,.ref o3,.ref o4,.ref o5]);have h4:cH K (upd H3 Y (.tup [.ref o0,.ref o1,.ref o2,.ref o3,.ref o4,.ref o5])) Y ([o0,o1,o2,o3,o4,o5].map V.ref):=cH.of af;have e4:=e3.same W;have p:=W _ _ Z;have R:bQ K (upd H3 Y (.tup [.ref o0,.ref o1,.ref o2,.ref o3,.ref o4,.ref o5])) D ([decide (f.1=.tw),decide (f.1=.nn),decide (f.1=.wr)].map V.bl):=bQ.of p;have z:=(s1.trans u).trans (t.trans W);generalize upd H3 Y (.tup [.ref o0,.ref o1,.ref o2,.ref o3,.ref o4,.ref o5])=H4 at W h4 e4 p R z|-;have l3:[decide (f.1=.tw),decide (f.1=.nn),decide (f.1=.wr)].length<=1000:=by show 3<=1000;decide
 have sm:([decide (f.1=.tw),decide (f.1=.nn),decide (f.1=.wr)].map Jq).sum=1:=by
  have(e,n):=f
  cases e<;>rfl
 have hk:[decide (f.1=.tw),decide (f.1=.nn),decide (f.1=.wr)][LM f.1]?=some true:=by
  have(e,n):=f
  cases e<;>rfl
 have ai:∀m,m<LM f.1->[decide (f.1=.tw),decide (f.1=.nn),decide (f.1=.wr)][m]?≠some true:=by
  have(e,n):=f
  cases e with
  |tw=>intro m M;exact absurd M (Nat.not_lt_zero _)
  |nn =>
   intro m M;obtain rfl:m=0:=Nat.lt_one_iff.mp M;exact nofun
  |wr =>
   intro m M
   match m,M with
   |0,_=>exact nofun
   |1,_=>exact nofun
 have ha:eK [V.str "twice",V.str "noname",V.str "wrong"] (LM f.1)=some (.str (Iv f.1)):=by
  have(e,n):=f
  cases e
  .exact aG (j:=0) rfl
  .exact aG (j:=1) rfl
  .exact aG (j:=2) rfl
 have fin:=kf f O;ext;rw[sm];ext;intro p5 ab;have U:=ae ab (.lst [.str "twice",.str "noname",.str "wrong"]);have h5:bQ K (upd H4 p5 (.lst [.str "twice",.str "noname",.str "wrong"])) p5 [.str "twice",.str "noname",.str "wrong"]:=bQ.of af;have ah:=U _ _ p;have e5:=e4.same U;generalize upd H4 p5 (.lst [.str "twice",.str "noname",.str "wrong"])=H5 at U h5 ah e5|-;ext;intro p6 aa;have s6:=ae aa (.lst [.str (Iv f.1),.str f.2]);exact fin _ _ ((z.trans U).trans s6) #[p6,rfl,af]
end G14
namespace G14
open PySem L2
theorem bP :Nm Vb (ak iY):=by decide
theorem gm :Lm Vb (ak iY):=by decide
theorem fP :aZ Vb VQ (ak iY):=#[rfl,rfl,rfl,by decide,rfl,by decide,by decide]
theorem uq {P:I0}{w:Ni}{K:bN}{mg:Str->Option eF}{base:Heap}{gF gH:Addr}{ffd hfd:M5}{n j:Nat}(hj:4<=j){f:Addr}{cdv:eF}{A:Nq}{outer:List OE}{s:fy}{H1:Hp}{E:XK}(a6:eL P w K mg base "_law_kind_fault" 2 Vu (ql K) gF ffd)(a5:eL P w K mg base "_law_term_fault" j Ve (ue K n) gH hfd)(ab:mg "len"=none)(hr:dj j (A.deeper (Nj "_law_due" (ak iY) s.heap.objs.size f cdv))){D:L2.Ends}{H0 H:Hp}{S:mF}{kl:Kl}{dl:List Df}{i:Nat}{d:Df}{pv I pav tv:V}{o6 o7 o8:Option V}(hdi:dl[i]?=some d)(hB:wY kl)(hD:K0 n dl)(rp:Rp K H (.t (d.2.1.map wC)) pav)(rt:Rp K H (enc d.2.2) tv)(sm:aT H0 H)(st:Kn H0 S kl dl i d none 0 I H)(k:∀ao o6 o7 o8 J,Kt H J->II H0 S kl dl (i+1) ao J->D.nx [some pv,some (.ref S.d),some ao,some (.str d.1),some pav,some tv,o6,o7,o8] J):
  jb (Zj gy Vb "_law_due" (ak iY) H1).nR ((forA ((bg iY).drop 2)).drop 1) D [some pv,some (.ref S.d),some I,some (.str d.1),some pav,some tv,o6,o7,o8] H:=by
 refine d7 ((Z5 (sa fP.nd gm 6 (dF aA)) (Z5 (Zh NC (cz (va bP 4)) (Z9 (2) (Zf (ga fP.nd gm 7) (Zt (ga fP.nd gm 8)))) (Z5 (Zb (PW.pt (@gz _ _ _ _ _ _ _ (Zp qF (va bP 2) gv) (@fz _ _ _ _ (nS gq (va bP 7) (va bP 6) (by with_unfolding_all rfl))))) (Ze (Z4 fP.nd gm 2 (Zu (Z1 aH (Zd (va bP 7))))))) (Z5 (Zo (Z6 (va bP 6) (Zd (va bP 7)))) (Ze (Zb (Zp qF (va bP 2) gv) (Ze (Z4 fP.nd gm 2 (Z0 a6 (Z1 (va bP 1) (dc (va bP 8) (Zd mS))))))))))) (Z5 (Zb (Zp qF (va bP 2) gv) (Ze (Z4 fP.nd gm 2 (Z0 a5 (Z1 (va bP 1) (Z1 (va bP 5) (Zd (va bP 6)))))))) (Ze (@pU _ _ _ _ _ _ _ _ _ (gE hr) (Zk (va bP 1)) (va bP 3) (Zm (Z1 (va bP 3) (Z1 (Z2 aL ab Nh (Zd (va bP 4))) aA))) (by rfl))))))) ?_
 right
 right
 have a0:=(bH.mp hdi).1;have bf:i<8:=Nd a0 hD.1;have((bw,bt,bs,bp),bd):=hD.2 d (M9 hdi);have(pa,g,rfl,as,al):=rp.aS;have T:=al.length;rw[bM]at T;ext;intro l hl;have s2:=ae hl (.lst []);have h2:upd H l (.lst []) l=some (.lst []):=af;have l0:H0 l=none:=sm.free hl
 have ai:Kn H0 S kl dl i d (some l) 0 I (upd H l (.lst [])):=by
  cases st with
  |bad f p u w e2 e3 _=>exact .bad f p u (w.ext s2) e2 (s2 _ _ e3) (λz=>(ay e3 hl) (Ng z).symm)
  |good ds gs os u sc ld lg lo nd nm _ e2=>exact .good ds gs os u (sc.ext s2) ld lg lo nd nm (λa ha=>#[ds,gs,os,H,sc,Ng ha▸hl]) e2
 have L:=as.same s2;generalize upd H l (.lst [])=H2 at s2 h2 ai L|-;ext;refine eY (K:=K) (xs:=g) (λq σ B=>∃I o7 o8,σ=[some pv,some (.ref S.d),some I,some (.str d.1),some (.ref pa),some tv,some (.ref l),o7,o8]/\LJ H0 S kl dl i d l q H2 I B) #[_,_,_,rfl,Kt.refl,h2,ai] ?_ ?_ ?_
 .rintro q σ B hq ⟨_,_,_,_,Q,_,_⟩;exact L.kt Q
 .rintro q xv σ B hxv ⟨I,o7,o8,rfl,⟨Q,W,ac⟩⟩;have(t,ht,rx):=al.get' hxv;rw[EF]at ht;have(p,hp,rfl):=xn.mp ht;have az:=(bH.mp hp).1;have ap:d.2.1.take (q+1)=d.2.1.take q++[p]:=by rw[mu az,(bH.mp hp).2]
  have r:=(Kt.same s2).trans Q;have(ka,k1,k2,rfl,ax,g1,g2):=(show Rp K H (.t [.s p.1,jJ p.2]) xv from rx).t2;obtain rfl:=g1.aJ;have a7:=ax.kt r;have a3:=g2.kt r;have fl:=iM ((d.2.1.take q).map (·.1));have iv:=j0 (x:=p.1) (xs:=(d.2.1.take q).map (·.1));have et:(((d.2.1.take (q+1)).map (·.1)).map V.str)=((d.2.1.take q).map (·.1)).map V.str++[.str p.1]:=by rw[ap];simp
  have a8:bQ K B l (((d.2.1.take q).map (·.1)).map V.str):=bQ.of W;have ll:(((d.2.1.take q).map (·.1)).map V.str).length<mH:=bq (by rw[bM,bM,L1];omega)
  cases ac with
  |bad f m u w e2 e3 n =>
   subst e2;have np:m≠l:=λz=>n (by rw[z]);have fin:LJ H0 S kl dl i d l (q+1) H2 (.ref m) (upd B l (.lst (((d.2.1.take q).map (·.1)).map V.str++[.str p.1]))):=#[Q.trans (Kt.lst W _),by rw[af,et],.bad f m u (w.other l0 W _) rfl (by rw[au np];exact e3) n];ext;exact fin
  |good ds gs os u sc ld lg lo nd nm ow e2 =>
   subst u;have(a4,a2,av,HB,C,G):=ow l rfl;have ad:=sc.other C G W (((d.2.1.take q).map (·.1)).map V.str++[.str p.1]);have O:Kt B (upd B l (.lst (((d.2.1.take q).map (·.1)).map V.str++[.str p.1]))):=Kt.lst W _;have h4:upd B l (.lst (((d.2.1.take q).map (·.1)).map V.str++[.str p.1])) l=some (.lst (((d.2.1.take (q+1)).map (·.1)).map V.str)):=by rw[af,et]
   have bh:=a3.kt O;rw[rF hp]at e2;ext;refine cg (λc=>?_) (λc=>?_)
   .have hm:p.1∈(d.2.1.take q).map (·.1):=by
     have c':oj (.str p.1) (((d.2.1.take q).map (·.1)).map V.str)=true:=c;rw[iv]at c';exact of_decide_eq_true c'
    rw[if_pos hm]at e2;ext;intro m U;have y:=ae U (.lst [.str "twice",.str p.1]);have h5:upd B m (.lst [.str "twice",.str p.1]) m=some (.lst [.str "twice",.str p.1]):=af;have n5:m≠l:=(ay W U).symm;have ah:=y _ _ W;have w5:=(sc.ext y).w ld;have k5:Kt H2 (upd B m (.lst [.str "twice",.str p.1])):=Q.trans (Kt.same y);generalize upd B m (.lst [.str "twice",.str p.1])=H5 at y h5 ah w5 k5|-;have fin:LJ H0 S kl dl i d l (q+1) H2 (.ref m) (upd H5 l (.lst (((d.2.1.take q).map (·.1)).map V.str++[.str p.1]))):=#[k5.trans (Kt.lst ah _),by rw[af,et],.bad (.tw,p.1) m e2 (w5.other l0 ah _) rfl (by rw[au n5];exact h5) (λz=>n5 (Ng z).symm)];ext;exact fin
   .have hm:p.1∉(d.2.1.take q).map (·.1):=λz=>c (by show oj (.str p.1) (((d.2.1.take q).map (·.1)).map V.str)=true;rw[iv];exact decide_eq_true z);rw[if_neg hm]at e2;have ba:os.length<=100:=()
    ext
    first|(focus(intro z;cases z;done))|skip
    refine λ_=>#[λf hf v' J s' ft fp=>?_,λaw ho J ag Y=>?_]
    .rw[hf]at e2;have(m,rfl,U):=ft;have n5:m≠l:=(ay h4 (fp m rfl)).symm;exact#[_,_,_,rfl,(Q.trans O).trans (Kt.same s'),s' _ _ h4,.bad f m e2 ((ad.ext s').w ld) rfl U (λz=>n5 (Ng z).symm)]
    .rw[ho]at e2;have nl:l≠S.lg/\l≠S.lo:=#[(ay C.hg G).symm,(ay C.ho G).symm];refine#[_,_,_,rfl,(Q.trans O).trans (ad.uA Y),ad.yp Y h4 nl,.good ds gs aw rfl ag ld lg ?_ nd nm ow ?_]
     .have:=BG ho;omega
     .rw[ap,lj];exact e2
 .rintro σ B ⟨I,o7,o8,rfl,⟨Q,W,ac⟩⟩;rw[T,Nl]at W;have aa:=L.kt Q;have r:=(Kt.same s2).trans Q;have a9:=rt.kt r
  have Z:∀{I:V}{f:Flt}{m o:Addr}{H4:Hp}{dv:List (Key×V)},cy kl dl=some f->rW H0 S i H4->I=.ref m->H4 m=some (.lst [.str (Iv f.1),.str f.2])->H4 S.dd=some (.dK dv)->dv.length<=i->II H0 S kl dl (i+1) I (upd H4 S.dd (.dK (putK dv (Sum.inr d.1) (.ref o)))):=λ{I f m o H4 dv} e w ev hp hd ld=>by
   refine .bad f e ((w.le (Ot _)).uB ?_) #[m,ev,?_]
   .exact Nu Dy (Pq ld)
   .rw[au (λz=>by rw[z,hd]at hp;cases hp)];exact hp
  cases ac with
  |bad f m u w e2 e3 n =>
   subst e2;have(dv,d1,d2):=w.hd;ext;intro o M;have s4:=ae M (.tup [.str d.1,.int g.length]);have w4:=w.ext s4;have h4:=s4 _ _ d1;have e4:=s4 _ _ e3;have O:Kt H (upd B o (.tup [.str d.1,.int g.length])):=r.trans (Kt.same s4);generalize upd B o (.tup [.str d.1,.int g.length])=H4 at s4 w4 h4 e4 O|-;have gd:=fh w4.sd (lX S);have dp:=om.k (k:=Sum.inr d.1) (v:=.ref o) h4 (bq ());ext;exact k _ _ _ _ _ (O.trans (Kt.upd h4 (λ_ z=>nomatch z) (λ_ _ z=>nomatch z) _)) (Z u w4 rfl e4 h4 d2)
  |good ds gs os u sc ld lg lo nd nm ow e2 =>
   subst u;rw[T,Nl,NH]at e2;have aq:cy kl dl=oO kl ds gs d (dl.drop (i+1)) (.ok os):=e2;have(a4,a2,av,HB,C,G):=ow l rfl;have nl:l≠S.lg/\l≠S.lo:=#[(ay C.hg G).symm,(ay C.ho G).symm];have ln:(d.2.1.map (·.1)).length+5*d.2.2.size<=900:=by rw[bM];omega
   have bb:gs.length+d.2.2.size<=900:=()
   ext
   .intro f hf v' J w' Y ft;have(m,rfl,e4):=ft;have u:cy kl dl=some f:=by rw[aq];unfold oO;dsimp only;rw[hf]
    have aj:=aa.kt (sc.uA Y);have O:=r.trans (sc.uA Y);have(dv,d1,d2):=w'.hd;ext;intro o M;have y:=ae M (.tup [.str d.1,.int g.length]);have w5:=(w'.le ld).ext y;have h5:=y _ _ d1;have e5:=y _ _ e4;have k5:Kt H (upd J o (.tup [.str d.1,.int g.length])):=O.trans (Kt.same y);generalize upd J o (.tup [.str d.1,.int g.length])=H5 at y w5 h5 e5 k5|-;have gd:=fh w5.sd (lX S);have dp:=om.k (k:=Sum.inr d.1) (v:=.ref o) h5 (bq ());ext;exact k _ _ _ _ _ (k5.trans (Kt.upd h5 (λ_ z=>nomatch z) (λ_ _ z=>nomatch z) _)) (Z u w5 rfl e5 h5 (Nu d2 ld))
   intro an a1 J ag Y bc;have u:cy kl dl=jC kl (ds++[(d.1,d.2.1.length)]) an os (dl.drop (i+1)):=by rw[aq];unfold oO;dsimp only;rw[a1]
   have aj:=aa.kt (sc.uA Y);have O:=r.trans (sc.uA Y);ext;intro o M;have y:=ae M (.tup [.str d.1,.int g.length]);have R:=ag.ext y;have am:upd J o (.tup [.str d.1,.int g.length]) o=some (.tup [.str d.1,.int (d.2.1.length:Nat)]):=by rw[af,T]
   have k5:Kt H (upd J o (.tup [.str d.1,.int g.length])):=O.trans (Kt.same y);generalize upd J o (.tup [.str d.1,.int g.length])=H5 at y R am k5|-;have(dv,d1,d2):=R.hd;have gd:=fh R.sd (lX S);have be:=d2.length;have dp:=om.k (k:=Sum.inr d.1) (v:=.ref o) d1 (bq ())
   have vn:cX dv (Sum.inr d.1)=none:=by
    have:=wK (x:=d.1) d2;rw[decide_eq_false nm]at this;exact Option.not_isSome_iff_eq_none.mp (by rw[this];exact Nk)
   rw[Ck _ vn]at dp;have ar:=R.uB (x:=(d.1,d.2.1.length)) d1 d2 am;ext;refine k _ _ _ _ _ (k5.trans (Kt.upd d1 (λ_ z=>nomatch z) (λ_ _ z=>nomatch z) _)) (.good _ an os rfl ar ?_ ?_ ?_ nd u)
   .rw[i4];exact Pq ld
   .omega
   .omega
theorem yE {P:I0}{w:Ni}{K:bN}{mg:Str->Option eF}{base:Heap}{gF gH:Addr}{ffd hfd:M5}{n j:Nat}(hj:4<=j){f:Addr}{cdv:eF}{A:Nq}{outer:List OE}{s:fy}{H1:Hp}{E:XK}(B:eL P w K mg base "_law_kind_fault" 2 Vu (ql K) gF ffd)(y:eL P w K mg base "_law_term_fault" j Ve (ue K n) gH hfd)(e:mg "len"=none)(hr:dj j (A.deeper (Nj "_law_due" (ak iY) s.heap.objs.size f cdv))){D:L2.Ends}{H0 H:Hp}{S:mF}{kl:Kl}{dl:List Df}{pa:Addr}{kv U p:V}{o3 o4 o5 I G o8:Option V}(hB:wY kl)(hD:K0 n dl)(psq:cH K H pa [kv,U])(rd0:Rp K H (.t (dl.map jm)) U)(st:II H0 S kl dl 0 p H)(k:∀v' J,aT H0 J->mO J (cy kl dl) v'->D.rt v' J):
  jb (Zj gy Vb "_law_due" (ak iY) H1).nR ((bg iY).drop 2) D [some (.ref pa),some (.ref S.d),some p,o3,o4,o5,I,G,o8] H:=by
 refine d7 ((Z5 (Zh NC (@cz _ _ _ _ (Z8 aP (va bP 0))) (Z9 (3) (Zf (ga fP.nd gm 3) (Zf (ga fP.nd gm 4) (Zt (ga fP.nd gm 5))))) (Z5 (Zb (PW.pt (@gz _ _ _ _ _ _ _ (Zp qF (va bP 2) gv) (@fz _ _ _ _ (Zi (zp (gE hr)) (va bP 3) (Zk (va bP 1)) (by with_unfolding_all rfl))))) (Ze (Z4 fP.nd gm 2 (Zu (Z1 aH (Zd (va bP 3))))))) cO)) (Ze (cI (va bP 2))))) ?_
 right
 right
 have(da,ab,rfl,ac,Q):=rd0.aS;have M:=Q.length;rw[bM]at M;ext;refine eY (K:=K) (xs:=ab) (λi R C=>∃p o3 o4 o5 I G o8,R=[some (.ref pa),some (.ref S.d),some p,o3,o4,o5,I,G,o8]/\L4 H0 S kl dl i H p C) #[_,_,_,_,_,_,_,rfl,Kt.refl,st] ?_ ?_ ?_
 .rintro q R C hq ⟨_,_,_,_,_,_,_,_,v,_⟩;exact ac.kt v
 .rintro i xv R C hxv ⟨p,_,_,_,_,_,_,rfl,⟨v,m⟩⟩;have(t,ht,rx):=Q.get' hxv;rw[EF]at ht;have(d,o,rfl):=xn.mp ht;have(qa,v1,v2,v3,rfl,Y,q1,q2,q3):=(show Rp K H (.t [.s d.1,.t (d.2.1.map wC),enc d.2.2]) xv from rx).t3;obtain rfl:=q1.aJ;have ad:=Y.kt v;have u:=q2.kt v;have r:=q3.kt v;have go:∀{l:V}{H4:Hp},Kt C H4->II H0 S kl dl (i+1) l H4->L4 H0 S kl dl (i+1) H l H4:=λk4 W=>#[v.trans k4,W]
  cases m with
  |bad f e1 w ft =>
   have(Z,rfl,e3):=ft;ext
   (try refine Cut.go (by assumption) ?_);exact uq hj B y e hr o hB hD u r w.sm (.bad f Z e1 w rfl e3 nofun) (λl I G o8 J O g=>#[_,_,_,_,_,_,_,rfl,go O g])
  |good ds gs os e1 sc ld lg lo nd e2 =>
   subst e1;rw[vz o]at e2;have(U,d1,d2):=sc.hd;have gd:=fh sc.sd (lX S);have dg:cu C S.dd (.str d.1) (cX U (Sum.inr d.1)):=cu.k (k:=Sum.inr d.1) d1;have vk:=wK (x:=d.1) d2;ext;refine cg (λc=>?_) (λc=>?_)
   .have T:d.1∈ds.map (·.1):=by rw[vk]at c;exact of_decide_eq_true c
    rw[if_pos T]at e2;ext;intro Z aa;have L:=ae aa (.lst [.str "twice",.str d.1])
    (try refine Cut.go (by assumption) ?_);exact uq hj B y e hr o hB hD (u.same L) (r.same L) (sc.sm.trans L) (.bad (.tw,d.1) Z e2 ((sc.ext L).w ld) rfl af nofun) (λl I G o8 J O g=>#[_,_,_,_,_,_,_,rfl,go ((Kt.same L).trans O) g])
   .have T:d.1∉ds.map (·.1):=λz=>c (by rw[vk];exact decide_eq_true z);rw[if_neg T]at e2;ext
    (try refine Cut.go (by assumption) ?_);exact uq hj B y e hr o hB hD u r sc.sm (.good ds gs os rfl sc ld lg lo nd T (λ_ z=>nomatch z) e2) (λl I G o8 J O g=>#[_,_,_,_,_,_,_,rfl,go O g])
 .rintro R C ⟨p,_,_,_,_,_,_,rfl,⟨v,m⟩⟩;rw[M]at m
  have fin:D.rt p C:=by
   cases m with
   |bad f e1 w ft=>exact k _ _ w.sm (by rw[e1];exact ft)
   |good ds gs os e1 sc ld lg lo nd e2 =>
    rw[NH]at e2;exact k _ _ sc.sm (by rw[e2];exact e1)
  ext;exact fin
noncomputable def Jr(l g d e m:Addr):List (Key×V):=Ed #[0,l,g,d,e,m,[]]
theorem Je (l g d e m:Addr):oS [] (Jr l g d e m)=Jr l g d e m:=by kernel_rfl
theorem Jf (hj:4<=j)(F:jr K "_law_due" "_law_due" iY f fd)(ao:eL P w K mg base "_law_kinds_fault" 3 V3 (yh K) gS sfd)(ac:eL P w K mg base "_law_kind_fault" 2 Vu (ql K) gF ffd)(ab:eL P w K mg base "_law_term_fault" j Ve (ue K n) gH hfd)(q:mg "len"=none):
  cA P w K mg base gy (j+1) f fd VQ (Dw K n):=by
 refine F.ok fP (λvs H Q E h=>?_) (λcdv A outer s H vs Q E hr h=>?_)
 .have(_,_,_,rfl,_):=h;rfl
 have(v,kl,dl,rfl,r,hB,hD,k):=h;refine#[_,(Z5 (Z4 fP.nd gm 1 (@yC _ _ _ _ _ _ _ _ _ _ _ _ _ _ _ _ _ _ _ _ _ _ aH (@pV _ _) aH (@pV _ _) aH (dF aA) aH (dF aA) aH (@pV _ _))) (Z5 (Z4 fP.nd gm 2 (Z0 ao (Z1 (va bP 1) (Z1 (Z8 aP (va bP 0)) aA)))) cO)),?_]
 right
 right
 have(pa,u1,u2,rfl,ak,g1,g2):=r.t2;ext;intro d hd;have J:=ae hd (.dK []);have h1:upd H d (.dK []) d=some (.dK []):=af;generalize upd H d (.dK [])=H1 at J h1|-;ext;intro l M;have D:=ae M (.dK []);have h2:upd H1 l (.dK []) l=some (.dK []):=af;generalize upd H1 l (.dK [])=H2 at D h2|-;ext;intro g B;have C:=ae B (.dK []);have h3:upd H2 g (.dK []) g=some (.dK []):=af;generalize upd H2 g (.dK [])=H3 at C h3|-;ext;intro o W;have y:=ae W (.lst []);have h4:upd H3 o (.lst []) o=some (.lst []):=af;generalize upd H3 o (.lst [])=H4 at y h4|-;ext;intro p L;have u:=ae L (.lst []);have h5:upd H4 p (.lst []) p=some (.lst []):=af;generalize upd H4 p (.lst [])=H5 at u h5|-;ext;intro m t;have O:=ae t (.dK []);have h6:upd H5 m (.dK []) m=some (.dK []):=af;generalize upd H5 m (.dK [])=H6 at O h6|-;have T:=(((D.trans C).trans y).trans u).trans O;have ai:=((C.trans y).trans u).trans O;have ah:=(y.trans u).trans O;have ag:=u.trans O;have aj:=J.trans T;have an:=T _ _ h1;have am:=ai _ _ h2;have al:=ah _ _ h3;have Y:=ag _ _ h4;have Z:=O _ _ h5;have f2:H l=none:=J.free M;have f3:H g=none:=(J.trans D).free B;have f4:H o=none:=((J.trans D).trans C).free W;have f5:H p=none:=(((J.trans D).trans C).trans y).free L;have f6:H m=none:=((((J.trans D).trans C).trans y).trans u).free t;have n1:d≠l:=ay h1 M;have n2:d≠g:=ay (D _ _ h1) B;have n3:d≠m:=ay (u _ _ (y _ _ (C _ _ (D _ _ h1)))) t;have n4:l≠g:=ay h2 B;have n5:l≠m:=ay (u _ _ (y _ _ (C _ _ h2))) t;have n6:g≠m:=ay (u _ _ (y _ _ h3)) t;have n7:o≠p:=ay h4 L;have nl:∀{c:Addr}{us:List V},H6 c=some (.lst us)->c≠d:=λe=>jt e an nofun
 ext
 .exact(show _=(Jr l g o p m).map (λkv=>(kV kv.1,kv.2))from rfl)
 refine#[by show 5<=15;decide,?_];rw[Je];have R:aT H (upd H6 d (.dK (Jr l g o p m))):=aj.oq hd _;have I:eG H #[d,l,g,o,p,m,[]] [] [] [] [] [] (upd H6 d (.dK (Jr l g o p m))):=#[#[hd,f2,f3,f4,f5,f6,n4,n5,n6,n1,n2,n3,n7],R,af,by show upd _ _ _ l=_;rw[au n1.symm];exact am,.nil,#[[],by show upd _ _ _ g=_;rw[au n2.symm];exact al,.nil],#[[],by show upd _ _ _ m=_;rw[au n3.symm];exact h6,.nil],by show upd _ _ _ p=_;rw[au (nl Z)];exact Z,by show upd _ _ _ o=_;rw[au (nl Y)];exact Y];generalize upd H6 d (.dK (Jr l g o p m))=H7 at R I|-;have G:=ak.same R;have ap:=g1.same R;have aa:=g2.same R;ext
 .intro f hf v' H' w' t' ft;have U:=I.uA t';have e1:cy kl dl=some f:=by unfold cy;rw[hf]
  ext;exact yE (S:=#[d,l,g,o,p,m,[]]) hj ac ab q (hr.mono ()) hB hD (G.kt U) (aa.kt U) (.bad f e1 w' ft) k
 intro hn kv H' ad t';have U:=I.uA t';have e1:cy kl dl=jC kl [] [] [] dl:=by unfold cy;rw[hn]
 ext;exact yE (S:=#[d,l,g,o,p,m,kv]) hj ac ab q (hr.mono ()) hB hD (G.kt U) (aa.kt U) (.good [] [] [] rfl ad (i5 _) (Nn _) (Nn _) (rE hn).2 e1) k
def AL(K:bN):Sp:=λe H Q _=>∃(a:Addr) (d:List Int),e=[.ref a]/\bQ K H a (d.map V.int)/\d.length<=63/\∀g,Q (.bl true) g
theorem KA (e:Er):Wo (Iv e):=by
 cases e with
 |tw=>exact#[by decide,uo _ (by decide)]
 |nn=>exact#[by decide,uo _ (by decide)]
 |wr=>exact#[by decide,uo _ (by decide)]
theorem tw_ok (b:yG z dp kl dl):twOk (twF (cy kl dl)):=by
 cases e:cy kl dl with
 |none=>exact True.intro
 |some f =>
  have w:=Gm b e;have d:=KA f.1;exact#[d.2,w.2,Nu d.1 (by decide),Nu w.1 (by decide)]
structure KC(K:bN) (a:Addr) (ns:List Int) (pv:V) (lw:Addr) (kl:Kl) (dl:List Df) (ws:List Str) (H:Hp):Prop where
 s:bQ K H a (ns.map V.int)
 r:Rp K H (.t [.t (kl.map gZ),.t (dl.map jm)]) pv
 w:H lw=some (.lst (ws.map V.str))
theorem KC.same {pv:V}(h:KC K a ns pv e kl dl d H)(s:aT H g):KC K a ns pv e kl dl d g:=#[s.seq h.s,h.r.same s,s _ _ h.w]
theorem twoSame (h:yD H o v)(s:aT H d):yD d o v:=by
 cases o with
 |none=>exact h
 |some w =>
  have(p,e,q):=h;exact#[p,e,s _ _ q]
noncomputable def zy:List Str:=["zzzzzz","yy"]
structure M3(K:bN) (f:Addr) (ov:V) (H0 H:Hp) (kl:Kl) (dl:List Df) (z dp:Nat):Prop where
 s:aT H0 H
 f:cP H f
 r:Rp K H (.t [.t (kl.map gZ),.t (dl.map jm)]) ov
 b:yG z dp kl dl
theorem gw :Nm Vg (ak nu):=by decide
theorem kL :Lm Vg (ak nu):=by decide
theorem j7 :aZ Vg ["_law_script"] (ak nu):=#[rfl,rfl,rfl,by decide,rfl,by decide,by decide]
theorem D5 {P:I0}{w:Ni}{K:bN}{mg:Str->Option eF}{base:Heap}{gL gD:Addr}{lfd dfd:M5}{n jd j:Nat}(R:jd<=j)(h7:7<=j)(hn:9<n){f:Addr}{cdv:eF}{A:Nq}{outer:List OE}{s:fy}{U:Hp}{E:XK}(o:eL P w K mg base "_law_told" 7 VQ (zD K) gL lfd)(G:eL P w K mg base "_law_due" jd VQ (Dw K n) gD dfd)(g:mg "repr"=none)(hr:dj j (A.deeper (Nj "law" (ak nu) s.heap.objs.size f cdv))){D:L2.Ends}{H:Hp}{ov:V}{z dp:Nat}{kl:Kl}{dl:List Df}{o0 o1 o2 o3 o4 o6 B:Option V}(r:Rp K H (.t [.t (kl.map gZ),.t (dl.map jm)]) ov)(b:yG z dp kl dl)(hz:z<=80)(hdp:dp<=9)(k:∀B O,aT H O->D.nx [o0,o1,o2,o3,o4,some ov,o6,B] O):
  jb (Zj gy Vg "law" (ak nu) U).nR ((forA ((bg nu).drop 2)).drop 4) D [o0,o1,o2,o3,o4,some ov,o6,B] H:=by
 refine d7 ((Z5 (Z4 j7.nd kL 7 (Z0 G (Zd (va gw 5)))) (Z5 (Zb (Zp qF (va gw 7) gv) (b7 (sa j7.nd kL 7 mS))) (Ze (Zb (PW.pt (@pH _ _ _ _ _ _ _ (Zi pK (Z2 (mw hr.gd hr.Cv) g P9 (Z1 (Z0 o (Zd (va gw 5))) aA)) (Z2 (mw hr.gd hr.Cv) g P9 (Zd (va gw 7))) (bG _)) (@oQ _ _ _ _ (Zi pK (Z2 (mw hr.gd hr.Cv) g P9 (Z1 (Z0 o (Zd (va gw 5))) aA)) (Z2 (mw hr.gd hr.Cv) g P9 (Zd (va gw 7))) (bG _))))) (b7 (cI mS))))))) ?_
 right
 right
 have hB:=b.L6;have L:=b.L7 hz (show dp<n by omega);have d8:=L.1;have S:∀d∈dl,Km d:=λd hd=>(L.2 d hd).1;have Z:=tw_ok b;refine j4 ?_;intro N1 T c1 M
 have fin:∀{q:Hp}{v:V},aT H q->yD q (twF (cy kl dl)) v->T [o0,o1,o2,o3,o4,some ov,o6,some v] q:=λ{q v} l t2=>by
  refine Cut.go M ?_;have r2:=r.same l;ext;intro Y H3 y t3;have u:=twoSame t2 y;ext;rw[show(!decide (V.str (Jd (twF (cy kl dl)))=V.str (Jd (twF (cy kl dl)))))=false by rw[decide_eq_true rfl];rfl];have r3:=r2.same y;ext;intro W H4 J t4;have Q:=twoSame u J;ext;rw[show(!decide (V.str (Jd (twF (cy kl dl)))=V.str (Jd (twF (cy kl dl)))))=false by rw[decide_eq_true rfl];rfl];ext;exact k _ _ (l.trans (y.trans J))
 clear M;ext;intro I q l m
 cases e:cy kl dl with
 |none =>
  rw[e]at m fin;obtain rfl:I=.eN:=m;have C:=fin l (v:=.bl true) rfl;ext;exact C
 |some f =>
  rw[e]at m fin;have C:=fin l (v:=I) m;have(p,rfl,hp):=m;ext;exact C
theorem qx (s:aT H g)(x:Ext r g d)(h:H r=none):aT H d:=λb o e=>x.1 b o (ay e h) (s b o e)
theorem Jg (a0:jp<=j)(aj:jd<=j)(h7:7<=j)(hn:9<n)(F:jr K "law" "law" nu f fd)(FD:eL P w K mg base "_law_feed" 1 V8 (CA K) gF ffd)(TK:eL P w K mg base "_law_take" 1 U6 cD gT tfd)(an:eL P w K mg base "_law_named_program" jp V0 (AF K) gP pfd)(B:eL P w K mg base "_law_told" 7 VQ (zD K) gL lfd)(S:eL P w K mg base "_law_due" jd VQ (Dw K n) gD dfd)(ap:eL P w K mg base "_law_changed" 4 VO (vD K) gC cfd)(z_range:mg "range"=none)(m:mg "repr"=none):cA P w K mg base gy (j+1) f fd ["_law_script"] (AL K):=by
 refine F.ok j7 (λvs H Q E h=>?_) (λcdv A outer s H vs Q E hr h=>?_)
 .have(a,ns,rfl,_):=h;rfl
 have(a,ns,rfl,hS,ax,k):=h;refine#[_,(Z5 (Zq (Z0 an (Z1 (Z0 FD (dc (va gw 0) (Zd aC))) (Zd aC))) (Z9 (2) (Zf (ga j7.nd kL 1) (Zt (ga j7.nd kL 2))))) (Z5 (Z4 j7.nd kL 2 (Zn iT (va gw 2) (Zu (dc aH (Zd aH))))) (Z5 (Zh NC (uI (by left) z_range (Zd aC)) (ga j7.nd kL 3) (Z5 (Zb (PW.pt (@pH _ _ _ _ _ _ _ (Zi Gu (Z0 B (Zd (va gw 1))) mS (bG _)) (@oQ _ _ _ _ (Zi rQ (Z0 S (Zd (va gw 1))) gv (bG _))))) (b7 (cI mS))) (Z5 (Z4 j7.nd kL 4 (Z0 FD (Z1 (va gw 0) (Z1 (bS dS aC (va gw 3)) aA)))) (Z5 (sa j7.nd kL 5 (va gw 1)) (Z5 (Zh NC (Zr (Z1 (Zn dS aC (Z0 TK (dc (va gw 4) (Zd aC)))) aA)) (ga j7.nd kL 6) (Ze (Z4 j7.nd kL 5 (Z0 ap (Z1 (va gw 4) (Z1 (va gw 5) (Zd (va gw 2)))))))) cO))))) (Ze (Zv (@jq _ _ _ _ _ _ _ _ D4 (Z0 B (Zd (va gw 1))) mS (bG _))))))),?_]
 right
 right
 ext;intro fe H1 s1 ak a1;ext;intro p lw pv H2 kl Y l x2 az h2 lx wx sq r b e;have ad:=qx s1 x2 ak;ext;intro l3 ai;have s3:=ae ai (.lst [.str "zzzzzz",.str "yy"]);have h3:upd H2 l3 (.lst [.str "zzzzzz",.str "yy"]) l3=some (.lst [.str "zzzzzz",.str "yy"]):=af;have al:=s3 _ _ h2;generalize upd H2 l3 (.lst [.str "zzzzzz",.str "yy"])=H3 at s3 h3 al|-;have lc:(l.map V.str).length+([.str "zzzzzz",.str "yy"]:List V).length<=mH:=small (by rw[bM];show l.length+2<=_;omega);ext;intro t ah;have ea:l.map V.str++[.str "zzzzzz",.str "yy"]=(l++zy).map V.str:=by rw[lj];rfl
 rw[ea];have s4:=ae ah (.lst ((l++zy).map V.str));have h4:upd H3 t (.lst ((l++zy).map V.str)) t=some (.lst ((l++zy).map V.str)):=af;generalize upd H3 t (.lst ((l++zy).map V.str))=H4 at s4 h4|-;have J:=s3.trans s4
 have aa:∀x∈l++zy,Wo x:=λx hx=>(M7.mp hx).elim (wx x) (λz=>by
  have z:x∈[("zzzzzz":Str),"yy"]:=z;simp only[M8,Nv,or_false]at z;rcases z with rfl|rfl
  .exact#[by decide,uo _ (by decide)]
  .exact#[by decide,uo _ (by decide)])
 have M:1<=(l++zy).length:=by rw[i4];show 1<=_+2;omega
 have L:(l++zy).length<=100:=by rw[i4];show _+2<=100;omega
 have i0:KC K a ns pv t kl Y (l++zy) H4:=#[(ad.trans J).seq hS,r.same J,h4];generalize l++zy=ws at i0 aa M L;have hB:=b.L6;have hD:=b.L7 (show(34:Int).toNat<=80 by decide) (show 6<n by omega);have d8:=hD.1;have a2:∀d∈Y,Km d:=λd hd=>(hD.2 d hd).1;ext;refine iG (n:=4) (λi u H5=>∃o3 o4 o5 o6 U,u=[some (.ref a),some pv,some (.ref t),o3,o4,o5,o6,U]/\KC K a ns pv t kl Y ws H5) #[_,_,_,_,_,rfl,i0] ?_ ?_
 .rintro i u H5 hi ⟨_,_,_,_,_,rfl,W⟩;have r5:=W.r;ext;intro v6 H6 s6 I;rw[e]at I;obtain rfl:v6=.bl true:=I;have i6:=W.same s6;have r6:=i6.r;ext;intro v7 H7 s7 t7;rw[e]at t7;obtain rfl:v7=.eN:=t7;have D:=i6.same s7;have ar:=D.s;ext;intro f8 H8 s8 o a3;have i8:=D.same s8;have n8:t≠f8:=ay D.w o;ext;intro m9 H9 aw av Z;ext;refine iG (n:=(1+m9).toNat) (λq u C=>∃o6 U T v y,u=[some (.ref a),some pv,some (.ref t),some (.int (0+(i:Int))),some (.ref f8),some T,o6,U]/\M3 K f8 T H7 C v y (34+2*q) (6+q)) #[_,_,pv,kl,Y,rfl,#[qx s8 Z o,Z.2,(D.same (qx s8 Z o)).r,b]] ?_ ?_
  .rintro q u C hq ⟨_,_,T,v,y,rfl,g⟩;have a4:=g.f;have as:=g.r;have a5:=g.b;have aq:=(D.same g.s).w;ext;intro ab ao O R G ag am;exact#[_,_,ab,O,R,rfl,#[qx g.s G o,G.2,ag,am]]
  .rintro u C ⟨_,_,T,v,y,rfl,g⟩;ext;refine D5 (z:=34+2*(1+m9).toNat) (dp:=6+(1+m9).toNat) aj h7 hn B S m hr g.r g.b () () λU ao ac=>#[_,_,_,_,_,rfl,D.same (g.s.trans ac)]
 .rintro u H5 ⟨_,_,_,_,_,rfl,W⟩;have r5:=W.r;ext;intro v6 H6 s6 I;rw[e]at I;obtain rfl:v6=.bl true:=I;ext;exact k _
end G14
namespace L2
open PySem PySem.Spec PyProof.Rows
end L2
namespace L2
open PySem PySem.Spec PyProof.Rows PySem.W PySem.Calls
noncomputable def ur(d:List O7):Bool:=d.all λe=>match e.key with|.str _ _=>true|_=>false
theorem G1 {K:Frag}(X:K.In h)(e:K.lookup N=some #[c,m,.dict d n,g])(hs:ur d.toList=true):
  h.Ns N (UC d):=by
 refine#[_,d,n,X _ _ e,rfl,λa l=>?_,λ_=>rfl];have z:=NO.mp hs a (Ry.mpr l)
 split at z
 .rename_i y t q;exact#[y,t,q]
 .cases z
end L2
namespace L2
open PySem PySem.W
noncomputable def Gw(K:Frag)(C:Addr):Bool:=(Od K (.ref C) "__getattribute__" == some (some (.builtin "BaseException.__getattribute__")))&&(Od K (.ref C) "__getattr__" == some none)&&(mroIn K C (.type "BaseException") == some true)
theorem D6 (h:Gw K C=true):zf K C:=by
 unfold Gw at h;simp only[NJ,beq_iff_eq]at h;exact#[h.1.1,h.1.2,h.2]
noncomputable def Gx(K:Frag)(C b:Addr):Bool :=
 Gw K C&&P5 K C&&(Od K (.ref C) "__class__" == some (some (.builtin "object.__class__"))) &&
 (specialIn K (.builtin "object.__class__") "__get__" == some (some (.builtin "getset_descriptor.__get__")))&&(takesIn K (.builtin "object.__class__") == some true)&&(mroIn K C (.type "object") == some true) &&
 (RJ K (.ref C) (.ref b) == some true)&&(RJ K (.ref C) (.type "ValueError") == some true)&&Pb K (.ref C)
noncomputable def wV(K:Frag)(C:Addr)(n:Str):Bool :=
 rS K C&&(Od K (.ref C) "__setattr__" == some (some (.builtin "object.__setattr__")))&&(Rb K C n == some none) &&
 Gw K C&&P5 K C&&(Od K (.ref C) n).any (noGet K)
theorem lB (h:wV K C n=true):wj K C n/\Ih K C n:=by
 unfold wV at h;simp only[NJ,beq_iff_eq]at h;have(((((p,o),m),l),g),d):=h;refine#[#[p,o,m],#[D6 l,g,?_]]
 cases e:Od K (.ref C) n with
 |none=>rw[e]at d;cases d
 |some a=>rw[e]at d;exact#[a,rfl,d]
theorem zE (h:Gx K C b=true):Bf K C/\RJ K (.ref C) (.ref b)=some true/\RJ K (.ref C) (.type "ValueError")=some true/\Pb K (.ref C)=true:=by
 unfold Gx at h;simp only[NJ,beq_iff_eq]at h;have((((((((r,q),p),o),m),l),g),e),d):=h;exact#[#[D6 r,q,p,o,m,l],g,e,d]
structure ClsAt(K:Frag) (C b:Addr) (i:Option eF):Prop where
 ex:∃nm q N bs hdct sn sub ab col dd k0 k1 k2 k3 k5,K.lookup C=some (Qn nm q C N bs (.ref b::iZ) hdct sn sub ab col dd k0 k1 k2 k3 k5 "ValueError.__new__") /\
  ∃c d es n sl,K.lookup N=some #[c,d,.dict es n,sl]/\ur es.toList=true/\UC es "__init__"=i
structure nQ(K:Frag) (b:Addr):Prop where
 ex:∃nm q N bs hdct sn sub ab col dd k0 k1 k2 k3 k5,K.lookup b=some (Qn nm q b N bs iZ hdct sn sub ab col dd k0 k1 k2 k3 k5 "ValueError.__new__") /\
  ∃c d es n sl,K.lookup N=some #[c,d,.dict es n,sl]/\ur es.toList=true/\UC es "__init__"=none
theorem nQ.tail (B:nQ K b)(X:K.In h):OwnTail h iZ (.ref b::iZ):=by
 have(t,q,N,bs,d,r,sub,J,p,G,C,z,y,v,u,e,I,H,D,n,g,o,l,m):=B.ex;exact .own (X _ _ e) (G1 X o l) m .base
theorem D7 :iZ.contains (.type "BaseException")=true:=by decide
theorem nQ.c (B:nQ K b):zg K b:=by
 refine⟨λh X=>?_⟩;have(m,q,N,bs,d,l,sub,y,g,v,u,t,r,p,o,e,_):=B.ex;exact#[m,q,N,bs,_,d,l,sub,y,g,v,u,t,r,p,o,_,X _ _ e,D7]
theorem ClsAt.c (Z:ClsAt K C b i):zg K C:=by
 refine⟨λh X=>?_⟩;have(m,q,N,bs,d,l,sub,y,g,v,u,t,r,p,o,e,_):=Z.ex;exact#[m,q,N,bs,_,d,l,sub,y,g,v,u,t,r,p,o,_,X _ _ e,by rw[Pz,D7,RS]]
theorem ClsAt.sub (Z:ClsAt K C b i)(B:nQ K b):wu K C b:=by
 refine#[λh X=>?_,B.c];have(m,q,N,bs,d,l,sub,y,g,v,u,t,r,p,o,e,_):=Z.ex;exact#[m,q,N,bs,_,d,l,sub,y,g,v,u,t,r,p,o,_,X _ _ e,by rw[Pz,Pz,beq_self_eq_true (Value.ref b),Bool.true_or,RS]]
theorem ClsAt.k (Z:ClsAt K C b (some (.ref f)))(B:nQ K b){x q:Str}{st:Stmt}(F:∃od g,K.lookup f=some #[.type "function",od,.func G,g])(kp:Pb K (.ref C)=true):E5 K C f:=by
 refine#[λh X=>?_,kp];have(p,q,N,bs,l,o,sub,L,m,J,y,v,u,t,r,e,c,d,O,n,M,I,z,D):=Z.ex;have(od,g,H):=F;exact#[p,q,N,bs,_,l,o,sub,L,m,J,y,v,u,t,r,_,_,X _ _ e,G1 X I z,D,B.tail X,X _ _ H,rfl]
noncomputable def D8(K:Frag)(d e:List Addr)(b:Addr):Bool :=
 (Pa 3).all λk=>Gx K (d.getD k 0) b&&((Pa 3).all λj=>RJ K (.ref (d.getD k 0)) (.ref (d.getD j 0)) == some (k == j))&&(U0 K (.ref (d.getD k 0)) (e.map Value.ref) == some false)&&wV K (d.getD k 0) "name"
end L2
namespace G14
open PySem L2
def BR(H:Hp)(k:Str×List (Str×List Kk))(e:Key×V):Prop:=∃l,e=(Sum.inr k.1,V.ref l)/\H l=some (.lst (k.2.map λt=>.str t.1))
structure M4(H:Hp) (kl:Kl) (H2:Hp) (kvs:List (Key×V)):Prop where
 s:aT H H2
 p:Paired (BR H2) kl kvs
structure Jh(H:Hp) (o dK dT dM:Addr) (kl:Kl) (kvs:List (Key×V)) (Hx:Hp):Prop where
 so:So o H Hx
 hK:Hx dK=some (.dK kvs)
 hT:Hx dT=some (.dK ((tl kl).map λx=>(Sum.inr x.1,.str x.2.1)))
 hM:Hx dM=some (.dK ((tl kl).map λx=>(Sum.inr x.1,.int x.2.2.length)))
 pk:Paired (BR Hx) kl kvs
theorem Jh.same (h:Jh H o dK dT dM kl kvs Hx)(s:aT Hx Hy):Jh H o dK dT dM kl kvs Hy :=
 #[h.so.same s,s _ _ h.hK,s _ _ h.hT,s _ _ h.hM,Paired.imp' (λx e ⟨l,g,d⟩=>#[l,g,s _ _ d]) h.pk]
theorem Jh.fld (h:Jh H o dK dT dM kl kvs Hx)(m:Hx o=some (.ins C dx fs))(x:HO):Jh H o dK dT dM kl kvs (upd Hx o x) :=
 have d:∀{b:Addr}{u:HO},Hx b=some u->u≠.ins C dx fs->b≠o:=λ{b u} e n z=>n (by rw[z,m]at e;exact(Ng e).symm)
 #[h.so.upd x,by rw[au (d h.hK nofun)];exact h.hK,by rw[au (d h.hT nofun)];exact h.hT,by rw[au (d h.hM nofun)];exact h.hM,
  Paired.imp' (λy e ⟨l,p,g⟩=>#[l,p,by rw[au (d g nofun)];exact g]) h.pk]
theorem Mc :∀{kl:Kl}{kvs:List (Key×V)},Paired (BR d) kl kvs->Paired (λ(k:Str×List (Str×List Kk)) (e:Key×V)=>∃l,e=(Sum.inr k.1,V.ref l)/\l≠a.lG) kl kvs->Paired (λ(k:Str×List (Str×List Kk)) (e:Key×V)=>∃l,e=(Sum.inr k.1,V.ref l)/\l≠a.lO) kl kvs->Paired (KW a d) kl kvs
 |_,_,.nil,_,_=>.nil
 |_,_,.cons ⟨l,e1,e2⟩ t,.cons ⟨l',e1',n1⟩ t',.cons ⟨l'',e1'',n2⟩ t''=>by
  subst e1;have m:l=l':=V.ref.inj (Sm e1').2;have g:l=l'':=V.ref.inj (Sm e1'').2;subst m g;exact .cons #[l,rfl,e2,n1,n2] (Mc t t' t'')
structure Me(H:Hp) (d:Addr) (ob:Obj) (tv:List (Key×V)) (kvs ks:List (Key×V)) (H2:Hp):Prop where
 s:aT H H2
 d:H2 d=some (.nH ob (.dK tv))
 e:kvs=ks
theorem dB :Nm VH (ak fS):=by decide
theorem uF :aZ VH VH (ak fS):=#[rfl,rfl,rfl,by decide,rfl,by decide,by decide]
theorem Ea (F:jr K "__init__" "Known.__init__" fS f fd)(N:Jo K C)(bi:eL P w K mg base "tags_of" 1 Wa (yd K) gT tfd)(am:mg "len"=none):cA P w K mg base gy 2 f fd VH (Ac K C):=by
 refine F.ok uF (λvs H Q E h=>?_) (λcdv A outer s H vs Q E hr h=>?_)
 .have(_,_,_,_,_,_,rfl,_):=h;rfl
 have(H0,o,B,v,m,dt,rfl,hs,h0,ho,r,hB,bs,bu,k):=h;refine#[_,(Z5 (@qH _ _ _ _ _ _ _ _ (va dB 0) (@qP _ _ _ _ _ _ _ _ _ _ _ _ _ (ak fS) VH V1 [] rfl rfl rfl (by decide) (@cz _ _ _ _ (Z8 aP (va dB 1))) (λ_ _ _ _=>(Z9 (2) (Zf (Z3 (i:=0) (show(V1:List Str).Nodup by decide)) (Zt (Z3 (i:=1) (show(V1:List Str).Nodup by decide)))))) (λ_ _ _ _=>fZ) (λ_ _ _ _=>(va (show Nm V1 _ by left) 0)) (λ_ _ _ _=>(@kW _ _ _ _ _ _ _ _ _ _ _ _ V1 ["tag","inner"] [] rfl rfl rfl (by kernel_rfl) (zX K rfl (va (show Nm V1 _ by left) 1)) (λ_ _ _ _=>(Z9 (2) (Zf (Z3 (i:=0) (show(["tag","inner"]:List Str).Nodup by decide)) (Zt (Z3 (i:=1) (show(["tag","inner"]:List Str).Nodup by decide)))))) (λ_ _ _ _=>fZ) (λ_ _ _ _=>(va (show Nm ["tag","inner"] _ by left) 0)) (by intro _;rfl))) (by intro _;rfl)) rfl) (Z5 (@qH _ _ _ _ _ _ _ _ (va dB 0) (@qP _ _ _ _ _ _ _ _ _ _ _ _ _ (ak fS) VH Vr [] rfl rfl rfl (by decide) (yb (Z0 bi (Zd (va dB 1))) (by kernel_rfl) (by kernel_rfl)) (λ_ _ _ _=>(Z9 (2) (Zf (Z3 (i:=0) (show(Vr:List Str).Nodup by decide)) (Zf (Z9 (2) (Zf (Z3 (i:=1) (show(Vr:List Str).Nodup by decide)) (Zt (Z3 (i:=2) (show(Vr:List Str).Nodup by decide))))) vH)))) (λ_ _ _ _=>fZ) (λ_ _ _ _=>(va (show Nm Vr _ by left) 0)) (λ_ _ _ _=>(va (show Nm Vr _ by left) 1)) (by intro _;rfl)) rfl) (Z5 (@qH _ _ _ _ _ _ _ _ (va dB 0) (@qP _ _ _ _ _ _ _ _ _ _ _ _ _ (ak fS) VH Vr [] rfl rfl rfl (by decide) (yb (Z0 bi (Zd (va dB 1))) (by kernel_rfl) (by kernel_rfl)) (λ_ _ _ _=>(Z9 (2) (Zf (Z3 (i:=0) (show(Vr:List Str).Nodup by decide)) (Zf (Z9 (2) (Zf (Z3 (i:=1) (show(Vr:List Str).Nodup by decide)) (Zt (Z3 (i:=2) (show(Vr:List Str).Nodup by decide))))) vH)))) (λ_ _ _ _=>fZ) (λ_ _ _ _=>(va (show Nm Vr _ by left) 0)) (λ_ _ _ _=>(Z2 (oN K rfl) am Nh (Zd (va (show Nm Vr _ by left) 2)))) (by intro _;rfl)) rfl) (Z5 (qH (va dB 0) (@pV _ _) rfl) (Z5 (qH (va dB 0) (dF aA) rfl) (Ze (qH (va dB 0) (dF aA) rfl))))))),?_]
 right
 right
 have hc:=N.c;have n1:=N.kinds;have n2:=N.ktag;have n3:=N.mtag;have n4:=N.mdef;have n5:=N.gaps;have n6:=N.opens;have a7:=id r;have(pa,u1,u2,rfl,b5,g1,g2):=r.t2;have(a,us,rfl,sq,rs):=g1.aS;have bm:=rs.length;rw[bM]at bm;have bo:=qi hB;rw[<-oZ,bM]at bo;ext;refine Bm (K:=K) (xs:=us) (λi I g H2=>(∃y1 y2,I=[y1,y2])/\M4 H (m.take i) H2 g) #[#[_,_,rfl],aT.refl _,.nil] ?_ (small (by have:=hB.1;omega)) ?_ ?_ ?_
 .rintro i I g H2 hi ⟨_,T⟩;have:=T.p.length;rw[L1]at this;omega
 .rintro i I g H2 hi ⟨_,T⟩;exact sq.same T.s
 .rintro i xv I g H2 hxv ⟨⟨_,_,rfl⟩,T⟩;have(t,ht,rx):=rs.get' hxv;rw[EF]at ht;have(kd,ap,rfl):=xn.mp ht;have ag:=(bH.mp ap).1;have bh:m.take (i+1)=m.take i++[kd]:=by rw[mu ag,(bH.mp ap).2]
  have(ka,k1,k2,rfl,bp,q1,q2):=(show Rp K H (.t [.s kd.1,.t (kd.2.map kK)]) xv from rx).t2;obtain rfl:=q1.aJ;have b1:=bp.same T.s;have(b4,ar,rfl,bk,av):=q2.aS;have bn:=av.length;rw[bM]at bn;have as:=bk.same T.s;have ca:=(hB.2 kd (M9 ap)).1
  have nw:∀L∈g,L.1≠Sum.inr kd.1:=λL ad z=>by
   have(n,bt):=NR ad;have(x,hx,l,e,_):=Paired.getL T.p bt;rw[e]at z;have z':x.1=kd.1:=Oq z;have hn:=bu.sublist (Qs (·.1) (Qh (i+1) m));rw[bh,lj]at hn;exact(OC.mp hn).2.2 x.1 (NT (M9 hx)) kd.1 (by simp) z'
  ext;refine gb (K:=K) (xs:=ar) (λj I vs Z=>(∃y1 y2,I=[y1,y2])/\Z=H2/\vs=(kd.2.take j).map λt=>V.str t.1) #[#[_,_,rfl],rfl,rfl] ?_ (small ()) ?_ ?_ ?_
  .rintro j I vs Z hj ⟨_,_,rfl⟩;rw[bM,L1];omega
  .rintro j I vs Z hj ⟨_,rfl,_⟩;exact as
  .rintro j yv I vs Z hyv ⟨⟨_,_,rfl⟩,rfl,rfl⟩;have(t,ht,ry):=av.get' hyv;rw[EF]at ht;have(tg,a6,rfl):=xn.mp ht;have bv:=(bH.mp a6).1;have b0:kd.2.take (j+1)=kd.2.take j++[tg]:=by rw[mu bv,(bH.mp a6).2]
   have(ga,w1,w2,rfl,bz,p1,p2):=(show Rp K H (.t [.s tg.1,.t (tg.2.map jJ)]) yv from ry).t2;obtain rfl:=p1.aJ;have b3:=bz.same T.s;ext;rw[b0,lj];rfl
  .rintro I vs Z ⟨_,rfl,rfl⟩ l hl;rw[show ar.length=kd.2.length by omega,Nl];have s4:=ae hl (.lst (kd.2.map λt=>V.str t.1));have h4:upd Z l (.lst (kd.2.map λt=>V.str t.1)) l=some (.lst (kd.2.map λt=>V.str t.1)):=af;generalize upd Z l (.lst (kd.2.map λt=>V.str t.1))=H4 at s4 h4|-;refine#[Sum.inr kd.1,rfl,#[_,_,rfl],?_];rw[lV nw,bh];exact#[T.s.trans s4,Paired.yc (Paired.imp' (λx e ⟨l,R,J⟩=>#[l,R,s4 _ _ J]) T.p) #[l,rfl,h4]]
 .rintro I g H2 ⟨_,T⟩ dK hdK;rw[show us.length=m.length by omega,Nl]at T;have s3:=ae hdK (.dK g);have h3:upd H2 dK (.dK g) dK=some (.dK g):=af;have p3:Paired (BR (upd H2 dK (.dK g))) m g:=Paired.imp' (λx e ⟨l,R,J⟩=>#[l,R,s3 _ _ J]) T.p;generalize upd H2 dK (.dK g)=Z at s3 h3 p3|-;have ax:=T.s.trans s3;have o3:=ax _ _ ho;have an:So o H (upd Z o (.ins C B (aX "kinds" (.ref dK) []))):=((So.refl o H).same ax).upd _;have r4:=a7.kt (an.kt ho);have a0:o≠dK:=jt o3 h3 nofun
  have o4:upd Z o (.ins C B (aX "kinds" (.ref dK) [])) o=some (.ins C B (aX "kinds" (.ref dK) [])):=af;have h4:upd Z o (.ins C B (aX "kinds" (.ref dK) [])) dK=some (.dK g):=by rw[au a0.symm];exact h3
  have p4:Paired (BR (upd Z o (.ins C B (aX "kinds" (.ref dK) [])))) m g:=Paired.imp' (λx e ⟨l,R,J⟩=>#[l,R,by rw[au (jt J o3 nofun)];exact J]) p3
  ext;generalize upd Z o (.ins C B (aX "kinds" (.ref dK) []))=H4 at an r4 o4 h4 p4|-;intro d1 H5 tv s5 bx h5 p5;refine#[d1,tv,rfl,h5,λob=>?_];have k5:Kt H5 (upd H5 d1 (.nH ob (.dK tv))):=Kt.upd h5 (λ_ z=>nomatch z) (λ_ _ z=>nomatch z) _
  have s6:aT H4 (upd H5 d1 (.nH ob (.dK tv))):=s5.oq bx _;have h6:upd H5 d1 (.nH ob (.dK tv)) d1=some (.nH ob (.dK tv)):=af;have p6:Paired (Fj K (upd H5 d1 (.nH ob (.dK tv)))) (tl m) tv:=Paired.imp' (λx e ⟨q,iv,R,J,e3⟩=>#[q,iv,R,by rw[au (jt J h5 nofun)];exact J,e3.kt k5]) p5
  generalize upd H5 d1 (.nH ob (.dK tv))=H6 at s6 h6 p6|-;have b8:=p6.length;have a1:((tl m).map (·.1)).Nodup:=by rw[oZ];exact bs
  refine rD (xs:=tv) (λi I L H7=>(∃y1 y2 y3,I=[y1,y2,y3])/\Me H6 d1 ob tv L (((tl m).take i).map λx=>(Sum.inr x.1,.str x.2.1)) H7) #[#[_,_,_,rfl],aT.refl _,h6,rfl] ?_ (small ()) ?_ ?_ ?_
  .rintro i I L H7 hi ⟨_,G⟩;rw[G.e,bM,L1];omega
  .rintro i I L H7 hi ⟨_,G⟩;exact G.d
  .rintro i x I L H7 p7 hx ⟨⟨_,_,_,rfl⟩,G⟩ hp7;have(y,hy,q,iv,rfl,hq,az):=Paired.getL p6 hx;have ag:=(bH.mp hy).1;have ah:(tl m).take (i+1)=(tl m).take i++[y]:=by rw[mu ag,(bH.mp hy).2]
   have O:=ae hp7 (.tup [kV (Sum.inr y.1),.ref q]);have h8:upd H7 p7 (.tup [kV (Sum.inr y.1),.ref q]) p7=some (.tup [.str y.1,.ref q]):=af;generalize upd H7 p7 (.tup [kV (Sum.inr y.1),.ref q])=H8 at O h8|-;have q8:=O _ _ (G.s _ _ hq)
   have nw:∀L∈((tl m).take i).map (λx=>((Sum.inr x.1:Key),V.str x.2.1)),L.1≠Sum.inr y.1:=λL ad z=>by
    have(x,hx,rfl):=ND.mp ad;have z':x.1=y.1:=Oq z;have hn:=a1.sublist (Qs (·.1) (Qh (i+1) (tl m)));rw[ah,lj]at hn;exact(OC.mp hn).2.2 x.1 (NT hx) y.1 (by simp) z'
   ext
   .exact(Eq.refl (kV (Sum.inr y.1)))
   refine#[#[_,_,_,rfl],G.s.trans O,O _ _ G.d,?_];rw[G.e,lV nw,ah,lj];rfl
  .rintro I L H7 ⟨_,G⟩ dT hdT;have e7:=G.e;rw[show tv.length=(tl m).length by omega,Nl]at e7;subst e7;have O:=ae hdT (.dK ((tl m).map λx=>(Sum.inr x.1,.str x.2.1)));have t8:upd H7 dT (.dK ((tl m).map λx=>(Sum.inr x.1,.str x.2.1))) dT=some (.dK ((tl m).map λx=>(Sum.inr x.1,.str x.2.1))):=af;generalize upd H7 dT (.dK ((tl m).map λx=>(Sum.inr x.1,.str x.2.1)))=H8 at O t8|-;have ao:=s6.trans (G.s.trans O);have o8:=ao _ _ o4;have aa:So o H4 (upd H8 o (.ins C B (aX "kind_of_tag" (.ref dT) (aX "kinds" (.ref dK) [])))):=((So.refl o H4).same ao).upd _;have r9:=r4.kt (aa.kt o4);have oT:o≠dT:=jt o8 t8 nofun
   have o9:upd H8 o (.ins C B (aX "kind_of_tag" (.ref dT) (aX "kinds" (.ref dK) []))) o=some (.ins C B (aX "kind_of_tag" (.ref dT) (aX "kinds" (.ref dK) []))):=af;have t9:upd H8 o (.ins C B (aX "kind_of_tag" (.ref dT) (aX "kinds" (.ref dK) []))) dT=some (.dK ((tl m).map λx=>(Sum.inr x.1,.str x.2.1))):=by rw[au oT.symm];exact t8
   have l2:(aX "kinds" (.ref dK) []).length<1000:=by show 1<1000;omega
   ext;generalize upd H8 o (.ins C B (aX "kind_of_tag" (.ref dT) (aX "kinds" (.ref dK) [])))=H9 at aa r9 o9 t9|-;clear r4 a7 rs g1 g2;have h9:=aa _ _ a0.symm h4;have q9:Paired (BR H9) m g:=Paired.imp' (λx e ⟨l,R,J⟩=>#[l,R,aa _ _ (jt J o4 nofun) J]) p4
   have aw:=an.trans aa;intro d2 Ha tw sa bw ha bl;refine#[d2,tw,rfl,ha,λS=>?_];have ka:Kt Ha (upd Ha d2 (.nH S (.dK tw))):=Kt.upd ha (λ_ z=>nomatch z) (λ_ _ z=>nomatch z) _
   have sb:aT H9 (upd Ha d2 (.nH S (.dK tw))):=sa.oq bw _;have hb:upd Ha d2 (.nH S (.dK tw)) d2=some (.nH S (.dK tw)):=af;have pb:Paired (Fj K (upd Ha d2 (.nH S (.dK tw)))) (tl m) tw:=Paired.imp' (λx e ⟨q,iv,R,J,e3⟩=>#[q,iv,R,by rw[au (jt J ha nofun)];exact J,e3.kt ka]) bl
   generalize upd Ha d2 (.nH S (.dK tw))=Hb at sb hb pb|-;have b6:=pb.length;refine rD (xs:=tw) (λi I L Hc=>(∃y1 y2 y3,I=[y1,y2,y3])/\Me Hb d2 S tw L (((tl m).take i).map λx=>(Sum.inr x.1,.int x.2.2.length)) Hc) #[#[_,_,_,rfl],aT.refl _,hb,rfl] ?_ (small ()) ?_ ?_ ?_
   .rintro i I L Hc hi ⟨_,G⟩;rw[G.e,bM,L1];omega
   .rintro i I L Hc hi ⟨_,G⟩;exact G.d
   .rintro i x I L Hc p7 hx ⟨⟨_,_,_,rfl⟩,G⟩ hp7;have(y,hy,q,iv,rfl,hq,az):=Paired.getL pb hx;have ag:=(bH.mp hy).1;have ah:(tl m).take (i+1)=(tl m).take i++[y]:=by rw[mu ag,(bH.mp hy).2]
    have O:=ae hp7 (.tup [kV (Sum.inr y.1),.ref q]);have h8:upd Hc p7 (.tup [kV (Sum.inr y.1),.ref q]) p7=some (.tup [.str y.1,.ref q]):=af;generalize upd Hc p7 (.tup [kV (Sum.inr y.1),.ref q])=Hd at O h8|-;have q8:=O _ _ (G.s _ _ hq);have(ia,b9,rfl,bq,br):=az.aS;have b2:=(bq.same G.s).same O;have a2:=br.length;rw[bM]at a2
    have nw:∀L∈((tl m).take i).map (λx=>((Sum.inr x.1:Key),V.int x.2.2.length)),L.1≠Sum.inr y.1:=λL ad z=>by
     have(x,hx,rfl):=ND.mp ad;have z':x.1=y.1:=Oq z;have hn:=a1.sublist (Qs (·.1) (Qh (i+1) (tl m)));rw[ah,lj]at hn;exact(OC.mp hn).2.2 x.1 (NT hx) y.1 (by simp) z'
    ext
    .exact(Eq.refl (kV (Sum.inr y.1)))
    refine#[#[_,_,_,rfl],G.s.trans O,O _ _ G.d,?_];rw[G.e,lV nw,ah,lj,a2];rfl
   .rintro I L Hc ⟨_,G⟩ dM hdM;have e7:=G.e;rw[show tw.length=(tl m).length by omega,Nl]at e7;subst e7;have O:=ae hdM (.dK ((tl m).map λx=>(Sum.inr x.1,.int x.2.2.length)));have m8:upd Hc dM (.dK ((tl m).map λx=>(Sum.inr x.1,.int x.2.2.length))) dM=some (.dK ((tl m).map λx=>(Sum.inr x.1,.int x.2.2.length))):=af;generalize upd Hc dM (.dK ((tl m).map λx=>(Sum.inr x.1,.int x.2.2.length)))=Hd at O m8|-;have U:=sb.trans (G.s.trans O);have od:=U _ _ o9;have kp:Jh H o dK dT dM m g Hd:=#[aw.same U,U _ _ h9,U _ _ t9,m8,Paired.imp' (λx e ⟨l,R,J⟩=>#[l,R,U _ _ J]) q9];clear U sb G O ao q9 t9 h9;have l3:(aX "kind_of_tag" (.ref dT) (aX "kinds" (.ref dK) [])).length<1000:=by show 2<1000;omega
    have W:=kp.fld od (.ins C B (aX "many_of_tag" (.ref dM) (aX "kind_of_tag" (.ref dT) (aX "kinds" (.ref dK) []))));have oe:upd Hd o (.ins C B (aX "many_of_tag" (.ref dM) (aX "kind_of_tag" (.ref dT) (aX "kinds" (.ref dK) [])))) o=some (.ins C B (aX "many_of_tag" (.ref dM) (aX "kind_of_tag" (.ref dT) (aX "kinds" (.ref dK) [])))):=af;ext;generalize upd Hd o (.ins C B (aX "many_of_tag" (.ref dM) (aX "kind_of_tag" (.ref dT) (aX "kinds" (.ref dK) []))))=He at W oe|-;intro D Y;have l4:(aX "many_of_tag" (.ref dM) (aX "kind_of_tag" (.ref dT) (aX "kinds" (.ref dK) []))).length<1000:=by show 3<1000;omega
    have nD:D≠o:=(ay oe Y).symm;have fD:H D=none:=W.so.free nD Y;have kD:dK≠D:=ay W.hK Y;have tD:dT≠D:=ay W.hT Y;have mD:dM≠D:=ay W.hM Y;have sf:=ae Y (.dK []);have bg:upd He D (.dK []) D=some (.dK []):=af;have oF:=sf _ _ oe;have a5:=W.same sf;generalize upd He D (.dK [])=Hf at sf bg oF a5|-;have aj:=a5.fld oF (.ins C B (aX "many_of_def" (.ref D) (aX "many_of_tag" (.ref dM) (aX "kind_of_tag" (.ref dT) (aX "kinds" (.ref dK) [])))));have og:upd Hf o (.ins C B (aX "many_of_def" (.ref D) (aX "many_of_tag" (.ref dM) (aX "kind_of_tag" (.ref dT) (aX "kinds" (.ref dK) []))))) o=some (.ins C B (aX "many_of_def" (.ref D) (aX "many_of_tag" (.ref dM) (aX "kind_of_tag" (.ref dT) (aX "kinds" (.ref dK) []))))):=af;have bf:upd Hf o (.ins C B (aX "many_of_def" (.ref D) (aX "many_of_tag" (.ref dM) (aX "kind_of_tag" (.ref dT) (aX "kinds" (.ref dK) []))))) D=some (.dK []):=by rw[au nD];exact bg
    ext;generalize upd Hf o (.ins C B (aX "many_of_def" (.ref D) (aX "many_of_tag" (.ref dM) (aX "kind_of_tag" (.ref dT) (aX "kinds" (.ref dK) [])))))=Hg at aj og bf|-;intro M al;have l5:(aX "many_of_def" (.ref D) (aX "many_of_tag" (.ref dM) (aX "kind_of_tag" (.ref dT) (aX "kinds" (.ref dK) [])))).length<1000:=by show 4<1000;omega
    have nG:M≠o:=(ay og al).symm;have fG:H M=none:=aj.so.free nG al;have pG:Paired (λ(k:Str×List (Str×List Kk)) (e:Key×V)=>∃l,e=(Sum.inr k.1,V.ref l)/\l≠M) m g:=Paired.imp' (λx e ⟨l,R,J⟩=>#[l,R,ay J al]) aj.pk;have sh:=ae al (.lst []);have bc:upd Hg M (.lst []) M=some (.lst []):=af;have oH:=sh _ _ og;have be:=sh _ _ bf;have a4:=aj.same sh;generalize upd Hg M (.lst [])=Hh at sh bc oH be a4|-;have ai:=a4.fld oH (.ins C B (aX "gaps" (.ref M) (aX "many_of_def" (.ref D) (aX "many_of_tag" (.ref dM) (aX "kind_of_tag" (.ref dT) (aX "kinds" (.ref dK) []))))));have oi:upd Hh o (.ins C B (aX "gaps" (.ref M) (aX "many_of_def" (.ref D) (aX "many_of_tag" (.ref dM) (aX "kind_of_tag" (.ref dT) (aX "kinds" (.ref dK) [])))))) o=some (.ins C B (aX "gaps" (.ref M) (aX "many_of_def" (.ref D) (aX "many_of_tag" (.ref dM) (aX "kind_of_tag" (.ref dT) (aX "kinds" (.ref dK) [])))))):=af;have bb:upd Hh o (.ins C B (aX "gaps" (.ref M) (aX "many_of_def" (.ref D) (aX "many_of_tag" (.ref dM) (aX "kind_of_tag" (.ref dT) (aX "kinds" (.ref dK) [])))))) D=some (.dK []):=by rw[au nD];exact be
    have aq:upd Hh o (.ins C B (aX "gaps" (.ref M) (aX "many_of_def" (.ref D) (aX "many_of_tag" (.ref dM) (aX "kind_of_tag" (.ref dT) (aX "kinds" (.ref dK) [])))))) M=some (.lst []):=by rw[au nG];exact bc
    ext;generalize upd Hh o (.ins C B (aX "gaps" (.ref M) (aX "many_of_def" (.ref D) (aX "many_of_tag" (.ref dM) (aX "kind_of_tag" (.ref dT) (aX "kinds" (.ref dK) []))))))=Hi at ai oi bb aq|-;intro lO ac;have l6:(aX "gaps" (.ref M) (aX "many_of_def" (.ref D) (aX "many_of_tag" (.ref dM) (aX "kind_of_tag" (.ref dT) (aX "kinds" (.ref dK) []))))).length<1000:=by show 5<1000;omega
    have nO:lO≠o:=(ay oi ac).symm;have fO:H lO=none:=ai.so.free nO ac;have gO:M≠lO:=ay aq ac;have pO:Paired (λ(k:Str×List (Str×List Kk)) (e:Key×V)=>∃l,e=(Sum.inr k.1,V.ref l)/\l≠lO) m g:=Paired.imp' (λx e ⟨l,R,J⟩=>#[l,R,ay J ac]) ai.pk;have sj:=ae ac (.lst []);have a8:upd Hi lO (.lst []) lO=some (.lst []):=af;have oJ:=sj _ _ oi;have ba:=sj _ _ bb;have a9:=sj _ _ aq;have a3:=ai.same sj;generalize upd Hi lO (.lst [])=Hj at sj a8 oJ ba a9 a3|-;have ab:=a3.fld oJ (.ins C B (aX "opens" (.ref lO) (aX "gaps" (.ref M) (aX "many_of_def" (.ref D) (aX "many_of_tag" (.ref dM) (aX "kind_of_tag" (.ref dT) (aX "kinds" (.ref dK) [])))))));ext;have free:∀{b:Addr},H b=none->H0 b=none:=λ{b} e=>hs.free e;refine k _ #[B,dK,dT,dM,D,M,lO,g] #[λb u e=>?_,free fD,free fG,free fO,gO,kD,tD,mD,?_,ab.hK,?_,ab.hT,ab.hM,?_,?_,?_]
    .exact ab.so b u (ay e h0) (hs _ _ e)
    .rw[af];exact congrArg (λz=>some (HO.ins C B z)) (C2 #[B,dK,dT,dM,D,M,lO,g])
    .exact Mc ab.pk pG pO
    .rw[au nD];exact ba
    .rw[au nG];exact a9
    .rw[au nO];exact a8
end G14
namespace G14
open PySem L2 PySem.W
theorem Ji {d:Type}{P:List d->Prop}(h:∀a,P [a]):∀us:List d,us.length=1->P us
 | [a],_=>h a
theorem zF {d:Type}{P:List d->Prop}(h:∀a b,P [a,b]):∀us:List d,us.length=2->P us
 | [a,b],_=>h a b
theorem Jj {d:Type}{P:List d->Prop}(h:∀a b c,P [a,b,c]):∀us:List d,us.length=3->P us
 | [a,b,c],_=>h a b c
theorem Jk {g:Type}{P:List g->Prop}(h:∀a b c d e,P [a,b,c,d,e]):∀us:List g,us.length=5->P us
 | [a,b,c,d,e],_=>h a b c d e
noncomputable abbrev sr:Stmt:=KU EV 0
theorem Eb :aZ VE VE (ak sr):=#[rfl,rfl,rfl,by decide,rfl,by decide,by decide]
noncomputable abbrev qy:Stmt:=KU CB 0
theorem BS :aZ VE VE (ak qy):=#[rfl,rfl,rfl,by decide,rfl,by decide,by decide]
noncomputable abbrev jP:Stmt:=KU vW 0
theorem uG :aZ VE VE (ak jP):=#[rfl,rfl,rfl,by decide,rfl,by decide,by decide]
theorem Ec (F:jr K "__init__" "Twice.__init__" sr f d)(p:wj K C "name"):cA P w K mg base gy 1 f d VE (xV C "name"):=by
 refine F.ok Eb (λe H Q E h=>?_) (λcdv A outer s H e Q E hr h=>?_)
 .have(x,y,rfl,_):=h;rfl
 have(x,y,rfl,g,go):=h;exact#[_,b7 (ze (pv 0) (pv 1)),_,rfl,_,rfl,x,C,rfl,g,p,λo m l=>go o m l]
theorem BU (F:jr K "__init__" "NoName.__init__" qy f d)(p:wj K C "name"):cA P w K mg base gy 1 f d VE (xV C "name"):=by
 refine F.ok BS (λe H Q E h=>?_) (λcdv A outer s H e Q E hr h=>?_)
 .have(x,y,rfl,_):=h;rfl
 have(x,y,rfl,g,go):=h;exact#[_,b7 (ze (pv 0) (pv 1)),_,rfl,_,rfl,x,C,rfl,g,p,λo m l=>go o m l]
theorem uH (F:jr K "__init__" "WrongCount.__init__" jP f d)(p:wj K C "name"):cA P w K mg base gy 1 f d VE (xV C "name"):=by
 refine F.ok uG (λe H Q E h=>?_) (λcdv A outer s H e Q E hr h=>?_)
 .have(x,y,rfl,_):=h;rfl
 have(x,y,rfl,g,go):=h;exact#[_,b7 (ze (pv 0) (pv 1)),_,rfl,_,rfl,x,C,rfl,g,p,λo m l=>go o m l]
theorem vE (F:jr K "_law_named" "_law_named" aW gN nfd)(m:mg "_law_named"=some (.ref gN))(o:Binds K nfd U5 [])(q:jr K "_law_named_match" "_law_named_match" bZ gM mfd)(mM:mg "_law_named_match"=some (.ref gM))(t:Binds K mfd Vl [])(p:eL P w K mg base "_law_take" 1 U6 cD gT tfd)(l:eL P w K mg base "_law_named_leaf" 2 VD (wQ K) gL lfd)(e:mg "len"=none)(g:mg "int"=none)(z_range:mg "range"=none)(d:mg "tuple"=none):∀n,cA P w K mg base gy (2*n+1) gN nfd U5 (fB K n)
 |0=>zW λu H Q E ⟨_,_,_,_,_,_,_,_,_,_,_,_,_,_,_,_,_,_,y,v,_⟩=>by omega
 |n+1=>by
  have r:=vE F m o q mM t p l e g z_range d n;rw[show 2*(n+1)+1=2*n+1+2 by omega];exact DP (j:=2*n+1) () F p #[r,m,F.kp,o] #[BJ () q p #[r,m,F.kp,o] e z_range d,mM,q.kp,t] l e g
theorem AM (F:jr K "_law_term_fault" "_law_term_fault" bX gH hfd)(l:mg "_law_term_fault"=some (.ref gH))(m:Binds K hfd Ve [])(o:eL P w K mg base "_law_within" 1 VW (qt K) gW wfd)(g:eL P w K mg base "_law_itself_fault" 4 Ve (tX K) gI ifd)(e:mg "zip"=none)(d:mg "list"=none):∀n,cA P w K mg base gy (n+4) gH hfd Ve (ue K n)
 |0=>zW λp H Q E ⟨_,_,_,_,_,_,_,_,_,_,_,_,_,_,_,_,_,h,_⟩=>by omega
 |n+1=>IG (j:=n+4) () F o g #[AM F l m o g e d n,l,F.kp,m] e d
theorem BV {d:List Addr}(h:(U0 K (.ref C) (d.map Value.ref) == some r)=true):U0 K (.ref C) (d.map Value.ref)=some r:=Pn h
theorem Jl (B:nQ K b)(q1:ClsAt K m b (some (.ref J)))(C:ClsAt K l b (some (.ref I)))(y:ClsAt K g b (some (.ref H)))(h:D8 K [m,l,g] r b=true):Mb K m l g b r/\(wj K m "name"/\wj K l "name"/\wj K g "name")/\(Pb K (.ref m)=true/\Pb K (.ref l)=true/\Pb K (.ref g)=true):=by
 have all:∀k,k<3->Gx K ([m,l,g].getD k 0) b=true/\(∀j,j<3->RJ K (.ref ([m,l,g].getD k 0)) (.ref ([m,l,g].getD j 0))=some (k == j))/\U0 K (.ref ([m,l,g].getD k 0)) (r.map Value.ref)=some false/\wV K ([m,l,g].getD k 0) "name"=true:=λk D=>by
  have z:=NO.mp h k (Pu.mpr D);simp only[NJ]at z;exact#[z.1.1.1,λj G=>Pn (NO.mp z.1.1.2 j (Pu.mpr G)),BV z.1.2,z.2]
 have q:=all 0 (by decide);have p:=all 1 (by decide);have o:=all 2 (by decide);have v:=zE q.1;have u:=zE p.1;have t:=zE o.1;refine#[#[λe=>?_,λe=>?_,λe d=>?_,λe=>?_,λe=>?_,λe=>?_],#[(lB q.2.2.2).1,(lB p.2.2.2).1,(lB o.2.2.2).1],v.2.2.2,u.2.2.2,t.2.2.2]
 .cases e with
  |tw=>exact q1.sub B
  |nn=>exact C.sub B
  |wr=>exact y.sub B
 .cases e with
  |tw=>exact v.1
  |nn=>exact u.1
  |wr=>exact t.1
 .cases e with
  |tw =>
   cases d with
   |tw=>exact q.2.1 0 (by decide)
   |nn=>exact q.2.1 1 (by decide)
   |wr=>exact q.2.1 2 (by decide)
  |nn =>
   cases d with
   |tw=>exact p.2.1 0 (by decide)
   |nn=>exact p.2.1 1 (by decide)
   |wr=>exact p.2.1 2 (by decide)
  |wr =>
   cases d with
   |tw=>exact o.2.1 0 (by decide)
   |nn=>exact o.2.1 1 (by decide)
   |wr=>exact o.2.1 2 (by decide)
 .cases e with
  |tw=>exact q.2.2.1
  |nn=>exact p.2.2.1
  |wr=>exact o.2.2.1
 .cases e with
  |tw=>exact v.2.2.1
  |nn=>exact u.2.2.1
  |wr=>exact t.2.2.1
 .cases e with
  |tw=>exact(lB q.2.2.2).2
  |nn=>exact(lB p.2.2.2).2
  |wr=>exact(lB o.2.2.2).2
structure FnAt(K:Frag) (x qual:Str) (st:Stmt) (f:Addr) (fd:M5):Prop where
 ex:∃(od:Option Addr) (kV doc pm:eF) (an:Option Addr) (cdv ct:eF) (osl:Array (Option eF)),
  fd=fnOf x qual (lK st) (bg st) (ak st) .none kV doc pm an cdv ct/\K.lookup f=some #[.type "function",od,.func fd,osl]/\Sv K cdv qual=true
 kp:Pb K (.ref f)=true
theorem FnAt.f {f:Addr}(F:FnAt K x d st f o):jr K x d st f o:=by
 have(q,kV,m,p,t,cdv,r,g,e,l,c):=F.ex;exact#[#[_,q,kV,m,p,t,cdv,r,g,e,l,c],F.kp]
theorem bu {kV:eF}(l:K.lookup f=some #[.type "function",od,.func (fnOf x d (lK st) (bg st) (ak st) .none kV e m o cdv ct),g])(c:Sv K cdv d=true)(k:Pb K (.ref f)=true):FnAt K x d st f (fnOf x d (lK st) (bg st) (ak st) .none kV e m o cdv ct):=#[#[od,kV,e,m,o,cdv,ct,g,rfl,l,c],k]
theorem FnAt.l {f:Addr}(F:FnAt K x g st f m):∃od d,K.lookup f=some #[.type "function",od,.func m,d]:=by
 have(od,kV,o,p,r,cdv,q,d,e,l,c):=F.ex;exact#[od,d,l]
noncomputable def uu(K:Frag)(a:Addr)(ns:List Nat):Bool:=match K.lookup a with
 |some ⟨.type "tuple",none,.seq its _,_⟩=>its.toList.length == ns.length&&(its.toList.zip ns).all (λp=>match p.1 with|.int i _=>i == (p.2:Int)|_=>false)
 |_=>false
theorem mz (h:uu K a ns=true)(hn:ns.length<=10):∀H,cH K H a (ns.map λ(j:Nat)=>V.int (j:Int)):=by
 intro H;unfold uu at h
 split at h
 .rename_i d n C e
  rw[NJ]at h;have(g,p):=h
  replace g:=Pn g
  have u:d.size<=mH:=by
   have z:d.toList.length=d.size:=by simp
   exact small ()
  refine .inr #[_,d,n,e,rfl,rfl,u,?_,rfl];clear u e;generalize d.toList=l at g p;clear hn
  induction l generalizing ns with
  |nil=>cases ns with
   |nil=>exact .nil
   |cons _ _=>simp at g
  |cons v r ih =>
   cases ns with
   |nil=>simp at g
   |cons m q =>
    rw[P8,Sy,NJ]at p;have(o,y):=p;refine .cons ?_ (ih (by simpa using g) y)
    split at o
    .rename_i i t B
     have:i=(m:Int):=Pn o;subst this;exact#[t,B]
    .cases o
 .cases h
structure j8(K:Frag) (x:Str) (st:Stmt) (f:Addr) (fd:M5):Prop where
 a:nsIn K Nx x=some (some (.ref f))
 F:FnAt K x x st f fd
structure RG(P:I0) (w:Ni) (K:Frag) (mg:Str->Option eF) (base h:Heap):Prop where
 X:K.In h
 G:h.Ns Nx mg
abbrev LN(x:Str)(st:Stmt)(ps:List Str):Prop:=∀(kV e g:eF) (m:Option Addr) (cdv l:eF) (d:List eF),d.length=ps.length->bindArgs (fnOf x x (lK st) (bg st) (ak st) .none kV e g m cdv l) #[d,[]]=pure (ps.zip d)
theorem j8.f (F:j8 K x st g fd):jr K x x st g fd:=F.F.f
theorem j8.b (F:j8 K x st g fd)(h:LN x st ps:=by intro _ _ _ _ _ _;first|exact Ji λ_=>rfl|exact zF λ_ _=>rfl|exact Jj λ_ _ _=>rfl|exact len4 λ_ _ _ _=>rfl|exact Jk λ_ _ _ _ _=>rfl):Binds K fd ps []:=F.F.f.binds h
theorem j8.has {sp:Sp}(F:j8 K x st g fd)(R:RG P w K mg base h)(k:Nat)(o:cA P w K mg base gy k g fd ps sp)(b:LN x st ps:=by intro _ _ _ _ _ _;first|exact Ji λ_=>rfl|exact zF λ_ _=>rfl|exact Jj λ_ _ _=>rfl|exact len4 λ_ _ _ _=>rfl|exact Jk λ_ _ _ _ _=>rfl):eL P w K mg base x k ps sp g fd:=#[o,QC R.X R.G F.a,F.F.kp,F.b b]
theorem j8.wW {sp:Sp}(F:j8 K x st g fd)(R:RG P w K mg base h)(k:Nat)(o:cA P w K mg base (xS P w) k g fd ps sp)(b:LN x st ps:=by intro _ _ _ _ _ _;first|exact Ji λ_=>rfl|exact zF λ_ _=>rfl|exact Jj λ_ _ _=>rfl|exact len4 λ_ _ _ _=>rfl|exact Jk λ_ _ _ _ _=>rfl):ou P w K mg base x k ps sp g fd:=#[o,QC R.X R.G F.a,F.F.kp,F.b b]
theorem all_mk {l:RN}{bh bf ay:Addr}{b9 b6 bz bx bu br bq:M5}(X:K.In h)(G:h.Ns Nx mg)(aj:mg "law"=some (.ref fa))(F1:j8 K "innermost" jw g1 e1)(F2:j8 K "right_in" jl g2 e2)(F3:j8 K "bound" nT g3 e3)(F4:j8 K "places" jX g4 e4)(F5:j8 K "tags_of" jQ g5 e5)(F6:j8 K "look_once" jx g6 e6)(F7:j8 K "look_tag" jY g7 e7)(F8:j8 K "look_kinds" iW g8 e8)(F9:j8 K "look_params" iu g9 e9)(F10:j8 K "look_gap" lQ bh cf)(F11:j8 K "look_count" jM bf ce)(F12:j8 K "look_arms" iJ be cd)(F13:j8 K "look_term" jy bc cb)(F14:j8 K "look_names" iX bb ca)(F15:j8 K "_law_feed" sW ba b9)(F16:j8 K "_law_take" sX a9 b8)(F17:j8 K "_law_names" c8 a8 b6)(F18:j8 K "_law_named_kind" dH a7 b5)(F19:j8 K "_law_heads" jR a6 b4)(F20:j8 K "_law_named_leaf" bW a5 b3)(F21:j8 K "_law_named_match" bZ a4 b2)(F22:j8 K "_law_named" aW a3 b1)(F23:j8 K "_law_named_program" aQ a2 b0)(F24:j8 K "_law_within" jZ a1 bz)(F25:j8 K "_law_leaf_kind" iw a0 bx)(F26:j8 K "_law_kind_fault" gQ az bw)(F27:j8 K "_law_kinds_fault" eS ay bv)(F28:j8 K "_law_arms_fault" dJ ax bu)(F29:j8 K "_law_itself_fault" fL aw bt)(F30:j8 K "_law_term_fault" bX av bs)(F31:j8 K "_law_due" iY as br)(F32:j8 K "_law_told" nq ar bq)(F33:j8 K "_law_other_kind" gU aq bp)(F34:j8 K "_law_other_kind_row" bY ap bo)(F35:j8 K "_law_other_head" dQ ao bn)(F36:j8 K "_law_changed" fQ am bm)(F37:j8 K "law" nu al bl)(ab:nsIn K Nx "GapError"=some (some (.ref b)))(ac1:nsIn K Nx "Twice"=some (some (.ref W)))(ac2:nsIn K Nx "NoName"=some (some (.ref U)))(ac3:nsIn K Nx "WrongCount"=some (some (.ref S)))(ao0:nsIn K Nx "BadText"=some (some (.ref o0)))(ao1:nsIn K Nx "Clash"=some (some (.ref o1)))(ao2:nsIn K Nx "NoGap"=some (some (.ref o2)))(ao3:nsIn K Nx "NoRow"=some (some (.ref o3)))(ao4:nsIn K Nx "TooLong"=some (some (.ref o4)))(ao5:nsIn K Nx "TooMany"=some (some (.ref o5)))(j1:Od K (.ref W) "__init__"=some (some (.ref f1)))(j2:Od K (.ref U) "__init__"=some (some (.ref f2)))(j3:Od K (.ref S) "__init__"=some (some (.ref f3)))(B:nQ K b)(y1:ClsAt K W b (some (.ref f1)))(y2:ClsAt K U b (some (.ref f2)))(y3:ClsAt K S b (some (.ref f3)))(I1:FnAt K "__init__" "Twice.__init__" sr f1 d1)(I2:FnAt K "__init__" "NoName.__init__" qy f2 d2)(I3:FnAt K "__init__" "WrongCount.__init__" jP f3 d3)(tB:D8 K [W,U,S] [o0,o1,o2,o3,o4,o5] b=true)(aK:nsIn K Nx "Known"=some (some (.ref C)))(bK:Od K (.ref C) "__init__"=some (some (.ref mI)))(iK:isFn K (.ref mI)=true)(MK:FnAt K "__init__" "Known.__init__" fS mI dI)(k1:plainGet K C NB=true)(k2:P5 K C=true)(k3:plainOver K C=true)(k4:Od K (.ref C) "__setattr__"=some (some (.builtin "object.__setattr__")))(k5:makesIn K C=true)(k6:Pb K (.ref C)=true)(n1:Od K (.ref C) "kinds"=some none)(n2:Od K (.ref C) "kind_of_tag"=some none)(n3:Od K (.ref C) "many_of_tag"=some none)(n4:Od K (.ref C) "many_of_def"=some none)(n5:Od K (.ref C) "gaps"=some none)(n6:Od K (.ref C) "opens"=some none)(pP:nsIn K Nx "PLACES"=some (some (.ref dP)))(lP:K.lookup dP=some {cls:=.type "dict",dict:=none,data:=.dict O nP,slots:=#[]})(kP:GJ w O.toList [("num",V.ref t0),("name",V.ref t1),("gap",V.ref t2),("op",V.ref t3),("more",V.ref t4),("first",V.ref t5),("others",V.ref t6),("long",V.ref t7),("if",V.ref t8)])(sP:(dP == OR)=false)(pM:nsIn K Nx "PLACE_OF_MANY"=some (some (.ref dM)))(lM:K.lookup dM=some {cls:=.type "dict",dict:=none,data:=.dict Q nM,slots:=#[]})(kM:GJ w Q.toList tY)(sM:(dM == OR)=false)(q0:uu K t0 []=true)(q1:uu K t1 []=true)(q2:uu K t2 []=true)(q3:uu K t3 [2,3]=true)(q4:uu K t4 [1,2]=true)(q5:uu K t5 [1]=true)(q6:uu K t6 [1]=true)(q7:uu K t7 [1]=true)(q8:uu K t8 [1,2,3]=true)(z0:nsIn K Nx "len"=some none)(z1:nsIn K Nx "range"=some none)(z2:nsIn K Nx "int"=some none)(z3:nsIn K Nx "tuple"=some none)(z4:nsIn K Nx "list"=some none)(z5:nsIn K Nx "zip"=some none)(z6:nsIn K Nx "repr"=some none)(z7:nsIn K Nx "all"=some none)(z8:nsIn K Nx "sum"=some none)(z9:nsIn K Nx "isinstance"=some none)(z10:nsIn K Nx "enumerate"=some none)(z11:nsIn K Nx "sorted"=some none)(z12:nsIn K Nx "ValueError"=some none):
  ∃fd:M5,(∀(s:fy) (v:eF),Ur s fd #[[v],[]] [("_law_script",v)])/\∀base:Heap,K.In base->base.Ns Nx mg->cA l.prog w K mg base gy 17 fa fd ["_law_script"] (AL K):=by
 have e:=aj.symm.trans (QC X G F37.a)
 cases e
 have D1:=I1.f.binds (ps:=VE) λ_ _ _ _ _ _=>zF λ_ _=>rfl;have D2:=I2.f.binds (ps:=VE) λ_ _ _ _ _ _=>zF λ_ _=>rfl;have D3:=I3.f.binds (ps:=VE) λ_ _ _ _ _ _=>zF λ_ _=>rfl;have DK:=MK.f.binds (ps:=VH) λ_ _ _ _ _ _=>zF λ_ _=>rfl;have d:=Pe X G z0;have z_range:=Pe X G z1;have p:=Pe X G z2;have g:=Pe X G z3;have t:=Pe X G z4;have J:=Pe X G z5;have I:=Pe X G z6;have M:=Pe X G z7;have L:=Pe X G z8;have m:=Pe X G z9;have y:=Pe X G z10;have z:=Pe X G z11;have u:=Pe X G z12
 have TB:Kd K w mg dP dM [("num",V.ref t0),("name",V.ref t1),("gap",V.ref t2),("op",V.ref t3),("more",V.ref t4),("first",V.ref t5),("others",V.ref t6),("long",V.ref t7),("if",V.ref t8)]:={
  mP:=QC X G pP,mM:=QC X G pM,kP:=#[O,nP,lP,kP,(show(["num","name","gap","op","more","first","others","long","if"]:List Str).Nodup by decide),sP],kM:=#[Q,nM,lM,kM,by decide,sM],
  at_:=λf ps hm=>by
   unfold placesOf at hm;simp only[M8,Nv,or_false,Prod.mk.injEq]at hm;rcases hm with⟨rfl,rfl⟩|⟨rfl,rfl⟩|⟨rfl,rfl⟩|⟨rfl,rfl⟩|⟨rfl,rfl⟩|⟨rfl,rfl⟩|⟨rfl,rfl⟩|⟨rfl,rfl⟩|⟨rfl,rfl⟩
   .exact#[t0,rfl,mz q0 (by decide)]
   .exact#[t1,rfl,mz q1 (by decide)]
   .exact#[t2,rfl,mz q2 (by decide)]
   .exact#[t3,rfl,mz q3 (by decide)]
   .exact#[t4,rfl,mz q4 (by decide)]
   .exact#[t5,rfl,mz q5 (by decide)]
   .exact#[t6,rfl,mz q6 (by decide)]
   .exact#[t7,rfl,mz q7 (by decide)]
   .exact#[t8,rfl,mz q8 (by decide)]}
 have(C3,(bk,bj,bi),ai,ah,ag):=Jl B y1 y2 y3 tB;have N:Jo K C:=#[#[k1,k2,k3,k4],n1,n2,n3,n4,n5,n6];have(od,kV,T,pm,an,cdv,ct,ae,rfl,lk,cc):=F37.F.ex;refine#[fnOf "law" "law" (lK nu) (bg nu) (ak nu) .none kV T pm an cdv ct,λs v=>.of_eq rfl,λbase _ _=>?_];have R:RG l.prog w K mg base h:=#[X,G];have D:BY l.prog w K mg base "Twice" "name" W f1 d1:=#[y1.k (x:="") (q:="") (st:=sr) B I1.l ai,Ec I1.f bk,QC X G ac1,D1,y1.c];have o:BY l.prog w K mg base "NoName" "name" U f2 d2:=#[y2.k (x:="") (q:="") (st:=qy) B I2.l ah,BU I2.f bj,QC X G ac2,D2,y2.c];have r:BY l.prog w K mg base "WrongCount" "name" S f3 d3:=#[y3.k (x:="") (q:="") (st:=jP) B I3.l ag,uH I3.f bi,QC X G ac3,D3,y3.c];have IM:=F1.has R 1 (wF F1.f);have RI:=F2.has R 1 (yk F2.f TB);have c6:=F3.has R 1 (Dm F3.f g);have cj:=F4.has R 2 (BC F4.f c6 RI);have ci:=F5.has R 1 (zl F5.f);have cz:Kh l.prog w K mg base C "__init__" 2 _ _ mI dI:=#[Ea MK.f N ci d,#[bK,iK,MK.kp],DK,N.c];have LO:=F6.wW R 3 (Fe F6.f D y);have aa:=F10.wW R 3 (Ip F10.f D);have cq:=F7.wW R 3 (Iq F7.f IM o);have cu:=F8.wW R 4 (CV (cW:=S) F8.f LO cq);have cr:=F9.wW R 4 (Bu (cW:=S) F9.f N LO aa IM o);have ac:=F11.wW R 3 (C8 F11.f o r d);have cw:=F12.wW R 4 (Fq F12.f N LO ac o r z);have cp:=F13.wW R 5 (Dg F13.f N LO ac cw aa o);have cs:=F14.wW R 6 (BK F14.f N #[k5,bK,iK,k6] cz (QC X G aK) LO cu cr cj cp t d);have FD:=F15.has R 1 (EY F15.f d);have H:=F16.has R 1 (EX F16.f);have NM:=F17.has R 2 (DB F17.f H z_range d p);have Z:=F18.has R 2 (DC F18.f H z_range d);have c0:=F19.has R 3 (DE F19.f H Z z_range g);have co:=F20.has R 2 (DJ F20.f H d);have cn:=F22.has R 15 (vE F22.f (QC X G F22.a) F22.b F21.f (QC X G F21.a) F21.b H co d p z_range g 7);have cm:=F23.has R 16 (DW (n:=7) (j:=15) (by decide) (by decide) F23.f H NM c0 Z cn d z_range g);have WI:=F24.has R 1 (BF F24.f t p);have cv:=F25.has R 1 (C5 F25.f g m);have ad:=F26.has R 2 (C6 F26.f cv);have cx:=F27.has R 3 (Bt F27.f ad d);have c7:=F28.has R 3 (De F28.f d M z_range);have cy:=F29.has R 4 (Bx F29.f c7 d p);have cg:=F30.has R 14 (AM F30.f (QC X G F30.a) F30.b WI cy J t 10);have c4:=F31.has R 15 (Jf (n:=10) (j:=14) (by decide) F31.f cx ad cg d);have ch:=F32.has R 7 (Gv F32.f cs C3 (QC X G ab) (QC X G ac1) (QC X G ac2) (QC X G ac3) (QC X G ao0) (QC X G ao1) (QC X G ao2) (QC X G ao3) (QC X G ao4) (QC X G ao5) m u L p);have Y:=F33.has R 2 (DX F33.f H z_range);have ck:=F34.has R 3 (DY F34.f H Y d);have cl:=F35.has R 3 (DZ F35.f H Y d p);have c5:=F36.has R 4 (zC F36.f H ck cl d t g);exact Jg (n:=10) (jp:=16) (jd:=15) (j:=16) (by decide) (by decide) (by decide) (by decide) #[#[_,od,kV,T,pm,an,cdv,ct,ae,rfl,lk,cc],F37.F.kp] FD H cm ch c4 c5 z_range I
theorem walk {l:RN}{K:Params->bN}(hn:l.most=some 63)(g:d.params.defaults=[])(hY:∀(w:Ni) (h:Heap),p w h->(K w.params).In h)(F:∀(w:Ni) (mg:Str->Option eF) (o:Addr) (h:Heap),(K w.params).In h->h.Ns Nx mg->mg d.name=some (.ref o) ->
   ∃m:M5,(∀(s:fy) (u:eF),Ur s m #[[u],[]] [("_law_script",u)])/\∀base:Heap,(K w.params).In base->base.Ns Nx mg->cA l.prog w (K w.params) mg base gy 17 o m ["_law_script"] (AL (K w.params))):
  U1 q e y p l.row.toRowW d [] (λf vs=>UX f vs) :=
 L2.EA (n:=63) (k:=17) (x:="_law_script") (CX:=λ_=>gy) (sp:=λw=>AL (K w.params)) hn (by decide) g #[rfl,by decide,by decide,rfl] hY F (λ_ _ a r t _ v=>#[a,r,rfl,v,t,λ_=>rfl]) λ_ _ _ _ _ z=>z
end G14
theorem PySem.W.Fast.tw16894877991743655206:True:=⟨⟩
theorem PySem.W.Fast.tw15137483812528517451:True:=⟨⟩
theorem PySem.W.Fast.tw7014944253668080339:True:=⟨⟩
theorem PySem.W.Fast.tw7797966775457837260:True:=⟨⟩
theorem PySem.W.Fast.tw11182312622218741549:True:=⟨⟩
theorem PySem.W.Fast.tw11181649933274476038:True:=⟨⟩
theorem PySem.W.Fast.tw10244644100349864792:True:=⟨⟩
theorem PySem.W.Fast.tw16734097620834400883:True:=⟨⟩
theorem PySem.W.Fast.tw8819842761506397938:True:=⟨⟩
theorem PySem.W.Fast.tw8216661503900900445:True:=⟨⟩
theorem PySem.W.Fast.tw13695581675044074153:True:=⟨⟩
theorem PySem.W.Fast.tw8349044732005334240:True:=⟨⟩
theorem PySem.W.Fast.tw11250054710159132025:True:=⟨⟩
theorem PySem.W.Fast.tw13444757872589156967:True:=⟨⟩
theorem PySem.W.Fast.tw12283114694745269201:True:=⟨⟩
theorem PySem.W.Fast.tw14341736028475541187:True:=⟨⟩
theorem PySem.W.Fast.tw3706259575666857268:True:=⟨⟩
theorem PySem.W.Fast.tw1538426901791290441:True:=⟨⟩
theorem PySem.W.Fast.tw6564887018184489647:True:=⟨⟩
theorem PySem.W.Fast.tw783504702711883701:True:=⟨⟩
theorem PySem.W.Fast.tw3522169317641657139:True:=⟨⟩
theorem PySem.W.Fast.tw10044697944551322030:True:=⟨⟩
theorem PySem.W.Fast.tw3900565598343904920:True:=⟨⟩
theorem PySem.W.Fast.tw7979724294664291012:True:=⟨⟩
theorem PySem.W.Fast.tw3411418245855290071:True:=⟨⟩
theorem PySem.W.Fast.tw6345197321793168070:True:=⟨⟩
theorem PySem.W.Fast.tw17744034291431840730:True:=⟨⟩
theorem PySem.W.Fast.tw11083227572280902745:True:=⟨⟩
theorem PySem.W.Fast.tw3862514039376284875:True:=⟨⟩
theorem PySem.W.Fast.tw2794951374777321300:True:=⟨⟩
theorem PySem.W.Fast.tw7540474825461850292:True:=⟨⟩
theorem PySem.W.Fast.tw8421530820502423542:True:=⟨⟩
theorem PySem.W.Fast.tw2461515382414987856:True:=⟨⟩
theorem PySem.W.Fast.tw9714247546374055595:True:=⟨⟩
theorem PySem.W.Fast.tw13715015262683812669:True:=⟨⟩
theorem PySem.W.Fast.tw4280176260732341078:True:=⟨⟩
theorem PySem.W.Fast.tw8768758451263406784:True:=⟨⟩
theorem PySem.W.Fast.tw2652873129604359808:True:=⟨⟩
theorem PySem.W.Fast.tw429656671760879810:True:=⟨⟩
theorem PySem.W.Fast.tw16568114173475120623:True:=⟨⟩
theorem PySem.W.Fast.tw7565498898872085397:True:=⟨⟩
theorem PySem.W.Fast.tw14939391399859873740:True:=⟨⟩
theorem PySem.W.Fast.tw13627184221253637530:True:=⟨⟩
theorem PySem.W.Fast.tw16310552468263658181:True:=⟨⟩
theorem PySem.W.Fast.tw14566801856829765266:True:=⟨⟩
theorem PySem.W.Fast.tw4860328654778686869:True:=⟨⟩
theorem PySem.W.Fast.tw4115212404986660142:True:=⟨⟩
open PySem PySem.W PyProof.Rows
set_option maxRecDepth 100000 in
set_option maxHeartbeats 0 in
theorem PySem.Challenge.cw_gapwork_k14_kinds_and_heads_amiss_holds : PySem.Challenge.rw_gapwork_k14_kinds_and_heads_amiss.Holds := by
  w_on; o_law; k_head; (case hw => w_witness2)
  k_fill
  refine G14.walk (l := PySem.Challenge.rw_gapwork_k14_kinds_and_heads_amiss) rfl rfl (λw h Y => PySem.W.kIn_of Y) ?F
  case F =>
    intro w mg fa h KX G hmg
    refine' G14.all_mk KX G hmg ?F1 ?F2 ?F3 ?F4 ?F5 ?F6 ?F7 ?F8 ?F9 ?F10 ?F11 ?F12 ?F13 ?F14 ?F15 ?F16 ?F17 ?F18 ?F19 ?F20 ?F21 ?F22 ?F23 ?F24 ?F25 ?F26 ?F27 ?F28 ?F29 ?F30 ?F31 ?F32 ?F33 ?F34 ?F35 ?F36 ?F37 ?ab ?ac1 ?ac2 ?ac3 ?ao0 ?ao1 ?ao2 ?ao3 ?ao4 ?ao5 ?j1 ?j2 ?j3 ?B ?y1 ?y2 ?y3 ?I1 ?I2 ?I3 ?tB ?aK ?bK ?iK ?MK ?k1 ?k2 ?k3 ?k4 ?k5 ?k6 ?n1 ?n2 ?n3 ?n4 ?n5 ?n6 ?pP ?lP ?kP ?sP ?pM ?lM ?kM ?sM ?q0 ?q1 ?q2 ?q3 ?q4 ?q5 ?q6 ?q7 ?q8 ?z0 ?z1 ?z2 ?z3 ?z4 ?z5 ?z6 ?z7 ?z8 ?z9 ?z10 ?z11 ?z12
    (case F1 => exact #[by k_is, G14.bu (by k_is) (by k_is) (by k_is)])
    (case F2 => exact #[by k_is, G14.bu (by k_is) (by k_is) (by k_is)])
    (case F3 => exact #[by k_is, G14.bu (by k_is) (by k_is) (by k_is)])
    (case F4 => exact #[by k_is, G14.bu (by k_is) (by k_is) (by k_is)])
    (case F5 => exact #[by k_is, G14.bu (by k_is) (by k_is) (by k_is)])
    (case F6 => exact #[by k_is, G14.bu (by k_is) (by k_is) (by k_is)])
    (case F7 => exact #[by k_is, G14.bu (by k_is) (by k_is) (by k_is)])
    (case F8 => exact #[by k_is, G14.bu (by k_is) (by k_is) (by k_is)])
    (case F9 => exact #[by k_is, G14.bu (by k_is) (by k_is) (by k_is)])
    (case F10 => exact #[by k_is, G14.bu (by k_is) (by k_is) (by k_is)])
    (case F11 => exact #[by k_is, G14.bu (by k_is) (by k_is) (by k_is)])
    (case F12 => exact #[by k_is, G14.bu (by k_is) (by k_is) (by k_is)])
    (case F13 => exact #[by k_is, G14.bu (by k_is) (by k_is) (by k_is)])
    (case F14 => exact #[by k_is, G14.bu (by k_is) (by k_is) (by k_is)])
    (case F15 => exact #[by k_is, G14.bu (by k_is) (by k_is) (by k_is)])
    (case F16 => exact #[by k_is, G14.bu (by k_is) (by k_is) (by k_is)])
    (case F17 => exact #[by k_is, G14.bu (by k_is) (by k_is) (by k_is)])
    (case F18 => exact #[by k_is, G14.bu (by k_is) (by k_is) (by k_is)])
    (case F19 => exact #[by k_is, G14.bu (by k_is) (by k_is) (by k_is)])
    (case F20 => exact #[by k_is, G14.bu (by k_is) (by k_is) (by k_is)])
    (case F21 => exact #[by k_is, G14.bu (by k_is) (by k_is) (by k_is)])
    (case F22 => exact #[by k_is, G14.bu (by k_is) (by k_is) (by k_is)])
    (case F23 => exact #[by k_is, G14.bu (by k_is) (by k_is) (by k_is)])
    (case F24 => exact #[by k_is, G14.bu (by k_is) (by k_is) (by k_is)])
    (case F25 => exact #[by k_is, G14.bu (by k_is) (by k_is) (by k_is)])
    (case F26 => exact #[by k_is, G14.bu (by k_is) (by k_is) (by k_is)])
    (case F27 => exact #[by k_is, G14.bu (by k_is) (by k_is) (by k_is)])
    (case F28 => exact #[by k_is, G14.bu (by k_is) (by k_is) (by k_is)])
    (case F29 => exact #[by k_is, G14.bu (by k_is) (by k_is) (by k_is)])
    (case F30 => exact #[by k_is, G14.bu (by k_is) (by k_is) (by k_is)])
    (case F31 => exact #[by k_is, G14.bu (by k_is) (by k_is) (by k_is)])
    (case F32 => exact #[by k_is, G14.bu (by k_is) (by k_is) (by k_is)])
    (case F33 => exact #[by k_is, G14.bu (by k_is) (by k_is) (by k_is)])
    (case F34 => exact #[by k_is, G14.bu (by k_is) (by k_is) (by k_is)])
    (case F35 => exact #[by k_is, G14.bu (by k_is) (by k_is) (by k_is)])
    (case F36 => exact #[by k_is, G14.bu (by k_is) (by k_is) (by k_is)])
    (case F37 => exact #[by k_is, G14.bu (by k_is) (by k_is) (by k_is)])
    (case ab => k_is)
    (case ac1 => k_is)
    (case ac2 => k_is)
    (case ac3 => k_is)
    (case ao0 => k_is)
    (case ao1 => k_is)
    (case ao2 => k_is)
    (case ao3 => k_is)
    (case ao4 => k_is)
    (case ao5 => k_is)
    (case j1 => k_is)
    (case j2 => k_is)
    (case j3 => k_is)
    (case B => exact ⟨#[_, _, _, _, _, _, _, _, _, _, _, _, _, _, _, by k_is, _, _, _, _, _, by k_is, by kernel_rfl, by kernel_rfl]⟩)
    (case y1 => exact ⟨#[_, _, _, _, _, _, _, _, _, _, _, _, _, _, _, by k_is, _, _, _, _, _, by k_is, by kernel_rfl, by kernel_rfl]⟩)
    (case y2 => exact ⟨#[_, _, _, _, _, _, _, _, _, _, _, _, _, _, _, by k_is, _, _, _, _, _, by k_is, by kernel_rfl, by kernel_rfl]⟩)
    (case y3 => exact ⟨#[_, _, _, _, _, _, _, _, _, _, _, _, _, _, _, by k_is, _, _, _, _, _, by k_is, by kernel_rfl, by kernel_rfl]⟩)
    (case tB => kernel_rfl)
    (case aK => k_is)
    (case bK => k_is)
    (case k1 => k_is)
    (case k2 => k_is)
    (case k3 => k_is)
    (case k4 => k_is)
    (case k5 => k_is)
    (case k6 => k_is)
    (case n1 => k_is)
    (case n2 => k_is)
    (case n3 => k_is)
    (case n4 => k_is)
    (case n5 => k_is)
    (case n6 => k_is)
    (case pP => k_is)
    (case lP => k_is)
    (case kP => exact #[_, _, _, rfl, #[_, rfl], rfl, rfl, #[_, _, _, rfl, #[_, rfl], rfl, rfl, #[_, _, _, rfl, #[_, rfl], rfl, rfl, #[_, _, _, rfl, #[_, rfl], rfl, rfl, #[_, _, _, rfl, #[_, rfl], rfl, rfl, #[_, _, _, rfl, #[_, rfl], rfl, rfl, #[_, _, _, rfl, #[_, rfl], rfl, rfl, #[_, _, _, rfl, #[_, rfl], rfl, rfl, #[_, _, _, rfl, #[_, rfl], rfl, rfl, rfl]]]]]]]]])
    (case sP => kernel_rfl)
    (case pM => k_is)
    (case lM => k_is)
    (case kM => exact #[_, _, _, rfl, #[_, rfl], rfl, #[_, rfl], #[_, _, _, rfl, #[_, rfl], rfl, #[_, rfl], #[_, _, _, rfl, #[_, rfl], rfl, #[_, rfl], rfl]]])
    (case sM => kernel_rfl)
    (case q0 => kernel_rfl)
    (case q1 => kernel_rfl)
    (case q2 => kernel_rfl)
    (case q3 => kernel_rfl)
    (case q4 => kernel_rfl)
    (case q5 => kernel_rfl)
    (case q6 => kernel_rfl)
    (case q7 => kernel_rfl)
    (case q8 => kernel_rfl)
    (case z0 => k_is)
    (case z1 => k_is)
    (case z2 => k_is)
    (case z3 => k_is)
    (case z4 => k_is)
    (case z5 => k_is)
    (case z6 => k_is)
    (case z7 => k_is)
    (case z8 => k_is)
    (case z9 => k_is)
    (case z10 => k_is)
    (case z11 => k_is)
    (case z12 => k_is)
    (case I1 => exact G14.bu (by k_is) (by k_is) (by k_is))
    (case I2 => exact G14.bu (by k_is) (by k_is) (by k_is))
    (case I3 => exact G14.bu (by k_is) (by k_is) (by k_is))
    (case iK => k_is)
    (case MK => exact G14.bu (by k_is) (by k_is) (by k_is))
#print axioms PySem.Challenge.cw_gapwork_k14_kinds_and_heads_amiss_holds
